import PyProof.Rows.All
import Wide.All
import OpenK.AllK
import Wide.FinOn
import Lean
import PyProof.EqAt
import PyProof.EqKinds
import PyProof.TupleCall
import PyProof.NeKinds
import KE.IntBitsLaws
import KE.LcSums
import PyProof.ConsumeWalk
import PyProof.DictWalks
import PyProof.Rows.DictUnroll
import PySem.Challenge.RW_watchyard_k28_mixed_points
set_option Elab.async false
set_option linter.all false
set_option maxRecDepth 100000
namespace L2
open PySem PySem.Spec PyProof.Rows
abbrev Key := Sum Int Str
def keyIs : Key → Value → Bool
  | .inl k, v => Value.isInt k v
  | .inr x, v => Value.isStrOf x v
def keyH (w : World) : Key → Int
  | .inl k => hashInt k
  | .inr x => hashStr w x
theorem keyIs_shape : ∀ {k : Key} {v : Value}, keyIs k v = true → (∃ i t, k = Sum.inl i ∧ v = Value.int i t) ∨ (∃ x t, k = Sum.inr x ∧ v = Value.str x t)
  | .inl i, v, h => by
    obtain ⟨t, e⟩ := Value.isInt_shape (k := i) (v := v) h
    exact .inl ⟨i, t, rfl, e⟩
  | .inr x, v, h => by
    obtain ⟨t, e⟩ := Value.isStrOf_shape (x := x) (v := v) h
    exact .inr ⟨x, t, rfl, e⟩
theorem key_ll (a b : Int) : decide ((Sum.inl a : Key) = Sum.inl b) = (a == b) := by
  by_cases e : a = b
  · subst e; simp
  · have h : ¬ (Sum.inl a : Key) = Sum.inl b := fun q => e (Sum.inl.inj q)
    rw [decide_eq_false h]
    exact (beq_eq_false_iff_ne.mpr e).symm
theorem key_rr (a b : Str) : decide ((Sum.inr a : Key) = Sum.inr b) = decide (a = b) := by
  by_cases e : a = b
  · subst e; simp
  · have h : ¬ (Sum.inr a : Key) = Sum.inr b := fun q => e (Sum.inr.inj q)
    rw [decide_eq_false h, decide_eq_false e]
theorem key_lr (a : Int) (b : Str) : decide ((Sum.inl a : Key) = Sum.inr b) = false := decide_eq_false (fun q => nomatch q)
theorem key_rl (a : Str) (b : Int) : decide ((Sum.inr a : Key) = Sum.inl b) = false := decide_eq_false (fun q => nomatch q)
def mixKind (prog : Program) (w : World) : PySem.KeyKind prog w Key where
  is := keyIs
  hash := keyH w
  inj := fun v a b ha hb => by
    rcases keyIs_shape ha with ⟨i, t, rfl, rfl⟩ | ⟨x, t, rfl, rfl⟩
    · rcases keyIs_shape hb with ⟨j, u, rfl, e⟩ | ⟨y, u, rfl, e⟩
      · injection e with e1 _; rw [e1]
      · exact nomatch e
    · rcases keyIs_shape hb with ⟨j, u, rfl, e⟩ | ⟨y, u, rfl, e⟩
      · exact nomatch e
      · injection e with e1 _; rw [e1]
  byValue := fun k v h => by
    rcases keyIs_shape h with ⟨i, t, rfl, rfl⟩ | ⟨x, t, rfl, rfl⟩ <;> rfl
  pyHash := fun hv h => by
    rcases keyIs_shape hv with ⟨i, t, rfl, rfl⟩ | ⟨x, t, rfl, rfl⟩
    · exact wpAny_pyHash_int h
    · exact wpAny_pyHash_str h
  eqBool := fun hu hv h => by
    rcases keyIs_shape hu with ⟨i, t, rfl, rfl⟩ | ⟨x, t, rfl, rfl⟩
    · rcases keyIs_shape hv with ⟨j, u, rfl, rfl⟩ | ⟨y, u, rfl, rfl⟩
      · rw [key_ll] at h; exact wpAny_eqBool_int h
      · rw [key_lr] at h; exact SeqAt.EqAt.int_str i t y u _ _ _ _ h
    · rcases keyIs_shape hv with ⟨j, u, rfl, rfl⟩ | ⟨y, u, rfl, rfl⟩
      · rw [key_rl] at h; exact SeqAt.EqAt.str_int x t j u _ _ _ _ h
      · rw [key_rr] at h; exact wpAny_eqBool_str h
  «strs» := fun k x t v h => by
    rcases keyIs_shape h with ⟨i, u, rfl, e⟩ | ⟨y, u, rfl, e⟩
    · exact nomatch e
    · injection e with e1 _
      subst e1
      cases v <;> rfl
end L2
namespace L2
open PySem PySem.Spec PyProof.Rows
inductive V where
  | non | bl (b : Bool) | int (i : Int) | str (x : Str) | byt (b : Array UInt8) | flt (b : UInt64) | ref (a : Addr) | ty (n : String)
  deriving DecidableEq
def RelV : V → Value → Prop
  | .non, u => u = Value.none
  | .bl b, u => u = Value.bool b
  | .int i, u => ∃ t, u = Value.int i t
  | .str x, u => ∃ t, u = Value.str x t
  | .byt b, u => ∃ t, u = Value.bytes b t
  | .flt b, u => ∃ t, u = Value.float b t
  | .ref a, u => u = Value.ref a
  | .ty n, u => u = Value.type n
abbrev Vals : List V → List Value → Prop := Paired RelV
theorem Vals.length {xs : List V} {us : List Value} (r : Vals xs us) : xs.length = us.length := Paired.length r
theorem Vals.get : ∀ {xs : List V} {us : List Value} {i : Nat} {x : V}, Vals xs us → xs[i]? = some x → ∃ u, us[i]? = some u ∧ RelV x u
  | _, _, _, _, .nil, e => by simp at e
  | _, _, 0, _, .cons r _, e => by simp at e; subst e; exact ⟨_, rfl, r⟩
  | _, _, i + 1, x, .cons _ t, e => by
    obtain ⟨u, h1, h2⟩ := Vals.get (i := i) (x := x) t (by simpa using e)
    exact ⟨u, by simpa using h1, h2⟩
theorem Vals.set {x : V} {u : Value} (r : RelV x u) : ∀ {xs : List V} {us : List Value} (i : Nat), Vals xs us → Vals (xs.set i x) (us.set i u)
  | _, _, _, .nil => .nil
  | _, _, 0, .cons _ t => .cons r t
  | _, _, i + 1, .cons q t => .cons q (Vals.set r i t)
theorem Vals.append : ∀ {xs ys : List V} {us ws : List Value}, Vals xs us → Vals ys ws → Vals (xs ++ ys) (us ++ ws)
  | _, _, _, _, .nil, s => s
  | _, _, _, _, .cons r t, s => .cons r (Vals.append t s)
theorem Vals.take : ∀ {xs : List V} {us : List Value} (n : Nat), Vals xs us → Vals (xs.take n) (us.take n)
  | _, _, 0, _ => .nil
  | _, _, _ + 1, .nil => .nil
  | _, _, n + 1, .cons r t => .cons r (Vals.take n t)
theorem Vals.drop : ∀ {xs : List V} {us : List Value} (n : Nat), Vals xs us → Vals (xs.drop n) (us.drop n)
  | _, _, 0, r => r
  | _, _, _ + 1, .nil => .nil
  | _, _, n + 1, .cons _ t => Vals.drop n t
theorem Vals.none_of : ∀ {xs : List V} {us : List Value} {i : Nat}, Vals xs us → xs[i]? = none → us[i]? = none := fun {xs us i} r e => by
  have h1 := r.length
  have h2 : xs.length ≤ i := List.getElem?_eq_none_iff.mp e
  exact List.getElem?_eq_none_iff.mpr (by omega)
def RelO : Option V → Option Value → Prop
  | some v, some u => RelV v u
  | none, none => True
  | _, _ => False
def KV {κ : Type} : List (κ × V) → List (κ × Value) → Prop := Paired fun (p : κ × V) (q : κ × Value) => p.1 = q.1 ∧ RelV p.2 q.2
def kV : Key → V
  | .inl i => .int i
  | .inr x => .str x
inductive HO where
  | lst (xs : List V)
  | tup (xs : List V)
  | dK (kvs : List (Key × V)) | dT (kvs : List (List Key × V))
  | set (S : Int → Bool) (n : Nat)
  | ins (C dx : Addr) (fs : List (Str × V))
  | own (x : Addr)
  | xd (fs : List (Str × V))
  | met (f x : Addr)
  | rng (lo hi : Int)
  | frz (o : Obj) (u : HO)
  | tbl (ps : Array Value)
  | ext (φ : Heap → Prop)
abbrev Hp := Addr → Option HO
def upd (H : Hp) (a : Addr) (o : HO) : Hp := fun b => if b = a then some o else H b
theorem upd_same {H : Hp} {a : Addr} {o : HO} : upd H a o a = some o := by unfold upd; rw [if_pos rfl]
theorem upd_ne {H : Hp} {a b : Addr} {o : HO} (h : b ≠ a) : upd H a o b = H b := by unfold upd; rw [if_neg h]
theorem ne_of_none {H : Hp} {a b : Addr} {o : HO} (h : H a = some o) (h' : H b = none) : a ≠ b := by
  intro e; subst e; rw [h] at h'; cases h'
section
variable (P : Program) (w : World)
def ObjOk (H : Hp) (h : Heap) (a : Addr) : HO → Prop
  | .lst xs => xs.length ≤ sizeLine ∧ ∃ (its : List Value) (n : Nat), Vals xs its ∧ h.get? a = some { cls := .type "list", data := .seq its.toArray n }
  | .tup xs => xs.length ≤ sizeLine ∧ ∃ its : List Value, Vals xs its ∧ IsTup h a its.toArray
  | .dK kvs => kvs.length ≤ sizeLine ∧ (a == sysModules) = false ∧ ∃ vs, KV kvs vs ∧ h.DictOf (mixKind P w) a vs
  | .dT kvs => kvs.length ≤ sizeLine ∧ (a == sysModules) = false ∧ ∃ xs : List (List Key × Addr × Value),
      Paired (fun (p : List Key × V) (q : List Key × Addr × Value) => p.1 = q.1 ∧ H q.2.1 = some (.tup (p.1.map kV)) ∧ RelV p.2 q.2.2) kvs xs ∧
      ∃ o es ep, h.get? a = some o ∧ o.ExactDict ∧ o.data = .dict es ep ∧ es.toList = xs.map (entryOfKey (tupleKind (mixKind P w))) ∧ (xs.map (·.1)).Nodup
  | .set S n => h.SetOf (intKind P w) a S n
  | .ins C dx fs => H dx = some (.own a) ∧ fs.length ≤ 1000 ∧ dx ≠ a ∧ h.get? a = some (PySem.W.instObj C dx) ∧
      ∃ mA, h.Ns1 dx mA ∧ (∀ f, RelO (fs.lookup f) (mA f)) ∧ PySem.Within mA (fs.map (·.1))
  | .own _ => ∃ o, h.get? a = some o
  | .xd fs => ∃ mA, h.Ns1 a mA ∧ ∀ f, RelO (fs.lookup f) (mA f)
  | .rng lo hi => ∃ t u v, h.get? a = some { cls := .type "range", data := .fields #[.int lo t, .int hi u, .int 1 v] }
  | .frz o u => h.get? a = some o ∧ ObjOk H h a u
  | .tbl ps => h.get? a = some { cls := .none, data := .fields ps }
  | .met f x => h.get? a = some (PySem.W.methodObj (.ref f) (.ref x))
  | .ext φ => φ h ∧ (∃ o, h.get? a = some o) ∧ ∀ h1 h2 : Heap, φ h1 → (∀ o, h1.get? a = some o → h2.get? a = some o) → φ h2
def HOk (H : Hp) (h : Heap) : Prop := ∀ a o, H a = some o → ObjOk P w H h a o
end
section
variable {P : Program} {w : World} {H H' : Hp} {h h' : Heap} {a : Addr} {o : HO}
theorem ObjOk.lt (x : ObjOk P w H h a o) : a < h.objs.size := by
  cases o with
  | lst xs => obtain ⟨_, _, _, _, e⟩ := x; exact Heap.lt_size e
  | tup xs => obtain ⟨_, _, _, p⟩ := x; exact p.lt
  | dK kvs => obtain ⟨_, _, _, _, o, _, _, e, _⟩ := x; exact Heap.lt_size e
  | dT kvs => obtain ⟨_, _, _, _, o, _, _, e, _⟩ := x; exact Heap.lt_size e
  | set S n => obtain ⟨o, _, _, _, e, _⟩ := x; exact Heap.lt_size e
  | ins C dx fs => obtain ⟨_, _, _, e, _⟩ := x; exact Heap.lt_size e
  | own y => obtain ⟨_, e⟩ := x; exact Heap.lt_size e
  | xd fs => obtain ⟨_, ⟨_, _, _, e, _⟩, _⟩ := x; exact Heap.lt_size e
  | rng lo hi => obtain ⟨_, _, _, e⟩ := x; exact Heap.lt_size e
  | frz ob u => obtain ⟨e, _⟩ := x; exact Heap.lt_size e
  | tbl ps => exact Heap.lt_size (show h.get? a = some _ from x)
  | met f y => exact Heap.lt_size (show h.get? a = some _ from x)
  | ext φ => obtain ⟨_, ⟨_, e⟩, _⟩ := x; exact Heap.lt_size e
theorem Paired.mapP {α β : Type} {F G : α → β → Prop} : ∀ {l₁ : List α} {l₂ : List β}, Paired F l₁ l₂ → (∀ a b, F a b → G a b) → Paired G l₁ l₂
  | _, _, .nil, _ => .nil
  | _, _, .cons r t, f => .cons (f _ _ r) (Paired.mapP t f)
theorem ObjOk.stay (x : ObjOk P w H h a o) (k : ∀ b u, (b = a ∨ H b = some (.own a)) → h.get? b = some u → h'.get? b = some u)
    (ho : ∀ b, H b = some (.own a) → H' b = some (.own a)) (ht : ∀ b xs, H b = some (.tup xs) → H' b = some (.tup xs)) : ObjOk P w H' h' a o := by
  induction o with
  | lst xs => obtain ⟨z, its, n, r, e⟩ := x; exact ⟨z, its, n, r, k _ _ (.inl rfl) e⟩
  | tup xs => obtain ⟨z, its, r, ob, e, c⟩ := x; exact ⟨z, its, r, ob, k _ _ (.inl rfl) e, c⟩
  | dK kvs => obtain ⟨z, y, vs, r, ob, es, ep, e, c⟩ := x; exact ⟨z, y, vs, r, ob, es, ep, k _ _ (.inl rfl) e, c⟩
  | dT kvs =>
    obtain ⟨z, y, xs, r, ob, es, ep, e, c⟩ := x
    exact ⟨z, y, xs, Paired.mapP r fun p q z => ⟨z.1, ht _ _ z.2.1, z.2.2⟩, ob, es, ep, k _ _ (.inl rfl) e, c⟩
  | set S n => obtain ⟨ob, es, ep, t, e, c⟩ := x; exact ⟨ob, es, ep, t, k _ _ (.inl rfl) e, c⟩
  | ins C dx fs =>
    obtain ⟨d, z, ne, e, mA, ⟨od, es, ep, e2, c⟩, r⟩ := x
    exact ⟨ho _ d, z, ne, k _ _ (.inl rfl) e, mA, ⟨od, es, ep, k _ _ (.inr d) e2, c⟩, r⟩
  | own y => obtain ⟨ob, e⟩ := x; exact ⟨ob, k _ _ (.inl rfl) e⟩
  | xd fs => obtain ⟨mA, ⟨od, es, ep, e, c⟩, r⟩ := x; exact ⟨mA, ⟨od, es, ep, k _ _ (.inl rfl) e, c⟩, r⟩
  | rng lo hi => obtain ⟨t, u, v, e⟩ := x; exact ⟨t, u, v, k _ _ (.inl rfl) e⟩
  | frz ob u ih => obtain ⟨e, q⟩ := x; exact ⟨k _ _ (.inl rfl) e, ih q⟩
  | tbl ps =>
    have e : h.get? a = some { cls := .none, data := .fields ps } := x
    show h'.get? a = some { cls := .none, data := .fields ps }
    exact k a _ (.inl rfl) e
  | met f y =>
    have e : h.get? a = some (PySem.W.methodObj (.ref f) (.ref y)) := x
    show h'.get? a = some (PySem.W.methodObj (.ref f) (.ref y))
    exact k a _ (.inl rfl) e
  | ext φ => obtain ⟨p, ⟨o, e⟩, st⟩ := x; exact ⟨st _ _ p fun o q => k _ _ (.inl rfl) q, ⟨o, k _ _ (.inl rfl) e⟩, st⟩
theorem HOk.lt (x : HOk P w H h) (e : H a = some o) : a < h.objs.size := (x a o e).lt
theorem HOk.fresh (x : HOk P w H h) (e : h.objs.size ≤ a) : H a = none := by
  cases q : H a with
  | none => rfl
  | some u => exact absurd (Nat.lt_of_lt_of_le (x.lt q) e) (Nat.lt_irrefl _)
theorem HOk.kept (x : HOk P w H h) (k : ∀ b u, h.get? b = some u → h'.get? b = some u) : HOk P w H h' := fun a o e =>
  (x a o e).stay (fun b u _ q => k b u q) (fun _ q => q) fun _ _ q => q
theorem HOk.laid (x : HOk P w H h) (k : ∀ b u, h.get? b = some u → h'.get? b = some u) (hp : h.objs.size ≤ a) (new : ObjOk P w (upd H a o) h' a o) : HOk P w (upd H a o) h' := fun b u e => by
  have hn := x.fresh hp
  by_cases hb : b = a
  · subst hb; rw [upd_same] at e; cases e; exact new
  · rw [upd_ne hb] at e
    exact (x b u e).stay (fun c v _ q => k c v q) (fun c q => by rw [upd_ne (ne_of_none q hn)]; exact q) fun c xs q => by rw [upd_ne (ne_of_none q hn)]; exact q
end
def Rd (H : Hp) (a : Addr) (u : HO) : Prop := H a = some u ∨ ∃ o, H a = some (.frz o u)
theorem Rd.of {H : Hp} {a : Addr} {u : HO} (h : H a = some u) : Rd H a u := .inl h
theorem Rd.ok {P : Program} {w : World} {H : Hp} {h : Heap} {a : Addr} {u : HO} (r : Rd H a u) (x : HOk P w H h) : ObjOk P w H h a u := by
  rcases r with r | ⟨o, r⟩
  · exact x a u r
  · obtain ⟨_, q⟩ := x a _ r
    exact q
def Mut : Option HO → Prop
  | some (.lst _) => True
  | some (.dK _) => True
  | some (.dT _) => True
  | some (.set _ _) => True
  | some (.ins _ _ _) => True
  | some (.ext _) => True
  | _ => False
section
variable {P : Program} {w : World} {H : Hp} {h h' : Heap} {x e : Addr} {o' : HO}
theorem HOk.write (ok : HOk P w H h) (mu : Mut (H x)) (he : e = x ∨ H e = some (.own x)) (k : ∀ b u, b ≠ e → h.get? b = some u → h'.get? b = some u) (heo : ∃ u, h'.get? e = some u)
    (new : ObjOk P w (upd H x o') h' x o') : HOk P w (upd H x o') h' := fun b u q => by
  have nown : ∀ c y, H c = some (.own y) → c ≠ x := fun c y r z => by subst z; rw [r] at mu; exact mu
  have ntup : ∀ c xs, H c = some (.tup xs) → c ≠ x := fun c xs r z => by subst z; rw [r] at mu; exact mu
  by_cases hb : b = x
  · subst hb; rw [upd_same] at q; cases q; exact new
  · rw [upd_ne hb] at q
    by_cases hbe : b = e
    · have q' : H b = some (.own x) := by
        rcases he with z | z
        · exact absurd (hbe.trans z) hb
        · rw [hbe]; exact z
      rw [q] at q'; cases q'
      obtain ⟨v, hv⟩ := heo
      exact ⟨v, by rw [hbe]; exact hv⟩
    · refine (ok b u q).stay (fun c v hc r => k c v ?_ r) (fun c r => by rw [upd_ne (nown c b r)]; exact r) fun c xs r => by rw [upd_ne (ntup c xs r)]; exact r
      rcases hc with rfl | hc
      · exact hbe
      · rintro rfl
        rcases he with z | z
        · exact nown c b hc z
        · rw [hc] at z; cases z; exact hb rfl
end
structure Un (fs ex : List Addr) (H H' : Hp) (h h' : Heap) : Prop where
  keep : ∀ b o, h.get? b = some o → H b = none → b ∉ fs → b ∉ ex → h'.get? b = some o
  slot : ∀ b o, h.get? b = some o → H b = none → b ∈ fs → b ∉ ex → ∃ sl, h'.get? b = some { o with slots := sl }
  free : ∀ b o, h.get? b = some o → H b = none → b ∉ ex → H' b = none
  there : ∀ b o, h.get? b = some o → b ∉ ex → ∃ o', h'.get? b = some o'
  tups : ∀ b xs, H b = some (.tup xs) → H' b = some (.tup xs)
  frzs : ∀ b o u, H b = some (.frz o u) → H' b = some (.frz o u)
  tbls : ∀ b ps, H b = some (.tbl ps) → ∃ more, H' b = some (.tbl (ps ++ more))
section
variable {fs fs' ex ex' : List Addr} {H H1 H2 : Hp} {h h1 h2 h' : Heap} {a x e : Addr} {o : HO}
theorem Un.any (u : Un fs ex H H1 h h1) {b : Addr} {ob : Obj} (q : h.get? b = some ob) (n : H b = none) (hx : b ∉ ex) : ∃ sl, h1.get? b = some { ob with slots := sl } := by
  by_cases hb : b ∈ fs
  · exact u.slot b ob q n hb hx
  · exact ⟨ob.slots, u.keep b ob q n hb hx⟩
theorem Un.trans (a : Un fs ex H H1 h h1) (b : Un fs ex H1 H2 h1 h2) : Un fs ex H H2 h h2 where
  keep := fun c ob q n hc hx => b.keep c ob (a.keep c ob q n hc hx) (a.free c ob q n hx) hc hx
  slot := fun c ob q n hc hx => by
    obtain ⟨sl, e1⟩ := a.slot c ob q n hc hx
    obtain ⟨sl', e2⟩ := b.slot c _ e1 (a.free c ob q n hx) hc hx
    exact ⟨sl', e2⟩
  free := fun c ob q n hx => by
    obtain ⟨o', e1⟩ := a.there c ob q hx
    exact b.free c o' e1 (a.free c ob q n hx) hx
  there := fun c ob q hx => by
    obtain ⟨o', e1⟩ := a.there c ob q hx
    exact b.there c o' e1 hx
  tups := fun c xs q => b.tups c xs (a.tups c xs q)
  frzs := fun c ob xs q => b.frzs c ob xs (a.frzs c ob xs q)
  tbls := fun c ps q => by
    obtain ⟨m1, e1⟩ := a.tbls c ps q
    obtain ⟨m2, e2⟩ := b.tbls c _ e1
    exact ⟨m1 ++ m2, by rw [e2, Array.append_assoc]⟩
theorem Un.kept (k : ∀ b u, h.get? b = some u → h'.get? b = some u) : Un fs ex H H h h' :=
  ⟨fun b ob q _ _ _ => k b ob q, fun b ob q _ _ _ => ⟨ob.slots, k b ob q⟩, fun _ _ _ n _ => n, fun b ob q _ => ⟨ob, k b ob q⟩, fun _ _ q => q, fun _ _ _ q => q, fun _ ps q => ⟨#[], by rw [q]; simp⟩⟩
theorem Un.refl : Un fs ex H H h h := Un.kept fun _ _ q => q
theorem Un.laid (k : ∀ b u, h.get? b = some u → h'.get? b = some u) (hp : h.objs.size ≤ a) (hn : H a = none) : Un fs ex H (upd H a o) h h' where
  keep := fun b u q _ _ _ => k b u q
  slot := fun b u q _ _ _ => ⟨u.slots, k b u q⟩
  free := fun b u q n _ => by rw [upd_ne (Nat.ne_of_lt (Nat.lt_of_lt_of_le (Heap.lt_size q) hp))]; exact n
  there := fun b u q _ => ⟨u, k b u q⟩
  tups := fun b xs q => by rw [upd_ne (ne_of_none q hn)]; exact q
  frzs := fun b u xs q => by rw [upd_ne (ne_of_none q hn)]; exact q
  tbls := fun b ps q => ⟨#[], by rw [upd_ne (ne_of_none q hn), q]; simp⟩
theorem Un.write (mu : Mut (H x)) (he : e = x ∨ H e = some (.own x)) (k : ∀ b u, b ≠ e → h.get? b = some u → h'.get? b = some u) (heo : ∃ u, h'.get? e = some u) : Un fs ex H (upd H x o) h h' := by
  have hx : ∀ b, H b = none → b ≠ x := fun b n z => by subst z; rw [n] at mu; exact mu
  have hb : ∀ b, H b = none → b ≠ e := fun b n z => by
    subst z
    rcases he with r | r
    · exact hx b n r
    · rw [n] at r; cases r
  have hm : ∀ b u, H b = some u → ¬ Mut (some u) → b ≠ x := fun b u q nm z => by subst z; rw [q] at mu; exact nm mu
  refine ⟨fun b u q n _ _ => k b u (hb b n) q, fun b u q n _ _ => ⟨u.slots, k b u (hb b n) q⟩, fun b u q n _ => by rw [upd_ne (hx b n)]; exact n, fun b u q _ => ?_,
    fun b xs q => by rw [upd_ne (hm b _ q fun z => z)]; exact q, fun b u xs q => by rw [upd_ne (hm b _ q fun z => z)]; exact q, fun b ps q => ⟨#[], by rw [upd_ne (hm b _ q fun z => z), q]; simp⟩⟩
  by_cases hbe : b = e
  · subst hbe; exact heo
  · exact ⟨u, k b u hbe q⟩
theorem Un.mono (u : Un fs ex H H1 h h1) (hs : ∀ b ∈ fs, b ∈ fs') (hx : ∀ b ∈ ex, b ∈ ex') : Un fs' ex' H H1 h h1 :=
  ⟨fun b ob q n hb he => u.keep b ob q n (fun z => hb (hs b z)) fun z => he (hx b z), fun _ _ q n _ he => u.any q n fun z => he (hx _ z), fun b ob q n he => u.free b ob q n fun z => he (hx b z), fun b ob q he => u.there b ob q fun z => he (hx b z), u.tups, u.frzs, u.tbls⟩
end
def trk (h : Heap) (H : Hp) : List Addr := (List.range h.objs.size).filter fun a => (H a).isSome
def hidT (h : Heap) (H : Hp) : Heap := PySem.W.hideAll h (trk h H)
theorem hidT_size (h : Heap) (H : Hp) : (hidT h H).objs.size = h.objs.size := PySem.W.hideAll_size _ _
theorem hidT_get {h : Heap} {H : Hp} {b : Addr} {o : Obj} (e : h.get? b = some o) (n : H b = none) : (hidT h H).get? b = some o :=
  PySem.W.hideAll_get _ e fun hm => by
    have q : (H b).isSome = true := (List.mem_filter.mp hm).2
    rw [n] at q; simp at q
theorem of_hidT {h : Heap} {H : Hp} {b : Addr} {o : Obj} (e : (hidT h H).get? b = some o) : h.get? b = some o ∧ H b = none := by
  have e' : h.get? b = some o := PySem.W.of_hideAll (trk h H) e
  refine ⟨e', ?_⟩
  cases q : H b with
  | none => rfl
  | some x =>
    have hm : b ∈ trk h H := List.mem_filter.mpr ⟨List.mem_range.mpr (Heap.lt_size e'), by simp [q]⟩
    have z : (hidT h H).get? b = none := PySem.W.hideAll_none (trk h H) hm
    rw [z] at e; cases e
def allNews (g h : Heap) (L : Addr) : List (Addr × Obj) := (List.range h.objs.size).filterMap fun a => if a = L ∨ (g.get? a).isSome = true then none else (h.get? a).map fun o => (a, o)
def rest (g h : Heap) (L d : Addr) : List (Addr × Obj) := (allNews g h L).filter fun p => decide (p.1 ≠ d)
end L2
namespace L2
open PySem PySem.Spec PyProof.Rows
structure Mod (K : PySem.W.Frag) (mg : Str → Option Value) (base : Heap) : Prop where
  kin : K.In base
  glob : base.Ns mainGlobals mg
  blt : ∃ mb, base.Ns builtinsNs mb ∧ ∀ x : Str, x ≠ "__name__" → mb x = bootBuiltins x
  nolimit : base.NoLimit
structure Cx where
  prog : Program
  w : World
  K : PySem.W.Frag
  mg : Str → Option Value
  base : Heap
  A : Around
  N : List Str
  s₀ : Shared
  H₀ : Hp
  env : Env
  outer : List Env
  stack : List Env
  ex : List Addr
  fn : Str → Bool
  calm : Bool
  pn : List (Addr × Obj)
  xe : Value → Shared → Prop
def frs (l : List Env) : List Addr := l.filterMap (·.frame)
abbrev Cx.fs (X : Cx) : List Addr := frs X.outer
def Vis (sc : Scope) (x : Str) : Prop := sc.names.lookup x = some .local ∨ sc.names.lookup x = some .cell ∨ sc.names.lookup x = some .free
def Loc (sc : Scope) (x : Str) : Prop := sc.names.lookup x = some .local ∨ sc.names.lookup x = some .cell
def Look (env : Env) (h : Heap) (m : Str → Option Value) (x : Str) (u : Value) : Prop :=
  (env.kindOf x = some .local ∧ m x = some u) ∨ ((env.kindOf x = some .cell ∨ env.kindOf x = some .free) ∧ ∃ c, env.cells.lookup x = some c ∧ h.IsCell c (some u))
structure Cx.Ok (X : Cx) : Prop where
  mod : Mod X.K X.mg X.base
  kind : X.env.scope.kind = .function
  glob : X.env.globals = mainGlobals
  blt : X.env.builtins = builtinsNs
  above : X.s₀.heap.objs.size ≤ X.env.locals
  inj : ∀ x y c, X.env.cells.lookup x = some c → X.env.cells.lookup y = some c → x = y
  has : ∀ x, (X.env.kindOf x = some .cell ∨ X.env.kindOf x = some .free) → ∃ c, X.env.cells.lookup x = some c
  cab : ∀ x c, X.fn x = true → X.env.cells.lookup x = some c → X.s₀.heap.objs.size ≤ c
  hd : X.calm = true → X.A.handled = none
  frames : X.A.frames = some X.stack
  stk : X.stack = X.outer ∨ (X.stack = X.env :: X.outer ∧ X.env.frame = some X.env.locals)
  exf : ∀ b ∈ X.ex, b ≠ X.env.locals ∧ ∀ x c, X.env.cells.lookup x = some c → c ≠ b
  bs : ∀ b o, X.base.get? b = some o → X.s₀.heap.get? b = some o ∧ X.H₀ b = none
  bsz : X.base.objs.size ≤ X.s₀.heap.objs.size
  noex : ∀ b o, X.base.get? b = some o → b ∉ X.ex
  exfs : ∀ b ∈ X.ex, b ∉ X.fs
  funs : X.s₀.heap.FunFrames X.base X.outer
  frf : ∀ b ∈ X.fs, X.H₀ b = none
structure Inv (X : Cx) (pins : List (Addr × Obj)) (σ : List (Option V)) (H : Hp) (s : Shared) : Prop where
  ok : X.Ok
  os : s.os = X.s₀.os
  bare : AllBare s.gens
  base : Un X.fs X.ex X.H₀ H X.s₀.heap s.heap
  loc : ∃ m, s.heap.Ns X.env.locals m ∧ ∀ (i : Nat) (x : Str) (v : V), X.N[i]? = some x → σ[i]? = some (some v) → Vis X.env.scope x → ∃ u, RelV v u ∧ Look X.env s.heap m x u
  cell : ∀ x c, X.env.cells.lookup x = some c → ∃ v, s.heap.IsCell c v
  free : H X.env.locals = none
  freeC : ∀ x c, X.env.cells.lookup x = some c → H c = none
  pin : ∀ p ∈ X.pn ++ pins, s.heap.get? p.1 = some p.2 ∧ H p.1 = none ∧ p.1 ≠ X.env.locals ∧ p.1 ∉ X.fs ∧ ∀ v, p.2.data ≠ .cell v
  hok : HOk X.prog X.w H s.heap
  len : σ.length = X.N.length
section
variable {X : Cx} {pins : List (Addr × Obj)} {σ : List (Option V)} {H H' : Hp} {s : Shared} {h' : Heap}
theorem Cx.Ok.nofr (ok : X.Ok) {b : Addr} {o : Obj} (e : X.base.get? b = some o) : b ∉ X.fs := fun hb => by
  have := (ok.funs.mem hb).1
  rw [e] at this; cases this
theorem Inv.bs (I : Inv X pins σ H s) : ∀ b o, X.base.get? b = some o → s.heap.get? b = some o ∧ H b = none := fun b o e =>
  ⟨I.base.keep b o (I.ok.bs b o e).1 (I.ok.bs b o e).2 (I.ok.nofr e) (I.ok.noex b o e), I.base.free b o (I.ok.bs b o e).1 (I.ok.bs b o e).2 (I.ok.noex b o e)⟩
theorem Inv.bk (I : Inv X pins σ H s) : ∀ b o, X.base.get? b = some o → s.heap.get? b = some o := fun b o e => (I.bs b o e).1
theorem Inv.mod (I : Inv X pins σ H s) : Mod X.K X.mg X.base := I.ok.mod
theorem Inv.kIn (I : Inv X pins σ H s) : X.K.In s.heap := I.ok.mod.kin.keeps I.bk
theorem Inv.nolimit (I : Inv X pins σ H s) : s.heap.NoLimit := I.ok.mod.nolimit.keeps I.bk
theorem Inv.fr (I : Inv X pins σ H s) : ∃ m, Fr X.base X.env.locals s.heap m :=
  let ⟨m, hn, _⟩ := I.loc
  ⟨m, hn, I.bk, Nat.le_trans I.ok.bsz I.ok.above⟩
theorem Inv.lt (I : Inv X pins σ H s) : X.env.locals < s.heap.objs.size := let ⟨_, hn, _⟩ := I.loc; hn.lt
theorem Inv.sz (I : Inv X pins σ H s) : X.s₀.heap.objs.size ≤ s.heap.objs.size := Nat.le_trans I.ok.above (Nat.le_of_lt I.lt)
theorem Inv.nofs (I : Inv X pins σ H s) {a : Addr} (h : s.heap.objs.size ≤ a) : a ∉ X.fs := fun hb => by
  obtain ⟨_, o, ho, _⟩ := I.ok.funs.mem hb
  exact absurd (Nat.lt_of_lt_of_le (Heap.lt_size ho) (Nat.le_trans I.sz h)) (Nat.lt_irrefl _)
theorem Inv.cne (I : Inv X pins σ H s) : ∀ x c, X.env.cells.lookup x = some c → c ≠ X.env.locals := fun x c e z => by
  obtain ⟨v, o, ho, hd⟩ := I.cell x c e
  obtain ⟨m, ⟨o', es, ep, ho', hd', _⟩, _⟩ := I.loc
  rw [z, ho'] at ho; cases ho; rw [hd'] at hd; cases hd
theorem Inv.funs (I : Inv X pins σ H s) : s.heap.FunFrames X.base X.outer := by
  have all : ∀ (l : List Env), (∀ b ∈ frs l, b ∈ X.fs) → X.s₀.heap.FunFrames X.base l → s.heap.FunFrames X.base l := by
    intro l
    induction l with
    | nil => intro _ _; trivial
    | cons env r ih =>
      intro hs hl
      obtain ⟨hk, ⟨L, o, hf, hn, ho, hd⟩, hr⟩ := hl
      have hL : L ∈ X.fs := hs L (by unfold frs; rw [List.filterMap_cons, hf]; exact List.mem_cons_self)
      obtain ⟨sl, e⟩ := I.base.slot L o ho (I.ok.frf L hL) hL fun z => I.ok.exfs L z hL
      exact ⟨hk, ⟨L, _, hf, hn, e, hd⟩, ih (fun b hb => hs b (by unfold frs; rw [List.filterMap_cons, hf]; exact List.mem_cons_of_mem _ hb)) hr⟩
  exact all X.outer (fun _ hb => hb) I.ok.funs
theorem Inv.stack (I : Inv X pins σ H s) : s.heap.FunFrames X.base X.stack := by
  rcases I.ok.stk with e | ⟨e, hf⟩
  · rw [e]; exact I.funs
  · rw [e]
    obtain ⟨m, hn, _⟩ := I.loc
    refine .cons (by rw [I.ok.kind]; decide) hf hn ?_ I.funs
    exact Heap.get?_none_of_le (Nat.le_trans I.ok.bsz I.ok.above)
theorem Inv.stkSub (I : Inv X pins σ H s) : ∀ b ∈ frs X.stack, b ∈ X.env.locals :: X.fs := fun b hb => by
  rcases I.ok.stk with e | ⟨e, hf⟩
  · rw [e] at hb; exact List.mem_cons_of_mem _ hb
  · rw [e] at hb
    unfold frs at hb
    rw [List.filterMap_cons, hf] at hb
    exact hb
theorem Inv.stkFree (I : Inv X pins σ H s) : ∀ b ∈ frs X.stack, H b = none := fun b hb => by
  rcases List.mem_cons.mp (I.stkSub b hb) with e | hb
  · rw [e]; exact I.free
  · obtain ⟨_, o, ho, _⟩ := I.ok.funs.mem hb
    exact I.base.free b o ho (I.ok.frf b hb) fun z => I.ok.exfs b z hb
theorem Inv.step {g' : Array GenState} {t' : Nat} {d' : Drawn} {ch : List Addr} (I : Inv X pins σ H s)
    (hch : ∀ b ∈ ch, (b ∈ X.ex ∨ X.s₀.heap.objs.size ≤ b) ∧ b ≠ X.env.locals ∧ (∀ x c, X.env.cells.lookup x = some c → c ≠ b) ∧ ∀ p ∈ X.pn ++ pins, p.1 ≠ b)
    (keep : ∀ b o, b ≠ X.env.locals → b ∉ X.fs → b ∉ ch → s.heap.get? b = some o → H b = none → h'.get? b = some o)
    (slot : ∀ b o, b ≠ X.env.locals → b ∈ X.fs → b ∉ ch → s.heap.get? b = some o → H b = none → ∃ sl, h'.get? b = some { o with slots := sl }) (free : ∀ b o, b ∉ ch → s.heap.get? b = some o → H b = none → H' b = none)
    (there : ∀ b o, b ∉ ch → s.heap.get? b = some o → ∃ o', h'.get? b = some o')
    (tups : ∀ b xs, H b = some (.tup xs) → H' b = some (.tup xs)) (frzs : ∀ b o u, H b = some (.frz o u) → H' b = some (.frz o u)) (tbls : ∀ b ps, H b = some (.tbl ps) → ∃ more, H' b = some (.tbl (ps ++ more)))
    (ns : ∀ m, s.heap.Ns X.env.locals m → h'.Ns X.env.locals m) (hok : HOk X.prog X.w H' h') (hg : AllBare g') :
    Inv X pins σ H' { s with heap := h', gens := g', drawn := d', toks := t' } := by
  have neL : ∀ b o, X.s₀.heap.get? b = some o → b ≠ X.env.locals := fun b o e => Nat.ne_of_lt (Nat.lt_of_lt_of_le (Heap.lt_size e) I.ok.above)
  have neC : ∀ b o, X.s₀.heap.get? b = some o → b ∉ X.ex → b ∉ ch := fun b o e hx hb => by
    rcases (hch b hb).1 with z | z
    · exact hx z
    · exact absurd (Nat.lt_of_lt_of_le (Heap.lt_size e) z) (Nat.lt_irrefl _)
  have cellK : ∀ x c, X.env.cells.lookup x = some c → ∀ v, s.heap.IsCell c v → h'.IsCell c v := fun x c e v ⟨o, ho, hd⟩ => by
    have nch : c ∉ ch := fun z => (hch c z).2.2.1 x c e rfl
    by_cases hc : c ∈ X.fs
    · obtain ⟨sl, q⟩ := slot c o (I.cne x c e) hc nch ho (I.freeC x c e)
      exact ⟨_, q, hd⟩
    · exact ⟨o, keep c o (I.cne x c e) hc nch ho (I.freeC x c e), hd⟩
  refine ⟨I.ok, I.os, hg, ⟨fun b o e n hb hx => ?_, fun b o e n hb hx => ?_, fun b o e n hx => ?_, fun b o e hx => ?_, fun b xs e => tups b xs (I.base.tups b xs e), fun b o xs e => frzs b o xs (I.base.frzs b o xs e), fun b ps e => ?_⟩, ?_, fun x c e => ?_, ?_, fun x c e => ?_, fun p hp => ?_, hok, I.len⟩
  · exact keep b o (neL b o e) hb (neC b o e hx) (I.base.keep b o e n hb hx) (I.base.free b o e n hx)
  · obtain ⟨sl, e1⟩ := I.base.slot b o e n hb hx
    obtain ⟨sl', e2⟩ := slot b _ (neL b o e) hb (neC b o e hx) e1 (I.base.free b o e n hx)
    exact ⟨sl', e2⟩
  · obtain ⟨o', e1⟩ := I.base.there b o e hx
    exact free b o' (neC b o e hx) e1 (I.base.free b o e n hx)
  · obtain ⟨o', e1⟩ := I.base.there b o e hx
    exact there b o' (neC b o e hx) e1
  · obtain ⟨m1, e1⟩ := I.base.tbls b ps e
    obtain ⟨m2, e2⟩ := tbls b _ e1
    exact ⟨m1 ++ m2, by rw [e2, Array.append_assoc]⟩
  · obtain ⟨m, hn, hl⟩ := I.loc
    refine ⟨m, ns m hn, fun i x v e1 e2 e3 => ?_⟩
    obtain ⟨u, r, l⟩ := hl i x v e1 e2 e3
    refine ⟨u, r, ?_⟩
    rcases l with l | ⟨k, c, e, z⟩
    · exact .inl l
    · exact .inr ⟨k, c, e, cellK x c e _ z⟩
  · obtain ⟨v, z⟩ := I.cell x c e
    exact ⟨v, cellK x c e v z⟩
  · obtain ⟨m, ⟨o, _, _, ho, _⟩, _⟩ := I.loc
    exact free _ o (fun z => (hch _ z).2.1 rfl) ho I.free
  · obtain ⟨v, o, ho, hd⟩ := I.cell x c e
    exact free c o (fun z => (hch c z).2.2.1 x c e rfl) ho (I.freeC x c e)
  · obtain ⟨e, n, ne, nf, d⟩ := I.pin p hp
    have nch : p.1 ∉ ch := fun z => (hch p.1 z).2.2.2 p hp rfl
    exact ⟨keep p.1 p.2 ne nf nch e n, free p.1 p.2 nch e n, ne, nf, d⟩
theorem Inv.un {t' : Nat} (I : Inv X pins σ H s) (u : Un X.fs [] H H' s.heap h') (hok : HOk X.prog X.w H' h') : Inv X pins σ H' { s with heap := h', toks := t' } := by
  obtain ⟨m, ⟨o, es, ep, ho, r⟩, _⟩ := id I.loc
  obtain ⟨sl, hL⟩ := u.any ho I.free (by simp)
  exact I.step (g' := s.gens) (d' := s.drawn) (ch := []) (fun _ z => nomatch z) (fun b o _ hb _ e n => u.keep b o e n hb (by simp)) (fun b o _ hb _ e n => u.slot b o e n hb (by simp)) (fun b o _ e n => u.free b o e n (by simp)) (fun b o _ e => u.there b o e (by simp)) u.tups u.frzs u.tbls (fun m' hm => by
    obtain ⟨o', es', ep', ho', r'⟩ := hm
    rw [ho] at ho'; cases ho'
    exact ⟨_, es', ep', hL, r'⟩) hok I.bare
theorem Inv.call {g' : Array GenState} {t' : Nat} {d' : Drawn} {ch : List Addr} (I : Inv X pins σ H s) (u : Un (frs X.stack) ch H H' s.heap h') (hok : HOk X.prog X.w H' h') (hg : AllBare g')
    (hch : ∀ b ∈ ch, (b ∈ X.ex ∨ X.s₀.heap.objs.size ≤ b) ∧ b ≠ X.env.locals ∧ (∀ x c, X.env.cells.lookup x = some c → c ≠ b) ∧ ∀ p ∈ X.pn ++ pins, p.1 ≠ b) :
    Inv X pins σ H' { s with heap := h', gens := g', drawn := d', toks := t' } := by
  obtain ⟨m, ⟨o, es, ep, ho, r⟩, _⟩ := id I.loc
  obtain ⟨sl, hL⟩ := u.any ho I.free fun z => (hch _ z).2.1 rfl
  exact I.step (ch := ch) hch (fun b o hL hb hc e n => u.keep b o e n (fun z => (List.mem_cons.mp (I.stkSub b z)).elim hL hb) hc) (fun b o _ _ hc e n => u.any e n hc) (fun b o hc e n => u.free b o e n hc) (fun b o hc e => u.there b o e hc) u.tups u.frzs u.tbls (fun m' hm => by
    obtain ⟨o', es', ep', ho', r'⟩ := hm
    rw [ho] at ho'; cases ho'
    exact ⟨_, es', ep', hL, r'⟩) hok hg
theorem Inv.turned {t' : Nat} {it : Addr} (I : Inv X pins σ H s) (k : ∀ b o, b ≠ it → s.heap.get? b = some o → h'.get? b = some o) (hn : H it = none) (hL : it ≠ X.env.locals)
    (h1 : it ∈ X.ex ∨ X.s₀.heap.objs.size ≤ it) (h2 : ∀ x c, X.env.cells.lookup x = some c → c ≠ it) (h3 : ∀ p ∈ X.pn ++ pins, p.1 ≠ it) : Inv X pins σ H { s with heap := h', toks := t' } := by
  have nit : ∀ b u, H b = some u → b ≠ it := fun b u e z => by rw [z, hn] at e; cases e
  refine I.step (g' := s.gens) (d' := s.drawn) (ch := [it]) (fun b hb => ?_) (fun b o _ _ hc e _ => k b o (fun z => hc (by simp [z])) e) (fun b o _ _ hc e _ => ⟨o.slots, k b o (fun z => hc (by simp [z])) e⟩) (fun _ _ _ _ n => n)
    (fun b o hc e => ⟨o, k b o (fun z => hc (by simp [z])) e⟩) (fun _ _ e => e) (fun _ _ _ e => e) (fun b ps e => ⟨#[], by rw [e]; simp⟩) (fun m hm => ?_) (fun b u e => ?_) I.bare
  · have e : b = it := by simpa using hb
    subst e
    exact ⟨h1, hL, h2, h3⟩
  · obtain ⟨o, es, ep, ho, r⟩ := hm
    exact ⟨o, es, ep, k _ o (Ne.symm hL) ho, r⟩
  · refine (I.hok b u e).stay (fun c v hc q => k c v ?_ q) (fun _ q => q) fun _ _ q => q
    rcases hc with z | z
    · rw [z]; exact nit b u e
    · exact nit c _ z
theorem Inv.tok (I : Inv X pins σ H s) (t : Nat) : Inv X pins σ H { s with toks := t } := I.un (h' := s.heap) (t' := t) Un.refl I.hok
theorem Inv.kept {t' : Nat} (I : Inv X pins σ H s) (k : ∀ b u, s.heap.get? b = some u → h'.get? b = some u) : Inv X pins σ H { s with heap := h', toks := t' } := I.un (Un.kept k) (I.hok.kept k)
theorem Inv.laid {a : Addr} {o : HO} {t' : Nat} (I : Inv X pins σ H s) (k : ∀ b u, s.heap.get? b = some u → h'.get? b = some u) (hp : s.heap.objs.size ≤ a) (new : ObjOk X.prog X.w (upd H a o) h' a o) :
    Inv X pins σ (upd H a o) { s with heap := h', toks := t' } := I.un (Un.laid k hp (I.hok.fresh hp)) (I.hok.laid k hp new)
theorem Inv.write {x e : Addr} {o : HO} {t' : Nat} (I : Inv X pins σ H s) (mu : Mut (H x)) (he : e = x ∨ H e = some (.own x)) (k : ∀ b u, b ≠ e → s.heap.get? b = some u → h'.get? b = some u) (heo : ∃ u, h'.get? e = some u)
    (new : ObjOk X.prog X.w (upd H x o) h' x o) : Inv X pins σ (upd H x o) { s with heap := h', toks := t' } := I.un (Un.write mu he k heo) (I.hok.write mu he k heo new)
theorem Inv.weak {σ' : List (Option V)} (I : Inv X pins σ H s) (hl : σ'.length = σ.length) (w : ∀ (i : Nat) v, σ'[i]? = some (some v) → σ[i]? = some (some v)) : Inv X pins σ' H s :=
  ⟨I.ok, I.os, I.bare, I.base, let ⟨m, hn, hl'⟩ := I.loc; ⟨m, hn, fun i x v e1 e2 e3 => hl' i x v e1 (w i v e2) e3⟩, I.cell, I.free, I.freeC, I.pin, I.hok, hl.trans I.len⟩
theorem Inv.pins_of {pins' : List (Addr × Obj)} (I : Inv X pins σ H s) (h : ∀ p ∈ pins', s.heap.get? p.1 = some p.2 ∧ H p.1 = none ∧ p.1 ≠ X.env.locals ∧ p.1 ∉ X.fs ∧ ∀ v, p.2.data ≠ .cell v) : Inv X pins' σ H s :=
  ⟨I.ok, I.os, I.bare, I.base, I.loc, I.cell, I.free, I.freeC, fun p hp => (List.mem_append.mp hp).elim (fun z => I.pin p (List.mem_append_left _ z)) (h p), I.hok, I.len⟩
theorem nodup_ix {N : List Str} (hN : N.Nodup) {i j : Nat} {x : Str} (a : N[i]? = some x) (b : N[j]? = some x) : i = j := by
  obtain ⟨h1, e1⟩ := List.getElem?_eq_some_iff.mp a
  obtain ⟨h2, e2⟩ := List.getElem?_eq_some_iff.mp b
  exact (List.getElem_inj hN).mp (e1.trans e2.symm)
theorem store_ok2 {M : Model} {A : Around} {E : Value → Shared → Prop} {i : Nat} {x : Str} {v : V} {u : Value} {Q : Unit → Shared → Prop} (I : Inv X pins σ H s) (hN : X.N.Nodup) (hi : X.N[i]? = some x) (hx : Loc X.env.scope x) (r : RelV v u)
    (h : ∀ s', Inv X pins (σ.set i (some v)) H s' → (∃ a, Heap.SameBut a s.heap s'.heap ∧ (a = X.env.locals ∨ X.env.cells.lookup x = some a)) → Q () s') (hf : X.fn x = true ∨ X.env.scope.names.lookup x = some .local := by first | exact .inl rfl | exact .inr rfl | assumption) : wpAny M A (storeName X.env x u) Q E s := by
  obtain ⟨m, hn, hl⟩ := id I.loc
  have hcls : (X.env.scope.kind == .class || (X.env.scope.kind == .module && X.env.locals != X.env.globals)) = false := by rw [I.ok.kind]; rfl
  have hiσ : i < σ.length := by rw [I.len]; exact (List.getElem?_eq_some_iff.mp hi).1
  have cne := I.cne
  have tracked : ∀ {a : Addr} {h' : Heap}, (∃ o, s.heap.get? a = some o ∧ H a = none) → Heap.SameBut a s.heap h' → HOk X.prog X.w H h' := fun {a h'} ha hs b ob e => by
    obtain ⟨_, _, hfree⟩ := ha
    refine (I.hok b ob e).stay (fun c w' hc q => (hs.2 c ?_).trans q) (fun _ q => q) fun _ _ q => q
    rintro rfl
    rcases hc with rfl | hc
    · rw [hfree] at e; cases e
    · rw [hfree] at hc; cases hc
  rcases hx with hk | hk
  · refine wpAny_storeName_local hk hn (fun h' hn' hs => ?_) hcls
    obtain ⟨oL, _, _, hoL, _⟩ := id hn
    refine h _ ⟨I.ok, I.os, I.bare, ⟨fun b o e n hb hx => ?_, fun b o e n hb hx => ?_, I.base.free, fun b o e hx => ?_, I.base.tups, I.base.frzs, I.base.tbls⟩, ⟨_, hn', fun j y v' e1 e2 e3 => ?_⟩, fun y c e => ?_, I.free, I.freeC, fun p hp => ?_, tracked ⟨oL, hoL, I.free⟩ hs, by simpa using I.len⟩ ⟨_, hs, .inl rfl⟩
    · exact (hs.2 b (Nat.ne_of_lt (Nat.lt_of_lt_of_le (Heap.lt_size e) I.ok.above))).trans (I.base.keep b o e n hb hx)
    · obtain ⟨sl, e1⟩ := I.base.slot b o e n hb hx
      exact ⟨sl, (hs.2 b (Nat.ne_of_lt (Nat.lt_of_lt_of_le (Heap.lt_size e) I.ok.above))).trans e1⟩
    · obtain ⟨o', e1⟩ := I.base.there b o e hx
      exact ⟨o', (hs.2 b (Nat.ne_of_lt (Nat.lt_of_lt_of_le (Heap.lt_size e) I.ok.above))).trans e1⟩
    · by_cases hj : j = i
      · subst hj
        rw [hi] at e1; cases e1
        rw [List.getElem?_set_self hiσ] at e2
        cases e2
        exact ⟨u, r, .inl ⟨hk, by simp⟩⟩
      · rw [List.getElem?_set_ne (Ne.symm hj)] at e2
        obtain ⟨u', r', q⟩ := hl j y v' e1 e2 e3
        refine ⟨u', r', ?_⟩
        rcases q with ⟨k, e⟩ | ⟨k, c, e, z⟩
        · refine .inl ⟨k, ?_⟩
          have : y ≠ x := fun e => hj (nodup_ix hN e1 (e ▸ hi))
          simp [this, e]
        · exact .inr ⟨k, c, e, z.sameBut hs (cne y c e)⟩
    · obtain ⟨w', z⟩ := I.cell y c e
      exact ⟨w', z.sameBut hs (cne y c e)⟩
    · obtain ⟨e, n, ne, nf, d⟩ := I.pin p hp
      exact ⟨(hs.2 p.1 ne).trans e, n, ne, nf, d⟩
  · have hfn : X.fn x = true := by
      rcases hf with z | z
      · exact z
      · rw [z] at hk; cases hk
    obtain ⟨c, hc⟩ := I.ok.has x (.inl hk)
    obtain ⟨w', z⟩ := I.cell x c hc
    refine wpAny_storeName_cell I.ok.kind hk hc z (fun h' hc' hs => ?_)
    obtain ⟨oc, hoc, hocd⟩ := id z
    refine h { s with heap := h' } ⟨I.ok, I.os, I.bare, ⟨fun b o e n hb hx => ?_, fun b o e n hb hx => ?_, I.base.free, fun b o e hx => ?_, I.base.tups, I.base.frzs, I.base.tbls⟩, ⟨m, hn.sameBut hs (Ne.symm (cne x c hc)), fun j y v' e1 e2 e3 => ?_⟩, fun y c' e => ?_, I.free, I.freeC, fun p hp => ?_, tracked ⟨oc, hoc, I.freeC x c hc⟩ hs, by simpa using I.len⟩ ⟨c, hs, .inr hc⟩
    · exact (hs.2 b (Nat.ne_of_lt (Nat.lt_of_lt_of_le (Heap.lt_size e) (I.ok.cab x c hfn hc)))).trans (I.base.keep b o e n hb hx)
    · obtain ⟨sl, e1⟩ := I.base.slot b o e n hb hx
      exact ⟨sl, (hs.2 b (Nat.ne_of_lt (Nat.lt_of_lt_of_le (Heap.lt_size e) (I.ok.cab x c hfn hc)))).trans e1⟩
    · obtain ⟨o', e1⟩ := I.base.there b o e hx
      exact ⟨o', (hs.2 b (Nat.ne_of_lt (Nat.lt_of_lt_of_le (Heap.lt_size e) (I.ok.cab x c hfn hc)))).trans e1⟩
    · by_cases hj : j = i
      · subst hj
        rw [hi] at e1; cases e1
        rw [List.getElem?_set_self hiσ] at e2
        cases e2
        exact ⟨u, r, .inr ⟨.inl hk, c, hc, hc'⟩⟩
      · rw [List.getElem?_set_ne (Ne.symm hj)] at e2
        obtain ⟨u', r', q⟩ := hl j y v' e1 e2 e3
        refine ⟨u', r', ?_⟩
        rcases q with q | ⟨k, c', e, z'⟩
        · exact .inl q
        · refine .inr ⟨k, c', e, z'.sameBut hs ?_⟩
          rintro rfl
          exact hj (nodup_ix hN e1 (I.ok.inj _ _ _ e hc ▸ hi))
    · by_cases hcc : c' = c
      · subst hcc; exact ⟨_, hc'⟩
      · obtain ⟨w2, z2⟩ := I.cell y c' e
        exact ⟨w2, z2.sameBut hs hcc⟩
    · obtain ⟨e, n, ne, nf, d⟩ := I.pin p hp
      refine ⟨(hs.2 p.1 ?_).trans e, n, ne, nf, d⟩
      intro q
      rw [q, hoc] at e
      have q' : oc = p.2 := Option.some.inj e
      exact d w' (by rw [← q']; exact hocd)
theorem store_ok {M : Model} {A : Around} {E : Value → Shared → Prop} {i : Nat} {x : Str} {v : V} {u : Value} {Q : Unit → Shared → Prop} (I : Inv X pins σ H s) (hN : X.N.Nodup) (hi : X.N[i]? = some x) (hx : Loc X.env.scope x) (r : RelV v u)
    (h : ∀ s', Inv X pins (σ.set i (some v)) H s' → Q () s') (hf : X.fn x = true ∨ X.env.scope.names.lookup x = some .local := by first | exact .inl rfl | exact .inr rfl | assumption) : wpAny M A (storeName X.env x u) Q E s :=
  store_ok2 I hN hi hx r (fun s' I' _ => h s' I') hf
theorem Inv.call' {s' : Shared} {ch : List Addr} (I : Inv X pins σ H s) (ho : s'.os = s.os) (u : Un (frs X.stack) ch H H' s.heap s'.heap) (hok : HOk X.prog X.w H' s'.heap) (hg : AllBare s'.gens)
    (hch : ∀ b ∈ ch, (b ∈ X.ex ∨ X.s₀.heap.objs.size ≤ b) ∧ b ≠ X.env.locals ∧ (∀ x c, X.env.cells.lookup x = some c → c ≠ b) ∧ ∀ p ∈ X.pn ++ pins, p.1 ≠ b) : Inv X pins σ H' s' := by
  obtain ⟨h', g', d', t', o'⟩ := s'
  have e : o' = s.os := ho
  subst e
  exact I.call (g' := g') (t' := t') (d' := d') u hok hg hch
end
abbrev XK := Value → Option Addr → Hp → Prop
abbrev St := List (Option V)
abbrev VK := V → Hp → Prop
abbrev TE := St → Hp → VK → Prop
abbrev TT := St → Hp → (Bool → Hp → Prop) → Prop
abbrev TA := St → Hp → (List V → Hp → Prop) → Prop
structure Ends where
  nx : St → Hp → Prop
  rt : VK
  bk : St → Hp → Prop := fun _ _ => False
  ct : St → Hp → Prop := fun _ _ => False
abbrev TS := Ends → St → Hp → Prop
def EP (X : Cx) (pins : List (Addr × Obj)) (σ : St) (Q : VK) (u : Value) (s' : Shared) : Prop := ∃ v H', Inv X pins σ H' s' ∧ RelV v u ∧ Q v H'
def TP (X : Cx) (pins : List (Addr × Obj)) (σ : St) (Q : Bool → Hp → Prop) (b : Bool) (s' : Shared) : Prop := ∃ H', Inv X pins σ H' s' ∧ Q b H'
def AP (X : Cx) (pins : List (Addr × Obj)) (σ : St) (Q : List V → Hp → Prop) (us : List Value) (s' : Shared) : Prop := ∃ vs H', Inv X pins σ H' s' ∧ Vals vs us ∧ Q vs H'
def SP (X : Cx) (pins : List (Addr × Obj)) (D : Ends) (f : Flow) (s' : Shared) : Prop :=
  match f with
  | .next => ∃ σ' H', Inv X pins σ' H' s' ∧ D.nx σ' H'
  | .brk => ∃ σ' H', Inv X pins σ' H' s' ∧ D.bk σ' H'
  | .cont => ∃ σ' H', Inv X pins σ' H' s' ∧ D.ct σ' H'
  | .ret u => ∃ v σ' H', Inv X pins σ' H' s' ∧ RelV v u ∧ D.rt v H'
def PE (X : Cx) (e : Expr) (t : TE) : Prop :=
  ∀ (pins : List (Addr × Obj)) (s : Shared) (σ : St) (H : Hp) (Q : VK), Inv X pins σ H s → t σ H Q → wpAny (model X.prog X.w) X.A (eval e X.env) (EP X pins σ Q) X.xe s
def PT (X : Cx) (e : Expr) (t : TT) : Prop :=
  ∀ (pins : List (Addr × Obj)) (s : Shared) (σ : St) (H : Hp) (Q : Bool → Hp → Prop), Inv X pins σ H s → t σ H Q → wpAny (model X.prog X.w) X.A (isTrue e X.env (eval e X.env)) (TP X pins σ Q) X.xe s
def PW (X : Cx) (e : Expr) (t : TT) : Prop :=
  ∀ (whole : Sem Value) (pins : List (Addr × Obj)) (s : Shared) (σ : St) (H : Hp) (Q : Bool → Hp → Prop), Inv X pins σ H s → t σ H Q → wpAny (model X.prog X.w) X.A (isTrue e X.env whole) (TP X pins σ Q) X.xe s
theorem PW.pt {X : Cx} {e : Expr} {t : TT} (h : PW X e t) : PT X e t := h _
def PA (X : Cx) (es : List Expr) (t : TA) : Prop :=
  ∀ (pos : Pos) (pins : List (Addr × Obj)) (s : Shared) (σ : St) (H : Hp) (Q : List V → Hp → Prop), Inv X pins σ H s → t σ H Q → wpAny (model X.prog X.w) X.A (spliced (backTo pos (starEach es X.env))) (AP X pins σ Q) X.xe s
def PS (X : Cx) (st : Stmt) (t : TS) : Prop :=
  ∀ (pins : List (Addr × Obj)) (s : Shared) (σ : St) (H : Hp) (D : Ends), Inv X pins σ H s → t D σ H → wpAny (model X.prog X.w) X.A (exec st X.env) (SP X pins D) X.xe s
def PSs (X : Cx) (st : List Stmt) (t : TS) : Prop :=
  ∀ (pins : List (Addr × Obj)) (s : Shared) (σ : St) (H : Hp) (D : Ends), Inv X pins σ H s → t D σ H → wpAny (model X.prog X.w) X.A (execs st X.env) (SP X pins D) X.xe s
theorem thn {α : Type} {t : Sem α} {Q Q' : α → Shared → Prop} {M : Model} {A : Around} {E : Value → Shared → Prop} {s : Shared} (h : wpAny M A t Q E s) (hQ : ∀ a s, Q a s → Q' a s) : wpAny M A t Q' E s := wpAny_mono h hQ fun _ _ x => x
end L2
namespace L2
open PySem PySem.Spec PyProof.Rows
section
variable {X : Cx}
def tVar (i : Nat) : TE := fun σ H Q => ∃ v, σ[i]? = some (some v) ∧ Q v H
def tC (v : V) : TE := fun _ H Q => Q v H
theorem pe_var {i : Nat} {x : Str} {pos : Pos} (hN : X.N[i]? = some x) (hv : Vis X.env.scope x) (hd : (x == ("__debug__" : Str)) = false := by decide) (hcd : (x == ("__classdict__" : Str)) = false := by decide) : PE X (.Name x pos) (tVar i) := by
  intro pins s σ H Q I h
  obtain ⟨v, e, h⟩ := h
  obtain ⟨m, hn, hl⟩ := I.loc
  obtain ⟨u, r, l⟩ := hl i x v hN e hv
  have fin : EP X pins σ Q u s := ⟨v, H, I, r, h⟩
  rcases l with ⟨hk, hm⟩ | ⟨hk, c, hc, hcell⟩
  · exact wpAny_Name (wpAny_loadName_local I.ok.kind hk hn hm fin) hd
  · rcases hk with hk | hk
    · exact wpAny_Name (wpAny_loadName_cell I.ok.kind hk hc hcell fin) hd
    · exact wpAny_Name (wpAny_loadName_free I.ok.kind hk hc hcell fin hcd) hd
theorem pe_int {i j pos} : PE X (.Constant (.int i) j pos) (tC (.int i)) := fun _ _ _ H _ I h => wpAny_Constant_int ⟨.int i, H, I.tok _, ⟨_, rfl⟩, h⟩
theorem pe_bl {b j pos} : PE X (.Constant (.bool b) j pos) (tC (.bl b)) := fun _ _ _ H _ I h => Constant_bool ⟨.bl b, H, I, rfl, h⟩
theorem pe_non {j pos} : PE X (.Constant .none j pos) (tC .non) := fun _ _ _ H _ I h => Constant_none ⟨.non, H, I, rfl, h⟩
def Gl (X : Cx) (x : Str) : Prop := X.env.kindOf x = some .globalImplicit
theorem ld_glob {E : Value → Shared → Prop} {pins : List (Addr × Obj)} {s : Shared} {σ : St} {H : Hp} {x : Str} {u : Value} {pos : Pos} {Q : Value → Shared → Prop} (I : Inv X pins σ H s) (hg : Gl X x) (hm : X.mg x = some u) (h : Q u s)
    (hd : (x == ("__debug__" : Str)) = false := by decide) : wpAny (model X.prog X.w) X.A (eval (.Name x pos) X.env) Q E s :=
  Calls.Name_function_global I.ok.kind hg (Calls.loadGlobal_global (by rw [I.ok.glob]; exact I.mod.glob.keeps I.bk) hm h) hd
theorem ld_blt {E : Value → Shared → Prop} {pins : List (Addr × Obj)} {s : Shared} {σ : St} {H : Hp} {x : Str} {u : Value} {pos : Pos} {Q : Value → Shared → Prop} (I : Inv X pins σ H s) (hg : Gl X x) (hm : X.mg x = none) (hv : bootBuiltins x = some u) (h : Q u s)
    (hn : x ≠ "__name__" := by decide) (hd : (x == ("__debug__" : Str)) = false := by decide) : wpAny (model X.prog X.w) X.A (eval (.Name x pos) X.env) Q E s := by
  obtain ⟨mb, h1, h2⟩ := I.mod.blt
  exact Calls.Name_function_global I.ok.kind hg (Calls.loadGlobal_builtin (by rw [I.ok.glob]; exact I.mod.glob.keeps I.bk) hm (by rw [I.ok.blt]; exact h1.keeps I.bk) ((h2 x hn).trans hv) h) hd
theorem pe_bltn {x : Str} {v : V} {u : Value} {pos : Pos} (hg : Gl X x) (hm : X.mg x = none) (hv : bootBuiltins x = some u) (r : RelV v u) (hn : x ≠ "__name__" := by decide) (hd : (x == ("__debug__" : Str)) = false := by decide) : PE X (.Name x pos) (tC v) :=
  fun _ _ _ H _ I h => ld_blt I hg hm hv ⟨v, H, I, r, h⟩ hn hd
variable {a b : Expr} {ta tb : TE} {pos : Pos}
def tB (t : TE) : TT := fun σ H Q => t σ H fun x H1 => ∃ c, x = .bl c ∧ Q c H1
theorem pt_val {e : Expr} {t : TE} (h : PE X e t) (he : ∀ whole, isTrue e X.env whole = (do let v ← whole; standAt e.pos; holding [v] (truthy v)) := by intro _; rfl) : PT X e (tB t) := by
  intro pins s σ H Q I hw
  refine isTrue_plain (thn (h pins s σ H _ I hw) fun v s1 ⟨x, H1, I1, r1, q1⟩ => ?_) (he _)
  obtain ⟨d, rfl, q⟩ := q1
  cases r1
  exact wpAny_truthy_bool ⟨H1, I1, q⟩
variable {tA tB' : TT} {rest : List Expr}
def tAnd (t u : TT) : TT := fun σ H Q => t σ H fun c H1 => if c = true then u σ H1 Q else Q false H1
def tOr (t u : TT) : TT := fun σ H Q => t σ H fun c H1 => if c = true then Q true H1 else u σ H1 Q
def tNot (t : TT) : TT := fun σ H Q => t σ H fun c H1 => Q (!c) H1
theorem pw_and1 (ha : PT X a tA) : PW X (.BoolOp .And [a] pos) tA := by
  intro wh pins s σ H Q I h
  refine isTrue_and (thn (ha pins s σ H Q I h) fun c s1 e => ?_)
  cases c with
  | true => exact isTrue_and_nil e
  | false => exact e
theorem pw_or1 (ha : PT X a tA) : PW X (.BoolOp .Or [a] pos) tA := by
  intro wh pins s σ H Q I h
  refine isTrue_or (thn (ha pins s σ H Q I h) fun c s1 e => ?_)
  cases c with
  | false => exact isTrue_or_nil e
  | true => exact e
theorem pw_and (ha : PT X a tA) (hb : PW X (.BoolOp .And (b :: rest) pos) tB') : PW X (.BoolOp .And (a :: b :: rest) pos) (tAnd tA tB') := by
  intro wh pins s σ H Q I h
  refine isTrue_and (thn (ha pins s σ H _ I h) fun c s1 ⟨H1, I1, q1⟩ => ?_)
  cases c with
  | true => exact hb wh pins s1 σ H1 Q I1 q1
  | false => exact ⟨H1, I1, q1⟩
theorem pw_or (ha : PT X a tA) (hb : PW X (.BoolOp .Or (b :: rest) pos) tB') : PW X (.BoolOp .Or (a :: b :: rest) pos) (tOr tA tB') := by
  intro wh pins s σ H Q I h
  refine isTrue_or (thn (ha pins s σ H _ I h) fun c s1 ⟨H1, I1, q1⟩ => ?_)
  cases c with
  | true => exact ⟨H1, I1, q1⟩
  | false => exact hb wh pins s1 σ H1 Q I1 q1
theorem pt_not (ha : PT X a tA) : PT X (.UnaryOp .Not a pos) (tNot tA) := by
  intro pins s σ H Q I h
  exact isTrue_not (ha pins s σ H (fun c H1 => Q (!c) H1) I h)
def tAndV (ta tb : TE) : TE := fun σ H Q => ta σ H fun x H1 => ∃ c, x = .bl c ∧ if c = true then tb σ H1 Q else Q (.bl false) H1
def tOrV (ta tb : TE) : TE := fun σ H Q => ta σ H fun x H1 => ∃ c, x = .bl c ∧ if c = true then Q (.bl true) H1 else tb σ H1 Q
def tNotV (ta : TE) : TE := fun σ H Q => ta σ H fun x H1 => ∃ c, x = .bl c ∧ Q (.bl (!c)) H1
theorem pe_one {op} {t : TE} (h : PE X a t) : PE X (.BoolOp op [a] pos) t := fun pins s σ H Q I hw => BoolOp_one (h pins s σ H Q I hw)
theorem pe_and (ha : PE X a ta) (hb : PE X (.BoolOp .And (b :: rest) pos) tb) : PE X (.BoolOp .And (a :: b :: rest) pos) (tAndV ta tb) := by
  intro pins s σ H Q I h
  refine BoolOp_and (thn (ha pins s σ H _ I h) fun v s1 ⟨x, H1, I1, r1, q1⟩ => ?_)
  obtain ⟨c, rfl, q1⟩ := q1
  cases r1
  refine wpAny_truthy_bool ?_
  cases c with
  | true => exact hb pins s1 σ H1 Q I1 q1
  | false => exact ⟨.bl false, H1, I1, rfl, q1⟩
theorem pe_or (ha : PE X a ta) (hb : PE X (.BoolOp .Or (b :: rest) pos) tb) : PE X (.BoolOp .Or (a :: b :: rest) pos) (tOrV ta tb) := by
  intro pins s σ H Q I h
  refine BoolOp_or (thn (ha pins s σ H _ I h) fun v s1 ⟨x, H1, I1, r1, q1⟩ => ?_)
  obtain ⟨c, rfl, q1⟩ := q1
  cases r1
  refine wpAny_truthy_bool ?_
  cases c with
  | false => exact hb pins s1 σ H1 Q I1 q1
  | true => exact ⟨.bl true, H1, I1, rfl, q1⟩
theorem pe_not (ha : PE X a ta) : PE X (.UnaryOp .Not a pos) (tNotV ta) := by
  intro pins s σ H Q I h
  refine UnaryOp_ (thn (ha pins s σ H _ I h) fun v s1 ⟨x, H1, I1, r1, q1⟩ => ?_)
  obtain ⟨c, rfl, q1⟩ := q1
  cases r1
  exact not_of (wpAny_truthy_bool ⟨.bl (!c), H1, I1, rfl, q1⟩)
end
end L2
namespace L2
open PySem PySem.Spec PyProof.Rows
def SqL (K : PySem.W.Frag) (H : Hp) (a : Addr) (xs : List V) : Prop :=
  Rd H a (.lst xs) ∨
    ∃ (o : Obj) (its : Array Value) (n : Nat), K.lookup a = some o ∧ o.cls = .type "list" ∧ o.dict = none ∧ o.data = .seq its n ∧ its.size ≤ sizeLine ∧ Vals xs its.toList
def SqT (K : PySem.W.Frag) (H : Hp) (a : Addr) (xs : List V) : Prop :=
  Rd H a (.tup xs) ∨
    ∃ (o : Obj) (its : Array Value) (n : Nat), K.lookup a = some o ∧ o.cls = .type "tuple" ∧ o.data = .seq its n ∧ its.size ≤ sizeLine ∧ Vals xs its.toList
def absV : Value → Option V
  | .none => some .non
  | .bool b => some (.bl b)
  | .int i _ => some (.int i)
  | .str x _ => some (.str x)
  | .bytes b _ => some (.byt b)
  | .float b _ => some (.flt b)
  | .ref a => some (.ref a)
  | .type n => some (.ty n)
  | _ => none
theorem RelV.abs {x : V} {u : Value} (r : RelV x u) : absV u = some x := by
  cases x with
  | non => cases r; rfl
  | bl _ => cases r; rfl
  | int _ => obtain ⟨t, rfl⟩ := r; rfl
  | str _ => obtain ⟨t, rfl⟩ := r; rfl
  | byt _ => obtain ⟨t, rfl⟩ := r; rfl
  | flt _ => obtain ⟨t, rfl⟩ := r; rfl
  | ref _ => cases r; rfl
  | ty _ => cases r; rfl
theorem RelV.inj {x y : V} {u : Value} (r : RelV x u) (q : RelV y u) : x = y := Option.some.inj (r.abs.symm.trans q.abs)
theorem Vals.inj : ∀ {xs ys : List V} {us : List Value}, Vals xs us → Vals ys us → xs = ys
  | _, _, _, .nil, .nil => rfl
  | _, _, _, .cons r t, .cons r' t' => by rw [r.inj r', Vals.inj t t']
section
variable {X : Cx} {pins : List (Addr × Obj)} {σ : St} {H : Hp} {s : Shared} {a : Addr} {xs ys : List V}
theorem SqL.of {K : PySem.W.Frag} (h : H a = some (.lst xs)) : SqL K H a xs := .inl (.inl h)
theorem SqT.of {K : PySem.W.Frag} (h : H a = some (.tup xs)) : SqT K H a xs := .inl (.inl h)
theorem Inv.list (I : Inv X pins σ H s) (h : SqL X.K H a xs) : ∃ its : List Value, Vals xs its ∧ PlainL s.heap a its.toArray ∧ xs.length ≤ sizeLine := by
  rcases h with h | ⟨o, its, n, hk, hc, hd, hs, hz, r⟩
  · obtain ⟨z, its, n, r, e⟩ := h.ok I.hok
    exact ⟨its, r, ⟨_, n, e, rfl, rfl, rfl⟩, z⟩
  · refine ⟨its.toList, r, ⟨o, n, I.kIn a o hk, hc, hd, by simpa using hs⟩, ?_⟩
    have e := r.length
    simp only [Array.length_toList] at e
    omega
theorem Inv.tuple (I : Inv X pins σ H s) (h : SqT X.K H a xs) : ∃ its : List Value, Vals xs its ∧ IsTup s.heap a its.toArray ∧ xs.length ≤ sizeLine := by
  rcases h with h | ⟨o, its, n, hk, hc, hs, hz, r⟩
  · obtain ⟨z, its, r, p⟩ := h.ok I.hok
    exact ⟨its, r, p, z⟩
  · refine ⟨its.toList, r, ⟨o, I.kIn a o hk, hc, n, by simpa using hs⟩, ?_⟩
    have e := r.length
    simp only [Array.length_toList] at e
    omega
theorem Inv.list_inj (I : Inv X pins σ H s) (h : SqL X.K H a xs) (h' : SqL X.K H a ys) : xs = ys := by
  obtain ⟨its, r, ⟨o, n, e, _, _, d⟩, _⟩ := I.list h
  obtain ⟨its', r', ⟨o', n', e', _, _, d'⟩, _⟩ := I.list h'
  rw [e] at e'; cases e'
  rw [d] at d'
  injection d' with d1 _
  have : its = its' := by simpa using congrArg Array.toList d1
  subst this
  exact r.inj r'
theorem Inv.tuple_inj (I : Inv X pins σ H s) (h : SqT X.K H a xs) (h' : SqT X.K H a ys) : xs = ys := by
  obtain ⟨its, r, ⟨o, e, _, n, d⟩, _⟩ := I.tuple h
  obtain ⟨its', r', ⟨o', e', _, n', d'⟩, _⟩ := I.tuple h'
  rw [e] at e'; cases e'
  rw [d] at d'
  injection d' with d1 _
  have : its = its' := by simpa using congrArg Array.toList d1
  subst this
  exact r.inj r'
end
abbrev Cx.wish (X : Cx) (E : Value → Shared → Prop) : Cx := { X with xe := E }
abbrev Cx.nox (X : Cx) : Cx := X.wish fun _ _ => False
theorem Cx.Ok.wish {X : Cx} (ok : X.Ok) (E : Value → Shared → Prop) : (X.wish E).Ok :=
  ⟨ok.mod, ok.kind, ok.glob, ok.blt, ok.above, ok.inj, ok.has, ok.cab, ok.hd, ok.frames, ok.stk, ok.exf, ok.bs, ok.bsz, ok.noex, ok.exfs, ok.funs, ok.frf⟩
theorem Cx.Ok.unwish {X : Cx} {E : Value → Shared → Prop} (ok : (X.wish E).Ok) : X.Ok :=
  ⟨ok.mod, ok.kind, ok.glob, ok.blt, ok.above, ok.inj, ok.has, ok.cab, ok.hd, ok.frames, ok.stk, ok.exf, ok.bs, ok.bsz, ok.noex, ok.exfs, ok.funs, ok.frf⟩
section
variable {X : Cx} {pins : List (Addr × Obj)} {σ : St} {H : Hp} {s : Shared} {E : Value → Shared → Prop}
theorem Inv.wish (I : Inv X pins σ H s) (E : Value → Shared → Prop) : Inv (X.wish E) pins σ H s := ⟨I.ok.wish E, I.os, I.bare, I.base, I.loc, I.cell, I.free, I.freeC, I.pin, I.hok, I.len⟩
theorem Inv.unwish (I : Inv (X.wish E) pins σ H s) : Inv X pins σ H s := ⟨I.ok.unwish, I.os, I.bare, I.base, I.loc, I.cell, I.free, I.freeC, I.pin, I.hok, I.len⟩
theorem SP.unwish {D : Ends} {f : Flow} {s' : Shared} (h : SP (X.wish E) pins D f s') : SP X pins D f s' := by
  cases f with
  | next => obtain ⟨σ', H', I, q⟩ := h; exact ⟨σ', H', I.unwish, q⟩
  | brk => obtain ⟨σ', H', I, q⟩ := h; exact ⟨σ', H', I.unwish, q⟩
  | cont => obtain ⟨σ', H', I, q⟩ := h; exact ⟨σ', H', I.unwish, q⟩
  | ret u => obtain ⟨v, σ', H', I, r, q⟩ := h; exact ⟨v, σ', H', I.unwish, r, q⟩
theorem PE.nox {e : Expr} {t : TE} (h : PE X.nox e t) : PE X e t := fun pins s σ H Q I hw =>
  wpAny_mono (h pins s σ H Q (I.wish _) hw) (fun _ _ ⟨v, H', I', r, q⟩ => ⟨v, H', I'.unwish, r, q⟩) fun _ _ z => False.elim z
theorem PT.nox {e : Expr} {t : TT} (h : PT X.nox e t) : PT X e t := fun pins s σ H Q I hw =>
  wpAny_mono (h pins s σ H Q (I.wish _) hw) (fun _ _ ⟨H', I', q⟩ => ⟨H', I'.unwish, q⟩) fun _ _ z => False.elim z
theorem PSs.nox {st : List Stmt} {t : TS} (h : PSs X.nox st t) : PSs X st t := fun pins s σ H D I hw =>
  wpAny_mono (h pins s σ H D (I.wish _) hw) (fun _ _ q => q.unwish) fun _ _ z => False.elim z
end
section
variable {X : Cx} {st : Stmt} {rest : List Stmt} {t u : TS} {e : Expr} {te : TE} {pos : Pos}
def tNext : TS := fun D σ H => D.nx σ H
def tSeq (t u : TS) : TS := fun D σ H => t { D with nx := u D } σ H
theorem pss_nil : PSs X [] tNext := fun _ _ σ H _ I h => wpAny_execs_nil ⟨σ, H, I, h⟩
theorem pss_cons (h1 : PS X st t) (h2 : PSs X rest u) : PSs X (st :: rest) (tSeq t u) := by
  intro pins s σ H D I h
  refine wpAny_execs_cons (thn (h1 pins s σ H { D with nx := u D } I h) fun f s1 q => ?_)
  cases f with
  | next =>
    obtain ⟨σ', H', I', q⟩ := q
    exact h2 pins s1 σ' H' D I' q
  | ret v => exact q
  | brk => exact q
  | cont => exact q
theorem pss_one (h1 : PS X st t) : PSs X [st] t := by
  intro pins s σ H D I h
  refine wpAny_execs_cons (thn (h1 pins s σ H D I h) fun f s1 q => ?_)
  cases f with
  | next => exact wpAny_execs_nil q
  | ret v => exact q
  | brk => exact q
  | cont => exact q
theorem Inv.quiet {pins : List (Addr × Obj)} {σ : St} {H : Hp} {s : Shared} (I : Inv X pins σ H s) : interactive X.env = false := by simp [interactive, I.ok.kind]
def tDrop (te : TE) : TS := fun D σ H => te σ H fun _ H1 => D.nx σ H1
theorem ps_expr (he : PE X e te) (hs : swapsWith e none pos.line X.env = pure false := by rfl) : PS X (.Expr e pos) (tDrop te) := by
  intro pins s σ H D I h
  exact wpAny_Expr_any (thn (he pins s σ H _ I h) fun v s1 ⟨x, H1, I1, r1, q1⟩ => ⟨σ, H1, I1, q1⟩) I.quiet hs
def tRet (te : TE) : TS := fun D σ H => te σ H D.rt
theorem ps_ret (he : PE X e te) : PS X (.Return (some e) pos) (tRet te) := by
  intro pins s σ H D I h
  exact wpAny_Return_some (thn (he pins s σ H _ I h) fun v s1 ⟨x, H1, I1, r1, q1⟩ => ⟨x, σ, H1, I1, r1, q1⟩)
def tIfS (c : TT) (t u : TS) : TS := fun D σ H => c σ H fun b H1 => if b = true then t D σ H1 else u D σ H1
theorem ps_if {c : Expr} {a b : List Stmt} {tc : TT} (hc : PT X c tc) (ha : PSs X a t) (hb : PSs X b u) : PS X (.If c a b pos) (tIfS tc t u) := by
  intro pins s σ H D I h
  refine wpAny_If (thn (hc pins s σ H _ I h) fun d s1 ⟨H1, I1, q1⟩ => ?_)
  cases d with
  | true => exact ha pins s1 σ H1 D I1 q1
  | false => exact hb pins s1 σ H1 D I1 q1
def tNever : TS := fun _ _ _ => False
theorem ps_never : PS X st tNever := fun _ _ _ _ _ _ h => h.elim
end
abbrev TG := V → St → Hp → (St → Hp → Prop) → Prop
abbrev TGs := List V → St → Hp → (St → Hp → Prop) → Prop
def PG (X : Cx) (target : Expr) (t : TG) : Prop :=
  ∀ (pins : List (Addr × Obj)) (s : Shared) (σ : St) (H : Hp) (v : V) (u : Value) (Q : St → Hp → Prop), Inv X pins σ H s → RelV v u → t v σ H Q →
    wpAny (model X.prog X.w) X.A (assign target X.env u) (fun _ s' => ∃ σ' H', Inv X pins σ' H' s' ∧ Q σ' H') X.xe s
def PGs (X : Cx) (ts : List Expr) (t : TGs) : Prop :=
  ∀ (pins : List (Addr × Obj)) (s : Shared) (σ : St) (H : Hp) (vs : List V) (us : List Value) (Q : St → Hp → Prop), Inv X pins σ H s → Vals vs us → t vs σ H Q →
    wpAny (model X.prog X.w) X.A (assignInOrder ((assignEach ts X.env).map (·.2)) us) (fun _ s' => ∃ σ' H', Inv X pins σ' H' s' ∧ Q σ' H') X.xe s
abbrev TSet := V → V → V → Hp → (Hp → Prop) → Prop
def PSet (X : Cx) (t : TSet) : Prop :=
  ∀ (pins : List (Addr × Obj)) (s : Shared) (σ : St) (H : Hp) (o i v : V) (ov iv u : Value) (Q : Hp → Prop), Inv X pins σ H s → RelV o ov → RelV i iv → RelV v u → t o i v H Q →
    wpAny (model X.prog X.w) X.A (setItem ov iv u) (fun _ s' => ∃ H', Inv X pins σ H' s' ∧ Q H') X.xe s
section
variable {X : Cx} {pos : Pos}
def gName (i : Nat) : TG := fun v σ H Q => Q (σ.set i (some v)) H
theorem pg_name {i : Nat} {x : Str} (hN : X.N.Nodup) (hi : X.N[i]? = some x) (hx : Loc X.env.scope x) (hf : X.fn x = true ∨ X.env.scope.names.lookup x = some .local := by first | exact .inl rfl | exact .inr rfl | assumption) : PG X (.Name x pos) (gName i) := by
  intro pins s σ H v u Q I r h
  exact wpAny_assign_Name (store_ok I hN hi hx r (fun s' I' => ⟨_, H, I', h⟩) hf)
def gNil : TGs := fun vs σ H Q => vs = [] ∧ Q σ H
def gCons (t : TG) (u : TGs) : TGs := fun vs σ H Q => ∃ v r, vs = v :: r ∧ t v σ H fun σ' H' => u r σ' H' Q
theorem pgs_nil : PGs X [] gNil := by
  intro pins s σ H vs us Q I r h
  obtain ⟨e, h⟩ := h
  subst e
  cases r
  exact assignInOrder_nil ⟨σ, H, I, h⟩
theorem pgs_cons {e : Expr} {es : List Expr} {t : TG} {u : TGs} (h1 : PG X e t) (h2 : PGs X es u)
    (hs : (assignEach (e :: es) X.env).map (·.2) = assign e X.env :: (assignEach es X.env).map (·.2) := by rfl) : PGs X (e :: es) (gCons t u) := by
  intro pins s σ H vs us Q I r h
  obtain ⟨v, vr, e1, h⟩ := h
  subst e1
  cases r with
  | cons r rr =>
    rw [hs]
    refine assignInOrder_cons (thn (h1 pins s σ H _ _ _ I r h) fun _ s1 ⟨σ1, H1, I1, q1⟩ => ?_)
    exact h2 pins s1 σ1 H1 _ _ Q I1 rr q1
def gTup (K : PySem.W.Frag) (n : Nat) (t : TGs) : TG := fun v σ H Q => ∃ a xs, v = .ref a ∧ SqT K H a xs ∧ xs.length = n ∧ t xs σ H Q
theorem pg_tup {es : List Expr} {k : Nat} {t : TGs} {n : Nat} (hc : X.calm = true) (h : PGs X es t)
    (hn : (assignEach es X.env).length = n := by rfl) (hst : (assignEach es X.env).findIdx? (·.1) = none := by rfl) : PG X (.Tuple es k pos) (gTup X.K n t) := by
  intro pins s σ H v u Q I r hw
  obtain ⟨a, xs, e1, hq, hl, hw⟩ := hw
  subst e1
  cases r
  obtain ⟨its, rv, ht, hz⟩ := I.tuple hq
  refine assign_Tuple_tuple (I.ok.hd hc) ht (by simp [hn, ← hl, rv.length]) hst fun h' hx => ?_
  have I1 : Inv X pins σ H { s with heap := h' } := I.kept (t' := s.toks) fun b o e => hx b o (Nat.ne_of_lt (Heap.lt_size e)) e
  exact h pins _ σ H xs _ Q I1 (by simpa using rv) hw
def gSub (to ti : TE) (t : TSet) : TG := fun v σ H Q => to σ H fun o H1 => ti σ H1 fun i H2 => t o i v H2 fun H3 => Q σ H3
theorem pg_sub {o i : Expr} {to ti : TE} {t : TSet} (ho : PE X o to) (hi : PE X i ti) (hs : PSet X t)
    (ha : ∀ v, assign (.Subscript o i pos) X.env v = (do
      let ov ← holding [v] (eval o X.env)
      let iv ← holding [v, ov] (eval i X.env)
      standAt pos
      holding [v, ov, iv] (setItem ov iv v)
      release [v, ov, iv] []) := by intro _; rfl) : PG X (.Subscript o i pos) (gSub to ti t) := by
  intro pins s σ H v u Q I r h
  rw [ha]
  refine wpAny_bind (wpAny_holding (thn (ho pins s σ H _ I h) fun ov s1 ⟨x, H1, I1, r1, q1⟩ => ?_))
  refine wpAny_bind (wpAny_holding (thn (hi pins s1 σ H1 _ I1 q1) fun iv s2 ⟨y, H2, I2, r2, q2⟩ => ?_))
  refine wpAny_bind (wpAny_standAt (wpAny_bind (wpAny_holding (thn (hs pins s2 σ H2 x y v ov iv u _ I2 r1 r2 r q2) fun _ s3 ⟨H3, I3, q3⟩ => ?_))))
  exact wpAny_release ⟨σ, H3, I3, q3⟩
def tAsg (te : TE) (g : TG) : TS := fun D σ H => te σ H fun x H1 => g x σ H1 D.nx
theorem ps_asg {tg e : Expr} {te : TE} {g : TG} (he : PE X e te) (hg : PG X tg g) (hs : swapsWithSole [tg] e pos.line X.env = pure false := by rfl) (hw : swappedStores [tg] e X.env = pure none := by rfl)
    (h1 : (assignEach [tg] X.env).map (·.2) = [assign tg X.env] := by rfl) : PS X (.Assign [tg] e pos) (tAsg te g) := by
  intro pins s σ H D I h
  refine wpAny_Assign_stores (thn (he pins s σ H _ I h) fun v s1 ⟨x, H1, I1, r1, q1⟩ => ?_) hs hw
  rw [h1]
  exact thn (hg pins s1 σ H1 x v _ I1 r1 q1) fun _ s2 q => q
theorem ps_set {i : Nat} {x : Str} {e : Expr} {te : TE} {pos' : Pos} (hN : X.N.Nodup) (hi : X.N[i]? = some x) (hx : Loc X.env.scope x) (he : PE X e te) (hs : swapsWith e (some (.Name x pos')) pos.line X.env = pure false := by rfl) (hf : X.fn x = true ∨ X.env.scope.names.lookup x = some .local := by first | exact .inl rfl | exact .inr rfl | assumption) :
    PS X (.Assign [.Name x pos'] e pos) (tAsg te (gName i)) := by
  intro pins s σ H D I h
  refine wpAny_Assign_Name (thn (he pins s σ H _ I h) fun v s1 ⟨y, H1, I1, r1, q1⟩ => ?_) hs
  exact store_ok I1 hN hi hx r1 (fun s2 I2 => ⟨_, H1, I2, q1⟩) hf
def tPar (i j : Nat) (ta : TA) : TS := fun D σ H => ta σ H fun vs H1 => ∃ v w, vs = [v, w] ∧ D.nx ((σ.set i (some v)).set j (some w)) H1
theorem ps_par {i j : Nat} {x y : Str} {a b : Expr} {ta : TA} {px py pt : Pos} {kt k2 pt2} (hc : X.calm = true) (hN : X.N.Nodup) (hi : X.N[i]? = some x) (hj : X.N[j]? = some y) (hij : i ≠ j)
    (hx : X.env.scope.names.lookup x = some .local) (hy : X.env.scope.names.lookup y = some .local) (ha : PA X [a, b] ta)
    (hw : swappedStores [.Tuple [.Name x px, .Name y py] kt pt] (.Tuple [a, b] k2 pt2) X.env = pure (some [x, y]))
    (hs : swapsWithSole [.Tuple [.Name x px, .Name y py] kt pt] (.Tuple [a, b] k2 pt2) pos.line X.env = pure false := by rfl) :
    PS X (.Assign [.Tuple [.Name x px, .Name y py] kt pt] (.Tuple [a, b] k2 pt2) pos) (tPar i j ta) := by
  intro pins s σ H D I h
  rw [exec_Assign_arm]
  refine wpAny_bind (wpAny_standAt ?_)
  rw [hs]
  refine wpAny_bind (wpAny_pure ?_)
  rw [if_neg (by decide)]
  refine wpAny_bind (Tuple_ (thn (ha _ pins s σ H _ I h) fun us s1 ⟨vs, H1, I1, r1, q1⟩ => ?_))
  obtain ⟨v, w, e1, q1⟩ := q1
  subst e1
  obtain ⟨u1, u2, rfl, rv, rw'⟩ : ∃ u1 u2, us = [u1, u2] ∧ RelV v u1 ∧ RelV w u2 := by
    cases r1 with
    | cons p q =>
      cases q with
      | cons p' q' =>
        cases q'
        exact ⟨_, _, rfl, p, p'⟩
  refine wpAny_newObj_type ?_ (by show 2 ≤ sizeLine; decide)
  have I2 : Inv X pins σ H1 { s1 with heap := s1.heap.push { cls := .type "tuple", data := .seq [u1, u2].toArray } } := I1.kept (t' := s1.toks) fun b o e => Heap.get?_push_of_some _ e
  rw [hw]
  refine wpAny_bind (wpAny_pure ?_)
  show wpAny (model X.prog X.w) X.A (do rule "assign.swapped-stores"; let items ← unpackItems (.ref s1.heap.objs.size) 2 none; assignInOrder [fun v => bindName X.env y v, fun v => bindName X.env x v] items.reverse; pure Flow.next) _ _ _
  refine wpAny_bind (wpAny_rule (wpAny_bind (unpackItems_tuple (items := #[u1, u2]) (I.ok.hd hc) (IsTup.new s1.heap _) fun h' hx' => ?_)))
  have I3 := I2.kept (h' := h') (t' := s1.toks) fun b o e => hx' b o (Nat.ne_of_lt (Heap.lt_size e)) e
  show wpAny _ _ (assignInOrder [fun v => bindName X.env y v, fun v => bindName X.env x v] [u2, u1] >>= fun _ => pure Flow.next) _ _ _
  refine wpAny_bind (assignInOrder_cons (wpAny_bindName (store_ok I3 hN hj (.inl hy) rw' (fun s2 I4 => ?_) (.inr hy))))
  refine assignInOrder_cons (wpAny_bindName (store_ok I4 hN hi (.inl hx) rv (fun s3 I5 => assignInOrder_nil (wpAny_pure ?_)) (.inr hx)))
  rw [List.set_comm _ _ (Ne.symm hij)] at I5
  exact ⟨_, H1, I5, q1⟩
end
section
variable {X : Cx} {pos : Pos}
def tWhile (c : TT) (tb : TS) : TS := fun D σ H => ∃ W : Nat → St → Hp → Prop, (∃ m, W m σ H) ∧ ∀ m σ H, W m σ H →
  c σ H fun b H1 => if b = true then ∃ N : St → Hp → Prop, (∀ σ' H', N σ' H' → ∃ m', m' < m ∧ W m' σ' H') ∧ tb { D with nx := N, ct := N, bk := D.nx } σ H1 else D.nx σ H1
theorem ps_while {c : Expr} {body : List Stmt} {tc : TT} {tb : TS} (hp : PassesOwn (model X.prog X.w) X.A X.env X.xe) (hc : PT X c tc) (hb : PSs X body tb) : PS X (.While c body [] pos) (tWhile tc tb) := by
  intro pins s σ H D I h
  obtain ⟨W, ⟨m0, w0⟩, turn⟩ := h
  refine wpAny_While (codeAny_whileLoop (fun n s' => ∃ σ' H', Inv X pins σ' H' s' ∧ W n σ' H') ?_ m0 ⟨σ, H, I, w0⟩)
  rintro n s1 ⟨σ1, H1, I1, w1⟩
  refine wpAny_passesOwn hp (thn (hc pins s1 σ1 H1 _ I1 (turn n σ1 H1 w1)) fun b s2 ⟨H2, I2, q2⟩ => ?_)
  cases b with
  | true =>
    obtain ⟨N, hN, q2⟩ := q2
    rw [if_pos rfl]
    refine wpAny_passesOwn hp (thn (hb pins s2 σ1 H2 _ I2 q2) fun f s3 q3 => ?_)
    cases f with
    | next =>
      obtain ⟨σ3, H3, I3, n3⟩ := q3
      obtain ⟨m', hm, w3⟩ := hN σ3 H3 n3
      exact ⟨m', hm, σ3, H3, I3, w3⟩
    | cont =>
      obtain ⟨σ3, H3, I3, n3⟩ := q3
      obtain ⟨m', hm, w3⟩ := hN σ3 H3 n3
      exact ⟨m', hm, σ3, H3, I3, w3⟩
    | brk => exact q3
    | ret v => exact q3
  | false =>
    rw [if_neg Bool.false_ne_true]
    exact wpAny_execs_nil ⟨σ1, H2, I2, q2⟩
end
structure It where
  go : Nat → Hp → Prop
  yld : Nat → Hp → V → Hp → Prop
  stop : Nat → Hp → Prop
def FpOk (X : Cx) (pins : List (Addr × Obj)) (H : Hp) (b : Addr) : Prop :=
  H b = none ∧ b ≠ X.env.locals ∧ b ∉ X.fs ∧ (b ∈ X.ex ∨ X.s₀.heap.objs.size ≤ b) ∧ (∀ x c, X.env.cells.lookup x = some c → c ≠ b) ∧ ∀ p ∈ X.pn ++ pins, p.1 ≠ b
theorem Inv.fpOk {X : Cx} {pins : List (Addr × Obj)} {σ : St} {H H' : Hp} {s : Shared} {b : Addr} (I : Inv X pins σ H s) (hb : s.heap.objs.size ≤ b) (hn : H' b = none) : FpOk X pins H' b := by
  refine ⟨hn, Nat.ne_of_gt (Nat.lt_of_lt_of_le I.lt hb), I.nofs hb, .inr (Nat.le_trans I.sz hb), fun x c e z => ?_, fun p hp z => ?_⟩
  · obtain ⟨v, q⟩ := I.cell x c e
    exact absurd (Nat.lt_of_lt_of_le q.lt (by rw [z]; exact hb)) (Nat.lt_irrefl _)
  · exact absurd (Nat.lt_of_lt_of_le (Heap.lt_size (I.pin p hp).1) (by rw [z]; exact hb)) (Nat.lt_irrefl _)
structure Turn (P : Program) (w : World) (K : PySem.W.Frag) (tg : Expr) (J : It) (fp : List Addr) (it : Addr) (tn : Nat → Heap → Prop) : Prop where
  mem : it ∈ fp
  obj : ∀ i h, tn i h → ∀ b ∈ fp, ∃ o, h.get? b = some o ∧ ∀ v, o.data ≠ .cell v
  keep : ∀ i h h', tn i h → (∀ b ∈ fp, ∀ o, h.get? b = some o → h'.get? b = some o) → tn i h'
  item : ∀ (X : Cx), X.prog = P → X.w = w → X.K = K → X.calm = true → ∀ (i : Nat) (pins : List (Addr × Obj)) (s : Shared) (σ : St) (H : Hp) (E : Value → Shared → Prop), Inv X pins σ H s → (∀ b ∈ fp, FpOk X pins H b) → tn i s.heap → J.go i H →
    wpAny (model P w) X.A (pyNext (.ref it)) (fun r s1 => ∃ u, r = some u ∧
      wpAny (model P w) X.A (letOwnedTupleGo tg (.ref it) u) (fun _ s2 => ∃ x H', Inv X pins σ H' s2 ∧ RelV x u ∧ J.yld i H x H' ∧ tn (i + 1) s2.heap ∧ ∀ b ∈ fp, H' b = none) E s1) E s
  done : ∀ (X : Cx), X.prog = P → X.w = w → X.K = K → X.calm = true → ∀ (i : Nat) (pins : List (Addr × Obj)) (s : Shared) (σ : St) (H : Hp) (E : Value → Shared → Prop), Inv X pins σ H s → (∀ b ∈ fp, FpOk X pins H b) → tn i s.heap → J.stop i H →
    wpAny (model P w) X.A (pyNext (.ref it)) (fun r s1 => r = none ∧ Inv X pins σ H s1) E s
  self : ∀ (A : Around) (i : Nat) (s : Shared) (Q : Value → Shared → Prop) (E : Value → Shared → Prop), tn i s.heap → Q (.ref it) s → wpAny (model P w) A (pyIter (.ref it)) Q E s
abbrev TI := St → Hp → (It → Hp → Prop) → Prop
def PIE (X : Cx) (pins : List (Addr × Obj)) (σ : St) (tg : Expr) (R : It → Hp → Prop) (itv : Value) (s2 : Shared) : Prop :=
  ∃ (it : Addr) (fp : List Addr) (tn : Nat → Heap → Prop) (J : It) (H' : Hp), itv = .ref it ∧ Inv X pins σ H' s2 ∧ Turn X.prog X.w X.K tg J fp it tn ∧ tn 0 s2.heap ∧ (∀ b ∈ fp, FpOk X pins H' b) ∧ R J H'
def PI (X : Cx) (tg iter : Expr) (wi : TI) : Prop :=
  ∀ (pins : List (Addr × Obj)) (s : Shared) (σ : St) (H : Hp) (R : It → Hp → Prop), Inv X pins σ H s → wi σ H R →
    wpAny (model X.prog X.w) X.A (eval iter X.env) (fun v s1 => wpAny (model X.prog X.w) X.A (pyIter v) (PIE X pins σ tg R) X.xe s1) X.xe s
theorem go_of {M : Model} {A : Around} {E : Value → Shared → Prop} {s : Shared} {tg : Expr} {it : Addr} {u : Value} {o : Obj} {n : String} {vs : Array Value} {Q : Unit → Shared → Prop} (ho : s.heap.get? it = some o) (hc : o.cls = .type n) (hd : o.data = .fields vs)
    (hn : ["enumerate", "zip", "dict_itemiterator", "dict_reverseitemiterator", "odict_iterator", "itertools.zip_longest", "itertools.pairwise"].contains n = false) (hQ : Q () s) : wpAny M A (letOwnedTupleGo tg (.ref it) u) Q E s := by
  unfold letOwnedTupleGo
  cases tg <;> first
    | exact wpAny_pure hQ
    | (cases u <;> first
        | exact wpAny_pure hQ
        | (refine wpAny_bind (wpAny_load ho ?_)
           rw [hc, hd]
           show wpAny M A (if (["enumerate", "zip", "dict_itemiterator", "dict_reverseitemiterator", "odict_iterator", "itertools.zip_longest", "itertools.pairwise"].contains n && vs[0]? == some (rawInt _)) = true then _ else _) Q E s
           rw [if_neg (by intro h; rw [hn, Bool.false_and] at h; cases h)]
           exact wpAny_pure hQ))
def Itl (K : PySem.W.Frag) (a : Addr) : It :=
  ⟨fun i H => ∃ xs x, SqL K H a xs ∧ xs[i]? = some x, fun i H x H' => H' = H ∧ ∀ xs, SqL K H a xs → xs[i]? = some x, fun i H => ∃ xs, SqL K H a xs ∧ xs.length ≤ i⟩
def Itt (K : PySem.W.Frag) (a : Addr) : It :=
  ⟨fun i H => ∃ xs x, SqT K H a xs ∧ xs[i]? = some x, fun i H x H' => H' = H ∧ ∀ xs, SqT K H a xs → xs[i]? = some x, fun i H => ∃ xs, SqT K H a xs ∧ xs.length ≤ i⟩
def Itr (lo : Int) (n : Nat) : It := ⟨fun i _ => i < n, fun i H x H' => H' = H ∧ x = .int (lo + i), fun i _ => n ≤ i⟩
theorem turn_list {P : Program} {w : World} {K : PySem.W.Frag} {tg : Expr} (a it : Addr) : Turn P w K tg (Itl K a) [it] it (fun i h => h.IsListIter it a i) where
  mem := by simp
  obj := fun i h st b hb => by
    have e : b = it := by simpa using hb
    subst e
    obtain ⟨o, e, c, d⟩ := st
    exact ⟨o, e, fun v z => by rw [d] at z; cases z⟩
  keep := fun i h h' st k => st.at fun o e => k it (by simp) o e
  item := by
    intro X hP hw hK hc i pins s σ H E I hf st hg
    subst hP hw hK
    obtain ⟨xs, x, hq, hx⟩ := hg
    obtain ⟨its, rv, p, hz⟩ := I.list hq
    obtain ⟨u, hu, ru⟩ := rv.get hx
    obtain ⟨f0, f1, f2, f3, f4, f5⟩ := hf it (by simp)
    refine wpAny_pyNext_list_item st p.isList (x := u) (by simpa using hu) fun h' st' sb => ?_
    have I1 : Inv X pins σ H { s with heap := h' } := I.turned (t' := s.toks) (fun b o hb e => (sb.2 b hb).trans e) f0 f1 f3 f4 f5
    obtain ⟨o, e, c, d⟩ := id st'
    exact ⟨u, rfl, go_of (s := { s with heap := h' }) e c d (by decide) ⟨x, H, I1, ru, ⟨rfl, fun ys hy => by rw [I.list_inj hy hq]; exact hx⟩, st', fun b hb => (hf b hb).1⟩⟩
  done := by
    intro X hP hw hK hc i pins s σ H E I hf st hg
    subst hP hw hK
    obtain ⟨xs, hq, hx⟩ := hg
    obtain ⟨its, rv, p, hz⟩ := I.list hq
    obtain ⟨f0, f1, f2, f3, f4, f5⟩ := hf it (by simp)
    have hl := rv.length
    exact wpAny_pyNext_list_end (I.ok.hd hc) st p.isList (by simp; omega) fun h' eb => ⟨rfl, I.turned (t' := s.toks) (fun b o hb e => eb b o hb e) f0 f1 f3 f4 f5⟩
  self := fun _ _ _ _ _ st h => wpAny_pyIter_listiter st h
theorem turn_tuple {P : Program} {w : World} {K : PySem.W.Frag} {tg : Expr} (a it : Addr) : Turn P w K tg (Itt K a) [it] it (fun i h => h.IsTupleIter it a i) where
  mem := by simp
  obj := fun i h st b hb => by
    have e : b = it := by simpa using hb
    subst e
    obtain ⟨o, e, c, d⟩ := st
    exact ⟨o, e, fun v z => by rw [d] at z; cases z⟩
  keep := fun i h h' st k => st.at fun o e => k it (by simp) o e
  item := by
    intro X hP hw hK hc i pins s σ H E I hf st hg
    subst hP hw hK
    obtain ⟨xs, x, hq, hx⟩ := hg
    obtain ⟨its, rv, p, hz⟩ := I.tuple hq
    obtain ⟨u, hu, ru⟩ := rv.get hx
    obtain ⟨f0, f1, f2, f3, f4, f5⟩ := hf it (by simp)
    refine wpAny_pyNext_tuple_item st (show s.heap.IsTuple a its.toArray from p) (x := u) (by simpa using hu) fun h' st' sb => ?_
    have I1 : Inv X pins σ H { s with heap := h' } := I.turned (t' := s.toks) (fun b o hb e => (sb.2 b hb).trans e) f0 f1 f3 f4 f5
    obtain ⟨o, e, c, d⟩ := id st'
    exact ⟨u, rfl, go_of (s := { s with heap := h' }) e c d (by decide) ⟨x, H, I1, ru, ⟨rfl, fun ys hy => by rw [I.tuple_inj hy hq]; exact hx⟩, st', fun b hb => (hf b hb).1⟩⟩
  done := by
    intro X hP hw hK hc i pins s σ H E I hf st hg
    subst hP hw hK
    obtain ⟨xs, hq, hx⟩ := hg
    obtain ⟨its, rv, p, hz⟩ := I.tuple hq
    obtain ⟨f0, f1, f2, f3, f4, f5⟩ := hf it (by simp)
    have hl := rv.length
    exact wpAny_pyNext_tuple_end (I.ok.hd hc) st (show s.heap.IsTuple a its.toArray from p) (by simp; omega) fun h' eb => ⟨rfl, I.turned (t' := s.toks) (fun b o hb e => eb b o hb e) f0 f1 f3 f4 f5⟩
  self := fun _ _ _ _ _ st h => wpAny_pyIter_tupleiter st h
theorem turn_range {P : Program} {w : World} {K : PySem.W.Frag} {tg : Expr} (it : Addr) (lo : Int) (n : Nat) : Turn P w K tg (Itr lo n) [it] it (fun i h => IsRangeIter h it (lo + (i : Nat) * 1) ((n : Int) - (i : Nat)) 1) where
  mem := by simp
  obj := fun i h st b hb => by
    have e : b = it := by simpa using hb
    subst e
    exact ⟨_, st, fun v z => by
      have z' : Data.fields _ = Data.cell v := z
      cases z'⟩
  keep := fun i h h' st k => k it (by simp) _ st
  item := by
    intro X hP hw hK hc i pins s σ H E I hf st hg
    subst hP hw hK
    obtain ⟨f0, f1, f2, f3, f4, f5⟩ := hf it (by simp)
    have W := Walks.range (prog := X.prog) (w := X.w) (I.ok.hd hc) it lo 1 n
    refine W.item i s _ _ hg st fun v h' tk hv st' kk => ?_
    obtain ⟨t, rfl⟩ := hv
    have I1 : Inv X pins σ H { s with heap := h', toks := tk } := I.turned (fun b o hb e => kk b o (by simpa using hb) e) f0 f1 f3 f4 f5
    refine ⟨_, rfl, go_of (s := { s with heap := h', toks := tk }) (n := "range_iterator") st' rfl rfl (by decide) ⟨.int (lo + i), H, I1, ⟨t, ?_⟩, ⟨rfl, rfl⟩, st', fun b hb => (hf b hb).1⟩⟩
    rw [Int.mul_one]
  done := by
    intro X hP hw hK hc i pins s σ H E I hf st hg
    subst hP hw hK
    obtain ⟨f0, f1, f2, f3, f4, f5⟩ := hf it (by simp)
    exact wpAny_pyNext_range_end (I.ok.hd hc) st (by have : n ≤ i := hg; omega) fun h' eb => ⟨rfl, I.turned (t' := s.toks) (fun b o hb e => eb b o hb e) f0 f1 f3 f4 f5⟩
  self := fun _ _ _ _ _ st h => wpAny_pyIter_rangeiter st h
end L2
namespace L2
open PySem PySem.Spec PyProof.Rows
section
variable {X : Cx} {tg : Expr}
def iList (K : PySem.W.Frag) (tl : TE) : TI := fun σ H R => tl σ H fun x H1 => ∃ a, x = .ref a ∧ (∃ xs, SqL K H1 a xs) ∧ R (Itl K a) H1
def iTup (K : PySem.W.Frag) (tl : TE) : TI := fun σ H R => tl σ H fun x H1 => ∃ a, x = .ref a ∧ (∃ xs, SqT K H1 a xs) ∧ R (Itt K a) H1
theorem pi_list {l : Expr} {tl : TE} (hl : PE X l tl) : PI X tg l (iList X.K tl) := by
  intro pins s σ H R I h
  refine thn (hl pins s σ H _ I h) fun v s1 ⟨x, H1, I1, r1, q1⟩ => ?_
  obtain ⟨a, e, ⟨xs, hq⟩, q⟩ := q1
  subst e
  cases r1
  obtain ⟨its, rv, p, hz⟩ := I1.list hq
  refine wpAny_pyIter_list p.isList ?_
  refine ⟨s1.heap.objs.size, [s1.heap.objs.size], _, _, H1, rfl, I1.kept (t' := s1.toks) fun b o e => Heap.get?_push_of_some _ e, turn_list a _, ⟨_, Heap.get?_push_size _ rfl, rfl, rfl⟩, fun b hb => ?_, q⟩
  have e : b = s1.heap.objs.size := by simpa using hb
  subst e
  exact I1.fpOk (Nat.le_refl _) (I1.hok.fresh (Nat.le_refl _))
theorem pi_tup {l : Expr} {tl : TE} (hl : PE X l tl) : PI X tg l (iTup X.K tl) := by
  intro pins s σ H R I h
  refine thn (hl pins s σ H _ I h) fun v s1 ⟨x, H1, I1, r1, q1⟩ => ?_
  obtain ⟨a, e, ⟨xs, hq⟩, q⟩ := q1
  subst e
  cases r1
  obtain ⟨its, rv, p, hz⟩ := I1.tuple hq
  refine wpAny_pyIter_tuple (show s1.heap.IsTuple a its.toArray from p) ?_
  refine ⟨s1.heap.objs.size, [s1.heap.objs.size], _, _, H1, rfl, I1.kept (t' := s1.toks) fun b o e => Heap.get?_push_of_some _ e, turn_tuple a _, ⟨_, Heap.get?_push_size _ rfl, rfl, rfl⟩, fun b hb => ?_, q⟩
  have e : b = s1.heap.objs.size := by simpa using hb
  subst e
  exact I1.fpOk (Nat.le_refl _) (I1.hok.fresh (Nat.le_refl _))
theorem range_it {pins : List (Addr × Obj)} {σ : St} {H : Hp} {s : Shared} {R : It → Hp → Prop} {E : Value → Shared → Prop} {lo hi : Int} {t u v : Tok} {tk : Nat} (I : Inv X pins σ H s) (h1 : -(2 ^ 62) ≤ lo) (h2 : lo < 2 ^ 62) (h3 : -(2 ^ 62) ≤ hi) (h4 : hi < 2 ^ 62)
    (q : R (Itr lo (hi - lo).toNat) H) : wpAny (model X.prog X.w) X.A (pyIter (.ref s.heap.objs.size)) (PIE X pins σ tg R) E { s with heap := s.heap.push { cls := .type "range", data := .fields #[.int lo t, .int hi u, .int 1 v] }, toks := tk } := by
  refine wpAny_pyIter_range (IsRange.new ..) (small_one h1 h2 h3 h4) ?_
  have I1 : Inv X pins σ H { s with heap := s.heap.push { cls := .type "range", data := .fields #[.int lo t, .int hi u, .int 1 v] }, toks := tk } := I.kept fun b o e => Heap.get?_push_of_some _ e
  refine ⟨(s.heap.push { cls := .type "range", data := .fields #[.int lo t, .int hi u, .int 1 v] }).objs.size, [(s.heap.push { cls := .type "range", data := .fields #[.int lo t, .int hi u, .int 1 v] }).objs.size], _, _, H, rfl,
    I1.kept (t' := tk) fun b o e => Heap.get?_push_of_some _ e, turn_range _ lo (hi - lo).toNat, ?_, fun b hb => ?_, q⟩
  · have e1 : lo + ((0 : Nat) : Int) * 1 = lo := by simp
    have e2 : (((hi - lo).toNat : Nat) : Int) - ((0 : Nat) : Int) = Builtin.Range.rangeSize lo hi 1 := by rw [rangeSize_one]; split <;> omega
    show IsRangeIter _ _ (lo + ((0 : Nat) : Int) * 1) ((((hi - lo).toNat : Nat) : Int) - ((0 : Nat) : Int)) 1
    rw [e1, e2]
    exact Heap.get?_push_size _ rfl
  · have e : b = (s.heap.push { cls := .type "range", data := .fields #[.int lo t, .int hi u, .int 1 v] }).objs.size := by simpa using hb
    subst e
    exact I1.fpOk (Nat.le_refl _) (I1.hok.fresh (Nat.le_refl _))
def iRng1 (ta : TA) : TI := fun σ H R => ta σ H fun vs H1 => ∃ j : Int, vs = [.int j] ∧ -(2 ^ 62) ≤ j ∧ j < 2 ^ 62 ∧ R (Itr 0 j.toNat) H1
theorem pi_range1 {a : Expr} {ta : TA} {p pos : Pos} (hg : Gl X "range") (hm : X.mg "range" = none) (ha : PA X [a] ta) (hs : starEach [a] X.env = [(false, eval a X.env)] := by rfl) : PI X tg (.Call (.Name "range" p) [a] [] pos) (iRng1 ta) := by
  intro pins s σ H R I h
  refine Call_ (ld_blt I hg hm boot_range (PyProof.Rows.callWith_type1 (thn (ha pos pins s σ H _ I h) fun us s1 ⟨vs, H1, I1, r1, q1⟩ => ?_) hs rfl))
  obtain ⟨j, e, q1, q2, q⟩ := q1
  subst e
  cases r1 with
  | cons r rr =>
    cases rr
    obtain ⟨t, rfl⟩ := r
    exact call_range_1 (range_it I1 (by omega) (by omega) q1 q2 (by simpa using q))
def tFor (wi : TI) (g : TG) (tb : TS) : TS := fun D σ H => wi σ H fun J H1 => ∃ W : Nat → Nat → St → Hp → Prop, (∃ m, W 0 m σ H1) ∧ ∀ i m σ H, W i m σ H →
  (J.stop i H ∧ D.nx σ H) ∨ (J.go i H ∧ ∃ N : St → Hp → Prop, (∀ σ' H', N σ' H' → ∃ m', m' < m ∧ W (i + 1) m' σ' H') ∧ ∀ x H', J.yld i H x H' → g x σ H' fun σ2 H2 => tb { D with nx := N, ct := N, bk := D.nx } σ2 H2)
def pinsAt (fp : List Addr) (h : Heap) : List (Addr × Obj) := fp.filterMap fun b => (h.get? b).map fun o => (b, o)
theorem mem_pinsAt {fp : List Addr} {h : Heap} {b : Addr} {o : Obj} (hb : b ∈ fp) (e : h.get? b = some o) : (b, o) ∈ pinsAt fp h := List.mem_filterMap.mpr ⟨b, hb, by rw [e]; rfl⟩
theorem of_pinsAt {fp : List Addr} {h : Heap} {p : Addr × Obj} (hp : p ∈ pinsAt fp h) : p.1 ∈ fp ∧ h.get? p.1 = some p.2 := by
  obtain ⟨b, hb, e⟩ := List.mem_filterMap.mp hp
  cases q : h.get? b with
  | none => rw [q] at e; cases e
  | some o =>
    rw [q] at e
    have e' : (b, o) = p := Option.some.inj e
    subst e'
    exact ⟨hb, q⟩
theorem Inv.pinned {pins : List (Addr × Obj)} {σ : St} {H : Hp} {s : Shared} {fp : List Addr} (I : Inv X pins σ H s) (hf : ∀ b ∈ fp, FpOk X pins H b) (ho : ∀ b ∈ fp, ∃ o, s.heap.get? b = some o ∧ ∀ v, o.data ≠ .cell v) : Inv X (pins ++ pinsAt fp s.heap) σ H s :=
  I.pins_of fun p hp => (List.mem_append.mp hp).elim (fun z => I.pin p (List.mem_append_right _ z)) fun z => by
    obtain ⟨hb, e⟩ := of_pinsAt z
    obtain ⟨f0, f1, f2, _⟩ := hf p.1 hb
    obtain ⟨o, e', d⟩ := ho p.1 hb
    rw [e] at e'; cases e'
    exact ⟨e, f0, f1, f2, d⟩
theorem Inv.unpinned {pins pl : List (Addr × Obj)} {σ : St} {H : Hp} {s : Shared} (I : Inv X (pins ++ pl) σ H s) : Inv X pins σ H s := I.pins_of fun p hp => I.pin p (List.mem_append_right _ (List.mem_append_left _ hp))
theorem ps_for {iter : Expr} {body : List Stmt} {wi : TI} {g : TG} {tb : TS} {pos : Pos} (hp : PassesOwn (model X.prog X.w) X.A X.env X.xe) (hc : X.calm = true) (hi : PI X tg iter wi) (hg : PG X tg g) (hb : PSs X body tb)
    (hs : ∀ x, foldedSetIterable iter X.env x = pure x := by intro _; rfl) : PS X (.For tg iter body [] pos) (tFor wi g tb) := by
  intro pins s σ H D I h
  refine wpAny_For (thn (hi pins s σ H _ I h) fun v s1 h1 => thn h1 fun itv s2 h2 => ?_) hs
  obtain ⟨it, fp, tn, J, H2, e, I2, T, st2, f2, W, ⟨m0, w0⟩, turn⟩ := h2
  subst e
  have stat : ∀ {H' : Hp}, (∀ b ∈ fp, H' b = none) → ∀ b ∈ fp, FpOk X pins H' b := fun hn b hb => ⟨hn b hb, (f2 b hb).2⟩
  refine codeAny_forLoop_any (fun n s' => ∃ i σ' H', Inv X pins σ' H' s' ∧ tn i s'.heap ∧ (∀ b ∈ fp, H' b = none) ∧ W i n σ' H') ?_ m0 ⟨0, σ, H2, I2, st2, fun b hb => (f2 b hb).1, w0⟩
  rintro n s3 ⟨i, σ3, H3, I3, st3, fr3, w3⟩
  rcases turn i n σ3 H3 w3 with ⟨stop, qn⟩ | ⟨go, N, hN, step⟩
  · refine wpAny_passesOwn hp (thn (T.done X rfl rfl rfl hc i pins s3 σ3 H3 X.xe I3 (stat fr3) st3 stop) fun r s4 ⟨hr, I4⟩ => ?_)
    subst hr
    exact wpAny_execs_nil ⟨σ3, H3, I4, qn⟩
  · refine wpAny_passesOwn hp (thn (T.item X rfl rfl rfl hc i pins s3 σ3 H3 X.xe I3 (stat fr3) st3 go) fun r s4 ⟨u, hr, h4⟩ => ?_)
    subst hr
    refine wpAny_passesOwn hp (thn h4 fun _ s5 ⟨x, H5, I5, r5, y5, st5, fr5⟩ => ?_)
    have I5' := I5.pinned (stat fr5) (T.obj _ _ st5)
    refine wpAny_passesOwn hp (thn (hg _ s5 σ3 H5 x u _ I5' r5 (step x H5 y5)) fun _ s6 ⟨σ6, H6, I6, q6⟩ => ?_)
    refine wpAny_passesOwn hp (thn (hb _ s6 σ6 H6 _ I6 q6) fun f s7 q7 => ?_)
    have again : ∀ {σ7 : St} {H7 : Hp}, Inv X (pins ++ pinsAt fp s5.heap) σ7 H7 s7 → N σ7 H7 → ∃ m, m < n ∧ ∃ i σ' H', Inv X pins σ' H' s7 ∧ tn i s7.heap ∧ (∀ b ∈ fp, H' b = none) ∧ W i m σ' H' := fun {σ7 H7} I7 n7 => by
      obtain ⟨m', hm, w7⟩ := hN σ7 H7 n7
      refine ⟨m', hm, i + 1, σ7, H7, I7.unpinned, T.keep _ _ _ st5 fun b hb o e => (I7.pin (b, o) (List.mem_append_right _ (List.mem_append_right _ (mem_pinsAt hb e)))).1, fun b hb => ?_, w7⟩
      obtain ⟨o, e, d⟩ := T.obj _ _ st5 b hb
      exact (I7.pin (b, o) (List.mem_append_right _ (List.mem_append_right _ (mem_pinsAt hb e)))).2.1
    cases f with
    | next => obtain ⟨σ7, H7, I7, n7⟩ := q7; exact again I7 n7
    | cont => obtain ⟨σ7, H7, I7, n7⟩ := q7; exact again I7 n7
    | brk => obtain ⟨σ7, H7, I7, q7⟩ := q7; exact ⟨σ7, H7, I7.unpinned, q7⟩
    | ret v => obtain ⟨x7, σ7, H7, I7, r7, q7⟩ := q7; exact ⟨x7, σ7, H7, I7.unpinned, r7, q7⟩
end
end L2
namespace L2
open PySem PySem.Spec PyProof.Rows
abbrev R2 := V → V → Hp → VK → Prop
def OpR (X : Cx) (f : Value → Value → Sem Value) (r : R2) : Prop :=
  ∀ (pins : List (Addr × Obj)) (s : Shared) (σ : St) (H : Hp) (x y : V) (v u : Value) (Q : VK), Inv X pins σ H s → RelV x v → RelV y u → r x y H Q →
    wpAny (model X.prog X.w) X.A (f v u) (EP X pins σ Q) X.xe s
def UnR (X : Cx) (f : Value → Sem Value) (r : V → Hp → VK → Prop) : Prop :=
  ∀ (pins : List (Addr × Obj)) (s : Shared) (σ : St) (H : Hp) (x : V) (v : Value) (Q : VK), Inv X pins σ H s → RelV x v → r x H Q →
    wpAny (model X.prog X.w) X.A (f v) (EP X pins σ Q) X.xe s
def CallR (X : Cx) (f : Value) (r : List V → Hp → VK → Prop) : Prop :=
  ∀ (pins : List (Addr × Obj)) (s : Shared) (σ : St) (H : Hp) (xs : List V) (us : List Value) (Q : VK), Inv X pins σ H s → Vals xs us → r xs H Q →
    wpAny (model X.prog X.w) X.A (call f us) (EP X pins σ Q) X.xe s
def tOp (r : R2) (ta tb : TE) : TE := fun σ H Q => ta σ H fun x H1 => tb σ H1 fun y H2 => r x y H2 Q
def tUn (r : V → Hp → VK → Prop) (ta : TE) : TE := fun σ H Q => ta σ H fun x H1 => r x H1 Q
def rI (C : Int → Int → Prop) (g : Int → Int → V) : R2 := fun x y H Q => ∃ i j, x = .int i ∧ y = .int j ∧ C i j ∧ Q (g i j) H
def rI0 (g : Int → Int → V) : R2 := fun x y H Q => ∃ i j, x = .int i ∧ y = .int j ∧ Q (g i j) H
def rU (g : Int → V) : V → Hp → VK → Prop := fun x H Q => ∃ i, x = .int i ∧ Q (g i) H
section
variable {X : Cx} {a b c : Expr} {ta tb tc : TE} {pos : Pos}
theorem binT (ha : PE X a ta) (hb : PE X b tb) {pins : List (Addr × Obj)} {s : Shared} {σ : St} {H : Hp} {R : V → V → Hp → Prop} (I : Inv X pins σ H s)
    (h : ta σ H fun x H1 => tb σ H1 fun y H2 => R x y H2) {Q : Value → Shared → Prop} {f : Value → Value → Sem Value}
    (hf : ∀ v u s2 x y H2, Inv X pins σ H2 s2 → RelV x v → RelV y u → R x y H2 → wpAny (model X.prog X.w) X.A (f v u) Q X.xe s2) :
    wpAny (model X.prog X.w) X.A (eval a X.env) (fun v s₁ => wpAny (model X.prog X.w) X.A (eval b X.env) (fun u s₂ => wpAny (model X.prog X.w) X.A (f v u) Q X.xe s₂) X.xe s₁) X.xe s := by
  refine thn (ha pins s σ H _ I h) fun v s1 ⟨x, H1, I1, r1, q1⟩ => ?_
  refine thn (hb pins s1 σ H1 _ I1 q1) fun u s2 ⟨y, H2, I2, r2, q2⟩ => ?_
  exact hf v u s2 x y H2 I2 r1 r2 q2
theorem pe_op {op : Operator} {r : R2} (ho : OpR X (binaryOp op) r) (ha : PE X a ta) (hb : PE X b tb) : PE X (.BinOp a op b pos) (tOp r ta tb) := by
  intro pins s σ H Q I h
  exact wpAny_BinOp (binT ha hb I h fun v u s2 x y H2 I2 rx ry q => ho pins s2 σ H2 x y v u Q I2 rx ry q)
theorem pe_un {op : UnaryOp} {r : V → Hp → VK → Prop} (ho : UnR X (unaryOp op) r) (ha : PE X a ta) : PE X (.UnaryOp op a pos) (tUn r ta) := by
  intro pins s σ H Q I h
  exact UnaryOp_ (thn (ha pins s σ H _ I h) fun v s1 ⟨x, H1, I1, r1, q1⟩ => ho pins s1 σ H1 x v Q I1 r1 q1)
theorem opI {f : Value → Value → Sem Value} {C : Int → Int → Prop} {g : Int → Int → Int}
    (rule : ∀ (i j : Int) (t u : Tok) (s : Shared) (Q : Value → Shared → Prop) (E : Value → Shared → Prop), C i j → Q (.int (g i j) s.toks) { s with toks := s.toks + 1 } → wpAny (model X.prog X.w) X.A (f (.int i t) (.int j u)) Q E s) :
    OpR X f (rI C fun i j => .int (g i j)) := by
  intro pins s σ H x y v u Q I rx ry h
  obtain ⟨i, j, rfl, rfl, hc, q⟩ := h
  obtain ⟨t, rfl⟩ := rx
  obtain ⟨t', rfl⟩ := ry
  exact rule i j t t' s _ _ hc ⟨.int (g i j), H, I.tok _, ⟨_, rfl⟩, q⟩
theorem opI0 {f : Value → Value → Sem Value} {g : Int → Int → Int}
    (rule : ∀ (i j : Int) (t u : Tok) (s : Shared) (Q : Value → Shared → Prop) (E : Value → Shared → Prop), Q (.int (g i j) s.toks) { s with toks := s.toks + 1 } → wpAny (model X.prog X.w) X.A (f (.int i t) (.int j u)) Q E s) :
    OpR X f (rI0 fun i j => .int (g i j)) := by
  intro pins s σ H x y v u Q I rx ry h
  obtain ⟨i, j, rfl, rfl, q⟩ := h
  obtain ⟨t, rfl⟩ := rx
  obtain ⟨t', rfl⟩ := ry
  exact rule i j t t' s _ _ ⟨.int (g i j), H, I.tok _, ⟨_, rfl⟩, q⟩
theorem opB0 {f : Value → Value → Sem Value} {g : Int → Int → Bool}
    (rule : ∀ (i j : Int) (t u : Tok) (s : Shared) (Q : Value → Shared → Prop) (E : Value → Shared → Prop), Q (.bool (g i j)) s → wpAny (model X.prog X.w) X.A (f (.int i t) (.int j u)) Q E s) :
    OpR X f (rI0 fun i j => .bl (g i j)) := by
  intro pins s σ H x y v u Q I rx ry h
  obtain ⟨i, j, rfl, rfl, q⟩ := h
  obtain ⟨t, rfl⟩ := rx
  obtain ⟨t', rfl⟩ := ry
  exact rule i j t t' s _ _ ⟨.bl (g i j), H, I, rfl, q⟩
def CPow (i j : Int) : Prop := 0 ≤ j ∧ j ≤ 1000000 ∧ i.natAbs < 2 ^ 64
def CMul (i j : Int) : Prop := (-(2 ^ 64) < i ∧ i < 2 ^ 64) ∨ (-(2 ^ 64) < j ∧ j < 2 ^ 64)
theorem CMul.ok {i j : Int} (h : CMul i j) : IntMulOk i j := by
  rcases h with ⟨h1, h2⟩ | ⟨h1, h2⟩
  · exact .of_left (intBits_le_64 h1 h2)
  · exact .of_right (intBits_le_64 h1 h2)
theorem op_add : OpR X (binaryOp .Add) (rI0 fun i j => .int (i + j)) := opI0 fun _ _ _ _ _ _ _ q => add_int q
theorem op_sub : OpR X (binaryOp .Sub) (rI0 fun i j => .int (i - j)) := opI0 fun _ _ _ _ _ _ _ q => sub_int q
theorem op_mod : OpR X (binaryOp .Mod) (rI (fun _ j => 0 < j) fun i j => .int (i % j)) := opI fun i j _ _ _ _ _ hc q => by
  have h1 : (0 : Int) < j := hc
  exact mod_int' (by omega) (by rw [Int.fmod_eq_emod_of_nonneg i (by omega)]; exact q)
theorem op_pow : OpR X (binaryOp .Pow) (rI CPow fun i j => .int (i ^ j.toNat)) := opI fun _ _ _ _ _ _ _ hc q => pow_int_small hc.1 hc.2.1 hc.2.2 q
theorem unI {f : Value → Sem Value} {g : Int → Int}
    (rule : ∀ (i : Int) (t : Tok) (s : Shared) (Q : Value → Shared → Prop) (E : Value → Shared → Prop), Q (.int (g i) s.toks) { s with toks := s.toks + 1 } → wpAny (model X.prog X.w) X.A (f (.int i t)) Q E s) :
    UnR X f (rU fun i => .int (g i)) := by
  intro pins s σ H x v Q I rx h
  obtain ⟨i, rfl, q⟩ := h
  obtain ⟨t, rfl⟩ := rx
  exact rule i t s _ _ ⟨.int (g i), H, I.tok _, ⟨_, rfl⟩, q⟩
theorem un_neg : UnR X (unaryOp .USub) (rU fun i => .int (-i)) := unI fun _ _ _ _ _ q => neg_int q
end
section
variable {X : Cx} {a b c : Expr} {ta tb tc : TE} {pos : Pos}
theorem fin_bl {pins : List (Addr × Obj)} {σ : St} {H : Hp} {s : Shared} {Q : VK} {k k' : Bool} (I : Inv X pins σ H s) (q : Q (.bl k) H) (e : k = k') : EP X pins σ Q (.bool k') s := by
  subst e
  exact ⟨.bl k, H, I, rfl, q⟩
theorem op_lt : OpR X (compareOp .Lt) (rI0 fun i j => .bl (decide (i < j))) := opB0 fun _ _ _ _ _ _ _ q => lt_int q
theorem op_gt : OpR X (compareOp .Gt) (rI0 fun i j => .bl (decide (j < i))) := opB0 fun _ _ _ _ _ _ _ q => gt_int q
theorem op_isN : OpR X (compareOp .Is) (fun x y H Q => y = .non ∧ Q (.bl (decide (x = .non))) H) := by
  intro pins s σ H x y v u Q I rx ry h
  obtain ⟨rfl, q⟩ := h
  cases ry
  refine is_none_gen (fin_bl I q ?_)
  cases x <;> first
    | (cases rx; rfl)
    | (obtain ⟨t, rfl⟩ := rx; rfl)
theorem op_notN : OpR X (compareOp .IsNot) (fun x y H Q => y = .non ∧ Q (.bl (!decide (x = .non))) H) := by
  intro pins s σ H x y v u Q I rx ry h
  obtain ⟨rfl, q⟩ := h
  cases ry
  refine isnot_none_gen (fin_bl I q ?_)
  cases x <;> first
    | (cases rx; rfl)
    | (obtain ⟨t, rfl⟩ := rx; rfl)
theorem OpR.or {f : Value → Value → Sem Value} {r r' : R2} (h : OpR X f r) (h' : OpR X f r') : OpR X f (fun x y H Q => r x y H Q ∨ r' x y H Q) := by
  intro pins s σ H x y v u Q I rx ry q
  rcases q with q | q
  · exact h pins s σ H x y v u Q I rx ry q
  · exact h' pins s σ H x y v u Q I rx ry q
theorem nomark (b : Expr) {op : CmpOp} (h : op ≠ .In := by decide) (h2 : op ≠ .NotIn := by decide) : behindInMarks op b = false := by
  have e1 : (op == CmpOp.In) = false := by cases op <;> first | rfl | exact absurd rfl h
  have e2 : (op == CmpOp.NotIn) = false := by cases op <;> first | rfl | exact absurd rfl h2
  cases b <;> simp [behindInMarks, e1, e2]
theorem pe_cmpR {op : CmpOp} {r : R2} (ho : OpR X (compareOp op) r) (ha : PE X a ta) (hb : PE X b tb) (hm : behindInMarks op b = false) : PE X (.Compare a [op] [b] pos) (tOp r ta tb) := by
  intro pins s σ H Q I h
  exact wpAny_Compare1 (binT ha hb I h fun v u s2 x y H2 I2 rx ry q => ho pins s2 σ H2 x y v u Q I2 rx ry q) hm
def tTest (t : TE) : TT := fun σ H Q => t σ H fun x H' => ∃ k, x = .bl k ∧ Q k H'
theorem pt_cmpR {op : CmpOp} {r : R2} (ho : OpR X (compareOp op) r) (ha : PE X a ta) (hb : PE X b tb) (hm : behindInMarks op b = false) : PT X (.Compare a [op] [b] pos) (tTest (tOp r ta tb)) := by
  intro pins s σ H Q I h
  refine wpAny_isTrue_Compare1 (thn (ha pins s σ H _ I h) fun v s1 ⟨x, H1, I1, r1, q1⟩ => thn (hb pins s1 σ H1 _ I1 q1) fun u s2 ⟨y, H2, I2, r2, q2⟩ =>
    thn (ho pins s2 σ H2 x y v u _ I2 r1 r2 q2) fun c s3 ⟨z, H3, I3, r3, k, e, q3⟩ => ?_) hm
  subst e
  cases r3
  exact wpAny_truthy_bool ⟨H3, I3, q3⟩
theorem line63 : (sizeLine : Nat) < 2 ^ 63 := by rw [sizeLine_eq]; decide
theorem vals1 {x : V} {us : List Value} (r : Vals [x] us) : ∃ u, us = [u] ∧ RelV x u := by
  cases r with
  | cons r1 r2 => cases r2; exact ⟨_, rfl, r1⟩
theorem vals2 {x y : V} {us : List Value} (r : Vals [x, y] us) : ∃ u w', us = [u, w'] ∧ RelV x u ∧ RelV y w' := by
  cases r with
  | cons r1 r2 =>
    cases r2 with
    | cons r3 r4 => cases r4; exact ⟨_, _, rfl, r1, r3⟩
theorem call_abs : CallR X (.builtin "abs") (fun xs H Q => ∃ i, xs = [.int i] ∧ Q (.int (if i < 0 then -i else i)) H) := by
  intro pins s σ H xs us Q I r h
  obtain ⟨i, rfl, q⟩ := h
  obtain ⟨u, rfl, t, rfl⟩ := vals1 r
  exact call_abs_int fun u tk => ⟨.int (if i < 0 then -i else i), H, I.tok _, ⟨_, rfl⟩, q⟩
theorem call_int1 : CallR X (.type "int") (fun xs H Q => (∃ i, xs = [.int i] ∧ Q (.int i) H) ∨ ∃ k, xs = [.bl k] ∧ Q (.int (if k then 1 else 0)) H) := by
  intro pins s σ H xs us Q I r h
  rcases h with ⟨i, rfl, q⟩ | ⟨k, rfl, q⟩
  · obtain ⟨u, rfl, t, rfl⟩ := vals1 r
    exact call_int_int ⟨.int i, H, I, ⟨_, rfl⟩, q⟩
  · obtain ⟨u, rfl, r1⟩ := vals1 r
    cases r1
    exact call_int_bool ⟨.int (if k then 1 else 0), H, I.tok _, ⟨_, rfl⟩, q⟩
end
end L2
namespace L2
open PySem PySem.Spec PyProof.Rows
section
variable {prog : Program} {w : World} {A : Around} {E : Value → Shared → Prop} {s : Shared} {K : PySem.W.Frag} {x dx C f : Addr} {mA : Str → Option Value} {name : Str} {v : Value}
end
theorem RelO.none_of {o : Option Value} (r : RelO none o) : o = none := by
  cases o with
  | none => rfl
  | some u => exact (show False from r).elim
section
variable {P : Program} {w : World} {H H' : Hp} {h h' : Heap} {a C dx : Addr} {fs fs' : List (Str × V)}
end
structure Cls (K : PySem.W.Frag) (C : Addr) : Prop where
  pg : PySem.W.plainGet K C Str.empty = true
  hd : PySem.W.hasDictIn K C = true
  po : PySem.W.plainOver K C = true
  sa : PySem.W.findIn K (.ref C) "__setattr__" = some (some (.builtin "object.__setattr__"))
theorem Cls.get {K : PySem.W.Frag} {C : Addr} (c : Cls K C) (f : Str) : PySem.W.plainGet K C f = true := c.pg
section
variable {X : Cx} {pins : List (Addr × Obj)} {σ : St} {H : Hp} {s : Shared} {a C dx : Addr} {fs : List (Str × V)} {f : Str} {v : V} {A : Around} {E : Value → Shared → Prop}
theorem Inv.made (I : Inv X pins σ H s) : Inv X pins σ (upd (upd H s.heap.objs.size (.own (s.heap.objs.size + 1))) (s.heap.objs.size + 1) (.ins C s.heap.objs.size []))
    { s with heap := (s.heap.push PySem.W.emptyDict).push (PySem.W.instObj C s.heap.objs.size) } := by
  have e1 : (s.heap.push PySem.W.emptyDict).get? s.heap.objs.size = some PySem.W.emptyDict := Heap.get?_push_size s.heap rfl
  have e2 : ((s.heap.push PySem.W.emptyDict).push (PySem.W.instObj C s.heap.objs.size)).get? (s.heap.objs.size + 1) = some (PySem.W.instObj C s.heap.objs.size) := by
    have := Heap.get?_push_size (s.heap.push PySem.W.emptyDict) (o := PySem.W.instObj C s.heap.objs.size) rfl
    rwa [Heap.size_push] at this
  have e3 : (s.heap.push PySem.W.emptyDict).Ns s.heap.objs.size (fun _ => none) := ⟨PySem.W.emptyDict, #[], _, e1, rfl, (fun e he => absurd he (by simp)), fun _ => rfl⟩
  have I1 := I.laid (a := s.heap.objs.size) (o := .own (s.heap.objs.size + 1)) (h' := s.heap.push PySem.W.emptyDict) (t' := s.toks) (fun b u q => Heap.get?_push_of_some _ q) (Nat.le_refl _) ⟨_, e1⟩
  refine I1.laid (a := s.heap.objs.size + 1) (o := .ins C s.heap.objs.size []) (t' := s.toks) (fun b u q => Heap.get?_push_of_some _ q) (Nat.le_of_eq (Heap.size_push _ _)) ?_
  have ne : s.heap.objs.size ≠ s.heap.objs.size + 1 := Nat.ne_of_lt (Nat.lt_succ_self _)
  refine ⟨by rw [upd_ne ne, upd_same], Nat.zero_le _, ne, e2, fun _ => none, (Heap.Ns1.of_empty e3).at fun o q => Heap.get?_push_of_some _ q, fun _ => True.intro, fun y hy => absurd rfl hy⟩
end
section
variable {X : Cx} {o e value : Expr} {f : Str} {pos pos' tpos : Pos} {ta tv : TE}
end
section
variable {X : Cx} {pins : List (Addr × Obj)} {σ : St} {H : Hp} {s : Shared} {A : Around} {E : Value → Shared → Prop} {Q : Value → Shared → Prop} {c : Value} {b : Bool}
end
end L2
namespace L2
open PySem PySem.Spec PyProof.Rows
structure Room (k : Nat) (A : Around) : Prop where
  hd : A.handled = none
  dp : A.depth + 3 * k + 5 < recursionLimit
  un : A.units + 16 * k + 200 < cLine
theorem Room.mono {j k : Nat} {A : Around} (r : Room k A) (h : j ≤ k) : Room j A := ⟨r.hd, by have := r.dp; omega, by have := r.un; omega⟩
theorem Room.deeper {k : Nat} {A : Around} (r : Room (k + 1) A) (env : Env) : Room k (A.deeper env) :=
  ⟨r.hd, by have := r.dp; show A.depth + 1 + 3 * k + 5 < _; omega, by have := r.un; show A.units + 3 + 16 * k + 200 < _; omega⟩
theorem Room.in1 {k : Nat} {A : Around} (r : Room (k + 1) A) : Room k A.in1 :=
  ⟨r.hd, by have := r.dp; show A.depth + 3 * k + 5 < _; omega, by have := r.un; show A.units + 1 + 16 * k + 200 < _; omega⟩
theorem Room.depth {k : Nat} {A : Around} (r : Room k A) : A.depth < recursionLimit := by have := r.dp; omega
theorem Room.units {k : Nat} {A : Around} (r : Room k A) : A.units + 64 < cLine := by have := r.un; omega
theorem Room.units0 {k : Nat} {A : Around} (r : Room k A) : A.units < cLine := by have := r.un; omega
def tNil : TA := fun _ H Q => Q [] H
def tCons (ta : TE) (tr : TA) : TA := fun σ H Q => ta σ H fun x H1 => tr σ H1 fun xs H2 => Q (x :: xs) H2
section
variable {X : Cx} {e : Expr} {es : List Expr} {te : TE} {t : TA} {pos : Pos}
theorem pa_nil : PA X [] tNil := fun _ _ _ _ H Q I h => Calls.spliced_nil ⟨[], H, I, .nil, h⟩
theorem pa_cons (ha : PE X e te) (hr : PA X es t) (hs : starEach (e :: es) X.env = (false, eval e X.env) :: starEach es X.env := by rfl) : PA X (e :: es) (tCons te t) := by
  intro pos pins s σ H Q I h
  rw [hs]
  show wpAny _ _ (spliced ((false, eval e X.env) :: backTo pos (starEach es X.env))) _ _ s
  refine Calls.spliced_cons (thn (ha pins s σ H _ I h) fun u s1 ⟨x, H1, I1, r1, q1⟩ => ?_)
  exact thn (hr pos pins s1 σ H1 _ I1 q1) fun us s2 ⟨xs, H2, I2, r2, q2⟩ => ⟨x :: xs, H2, I2, .cons r1 r2, q2⟩
def tTup (t : TA) : TE := fun σ H Q => t σ H fun xs H1 => xs.length ≤ sizeLine ∧ ∀ p, H1 p = none → Q (.ref p) (upd H1 p (.tup xs))
def tLst (t : TA) : TE := fun σ H Q => t σ H fun xs H1 => xs.length ≤ sizeLine ∧ ∀ p, H1 p = none → Q (.ref p) (upd H1 p (.lst xs))
theorem pe_tup {x1} (h : PA X es t) : PE X (.Tuple es x1 pos) (tTup t) := by
  intro pins s σ H Q I hq
  refine wpAny_Tuple_spliced (thn (h pos pins s σ H _ I hq) fun us s1 ⟨xs, H1, I1, r, z, q⟩ => ⟨by rw [← r.length]; exact z, ?_⟩)
  have hf : H1 s1.heap.objs.size = none := I1.hok.fresh (Nat.le_refl _)
  refine ⟨.ref s1.heap.objs.size, upd H1 s1.heap.objs.size (.tup xs), I1.laid (t' := s1.toks) (fun b u e => Heap.get?_push_of_some _ e) (Nat.le_refl _) ?_, rfl, q _ hf⟩
  exact ⟨z, us, r, ⟨_, Heap.get?_push_size _ rfl, rfl, _, rfl⟩⟩
theorem pe_lst (h : PA X es t) : PE X (.List es pos) (tLst t) := by
  intro pins s σ H Q I hq
  refine wpAny_List_spliced (thn (h pos pins s σ H _ I hq) fun us s1 ⟨xs, H1, I1, r, z, q⟩ => ⟨by rw [← r.length]; exact z, ?_⟩)
  have hf : H1 s1.heap.objs.size = none := I1.hok.fresh (Nat.le_refl _)
  refine ⟨.ref s1.heap.objs.size, upd H1 s1.heap.objs.size (.lst xs), I1.laid (t' := s1.toks) (fun b u e => Heap.get?_push_of_some _ e) (Nat.le_refl _) ?_, rfl, q _ hf⟩
  exact ⟨z, us, 0, r, Heap.get?_push_size _ rfl⟩
end
abbrev Sp := List V → Hp → VK → XK → Prop
abbrev CXT := List Env → Hp → Shared → XK → Value → Shared → Prop
structure Env0 (P : Program) (w : World) (K : PySem.W.Frag) (mg : Str → Option Value) (base : Heap) (A : Around) (outer : List Env) (s : Shared) (H : Hp) : Prop where
  frames : A.frames = some outer
  mod : Mod K mg base
  bs : ∀ b o, base.get? b = some o → s.heap.get? b = some o ∧ H b = none
  bsz : base.objs.size ≤ s.heap.objs.size
  funs : s.heap.FunFrames base outer
  frf : ∀ b ∈ frs outer, H b = none
  hok : HOk P w H s.heap
  bare : AllBare s.gens
def CE (outer : List Env) (P : Program) (w : World) (H : Hp) (s : Shared) (Q : VK) (u : Value) (s' : Shared) : Prop :=
  ∃ v H', s'.os = s.os ∧ AllBare s'.gens ∧ Un (frs outer) [] H H' s.heap s'.heap ∧ HOk P w H' s'.heap ∧ RelV v u ∧ Q v H'
def CR (CX : CXT) (outer : List Env) (P : Program) (w : World) (H : Hp) (s : Shared) (Q : VK) (E : XK) (r : Result) (s' : Shared) : Prop :=
  match r with
  | .ok (.ret u) => CE outer P w H s Q u s'
  | .ok _ => False
  | .error e => CX outer H s E e s'
structure FnOk (P : Program) (w : World) (K : PySem.W.Frag) (mg : Str → Option Value) (base : Heap) (CX : CXT) (k : Nat) (f : Addr) (fd : FuncData) (ps : List Str) (sp : Sp) : Prop where
  len : ∀ vs H Q E, sp vs H Q E → vs.length = ps.length
  run : ∀ (A : Around) (outer : List Env) (s : Shared) (H : Hp) (args : Args) (us : List Value) (vs : List V) (Q : VK) (E : XK), Room k A → Env0 P w K mg base A outer s H → BindsTo s fd args (ps.zip us) → Vals vs us → sp vs H Q E →
    codeAny (model P w) A (.call (.ref f) args) (CR CX outer P w H s Q E) s
theorem FnOk.mono {P : Program} {w : World} {K : PySem.W.Frag} {mg : Str → Option Value} {base : Heap} {CX : CXT} {j k : Nat} {f : Addr} {fd : FuncData} {ps : List Str} {sp : Sp} (F : FnOk P w K mg base CX j f fd ps sp) (h : j ≤ k) :
    FnOk P w K mg base CX k f fd ps sp := ⟨F.len, fun A outer s H args us vs Q E hr => F.run A outer s H args us vs Q E (hr.mono h)⟩
theorem FnOk.imp {P : Program} {w : World} {K : PySem.W.Frag} {mg : Str → Option Value} {base : Heap} {CX : CXT} {k : Nat} {f : Addr} {fd : FuncData} {ps : List Str} {sp sp' : Sp} (F : FnOk P w K mg base CX k f fd ps sp)
    (h : ∀ vs H Q E, sp' vs H Q E → sp vs H Q E) : FnOk P w K mg base CX k f fd ps sp' :=
  ⟨fun vs H Q E q => F.len vs H Q E (h _ _ _ _ q), fun A outer s H args us vs Q E hr he hb hv hs => F.run A outer s H args us vs Q E hr he hb hv (h _ _ _ _ hs)⟩
theorem Env0.in1 {P : Program} {w : World} {K : PySem.W.Frag} {mg : Str → Option Value} {base : Heap} {A : Around} {outer : List Env} {s : Shared} {H : Hp} (e : Env0 P w K mg base A outer s H) :
    Env0 P w K mg base A.in1 outer s H := ⟨e.frames, e.mod, e.bs, e.bsz, e.funs, e.frf, e.hok, e.bare⟩
section
variable {X : Cx} {pins : List (Addr × Obj)} {σ : St} {H : Hp} {s s' : Shared}
theorem Inv.env0 (I : Inv X pins σ H s) : Env0 X.prog X.w X.K X.mg X.base X.A X.stack s H :=
  ⟨I.ok.frames, I.ok.mod, I.bs, Nat.le_trans I.ok.bsz I.sz, I.stack, I.stkFree, I.hok, I.bare⟩
theorem Inv.after {Q : VK} {u : Value} (I : Inv X pins σ H s) (h : CE X.stack X.prog X.w H s Q u s') : EP X pins σ Q u s' := by
  obtain ⟨v, H', os, bare, un, hok, r, q⟩ := h
  obtain ⟨hh, g, d, t, os'⟩ := s'
  obtain rfl : os' = s.os := os
  exact ⟨v, H', I.call (h' := hh) (g' := g) (d' := d) (t' := t) (ch := []) un hok bare (fun b z => absurd z (by simp)), r, q⟩
end
def tCall (sp : Sp) (dvs : List V) (E : XK) (t : TA) : TE := fun σ H Q => t σ H fun vs H1 => sp (vs ++ dvs) H1 Q E
def Binds (K : PySem.W.Frag) (fd : FuncData) (ps : List Str) (ds : List Value) : Prop :=
  ∀ (s : Shared) (us : List Value), K.In s.heap → (us ++ ds).length = ps.length → BindsTo s fd ⟨us, []⟩ (ps.zip (us ++ ds))
theorem Binds.all {K : PySem.W.Frag} {fd : FuncData} {ps : List Str} (h : ∀ us : List Value, us.length = ps.length → bindArgs fd ⟨us, []⟩ = pure (ps.zip us)) : Binds K fd ps [] := fun s us _ hl => by
  rw [List.append_nil] at hl ⊢
  exact .of_eq (h us hl)
def Passes (CX : CXT) (X : Cx) (E : XK) : Prop := ∀ (pins : List (Addr × Obj)) (σ : St) (H : Hp) (s : Shared) (e : Value) (s' : Shared), Inv X pins σ H s → CX X.stack H s E e s' → X.xe e s'
section
variable {X : Cx} {CX : CXT} {k : Nat} {f C : Addr} {fd : FuncData} {ps : List Str} {sp : Sp} {dvs : List V} {ds : List Value} {E : XK} {x m : Str} {p pos apos : Pos} {e o : Expr} {es : List Expr} {ta : TE} {t : TA}
theorem run_fn {pins : List (Addr × Obj)} {σ : St} {H : Hp} {s : Shared} {Q : VK} {us : List Value} {vs : List V} (F : FnOk X.prog X.w X.K X.mg X.base CX k f fd ps sp) (hr : Room k X.A) (hb : Binds X.K fd ps ds) (hd : Vals dvs ds) (hx : Passes CX X E)
    (I : Inv X pins σ H s) (r : Vals vs us) (h : sp (vs ++ dvs) H Q E) : wpAny (model X.prog X.w) X.A (call (.ref f) us) (EP X pins σ Q) X.xe s := by
  have r2 : Vals (vs ++ dvs) (us ++ ds) := r.append hd
  have hl : (us ++ ds).length = ps.length := by rw [← r2.length]; exact F.len _ _ _ _ h
  refine wpAny_call (codeAny_mono (F.run X.A X.stack s H ⟨us, []⟩ (us ++ ds) (vs ++ dvs) Q E hr I.env0 (hb s us I.kIn hl) r2 h) fun r s' hq => ?_)
  cases r with
  | error e => exact hx pins σ H s e s' I hq
  | ok fl =>
    cases fl with
    | ret u => exact I.after hq
    | next => exact False.elim hq
    | brk => exact False.elim hq
    | cont => exact False.elim hq
theorem pe_call (F : FnOk X.prog X.w X.K X.mg X.base CX k f fd ps sp) (hr : Room k X.A) (hg : Gl X x) (hm : X.mg x = some (.ref f)) (hk : PySem.W.keepIn X.K (.ref f) = true) (hb : Binds X.K fd ps ds) (hd : Vals dvs ds) (hx : Passes CX X E)
    (ha : PA X (e :: es) t) (hdb : (x == ("__debug__" : Str)) = false := by decide) (he : starEach (e :: es) X.env = (false, eval e X.env) :: starEach es X.env := by rfl) (hpl : (backTo pos (starEach es X.env)).any (·.1) = false := by rfl) :
    PE X (.Call (.Name x p) (e :: es) [] pos) (tCall sp dvs E t) := by
  intro pins s σ H Q I h
  refine wpAny_Call_Name_kw (ld_glob I hg hm ?_ hdb)
  refine PySem.W.callWith_K (h₀ := X.base) I.ok.mod.kin hk (thn (ha pos pins s σ H _ I h) fun us s1 ⟨vs, H1, I1, r, q⟩ => ⟨I1.kIn, ?_⟩) he hpl
  exact run_fn F hr hb hd hx I1 r q
end
section
variable {X : Cx} {CX : CXT} {k : Nat} {f C : Addr} {fd : FuncData} {ps ks : List Str} {sp : Sp} {E : XK} {x m : Str} {p pos apos kpos : Pos} {e o : Expr} {es : List Expr} {kws : List Keyword} {te ta : TE} {t tk : TA} {nm : Option Str}
variable {g : List Value → List Value → List Value} {gV : List V → List V → List V}
end
structure FnScope (N P : List Str) (sc : Scope) : Prop where
  kind : sc.kind = .function
  co : sc.isCoroutine = false
  gen : sc.isGenerator = false
  nd : N.Nodup
  pre : N.take P.length = P
  par : ∀ x ∈ P, sc.names.lookup x = some .local ∨ sc.names.lookup x = some .cell
  nofree : ∀ y ∈ sc.names, y.2 ≠ .free
theorem bindL_out {kindOf : Str → Option NameKind} {x : Str} : ∀ {binds : List (Str × Value)} {m : Str → Option Value}, (∀ v, (x, v) ∉ binds) → bindL kindOf binds m x = m x
  | [], _, _ => rfl
  | (n, v) :: r, m, h => by
    unfold bindL
    rw [bindL_out fun w hw => h w (List.mem_cons_of_mem _ hw)]
    split
    · have : x ≠ n := by rintro rfl; exact h v List.mem_cons_self
      simp [this]
    · rfl
theorem bindC_out {kindOf : Str → Option NameKind} {x : Str} : ∀ {binds : List (Str × Value)} {m : Str → Option Value}, (∀ v, (x, v) ∉ binds) → bindC kindOf binds m x = m x
  | [], _, _ => rfl
  | (n, v) :: r, m, h => by
    unfold bindC
    rw [bindC_out fun w hw => h w (List.mem_cons_of_mem _ hw)]
    split
    · rfl
    · have : x ≠ n := by rintro rfl; exact h v List.mem_cons_self
      simp [this]
theorem bindL_get {kindOf : Str → Option NameKind} {x : Str} {v : Value} : ∀ {P : List Str} {vs : List Value} {i : Nat} {m : Str → Option Value}, P.Nodup → P[i]? = some x → vs[i]? = some v → kindOf x = some .local →
    bindL kindOf (P.zip vs) m x = some v
  | [], _, _, _, _, h, _, _ => by simp at h
  | _ :: _, [], _, _, _, _, h, _ => by simp at h
  | p :: P, w :: vs, 0, m, nd, h1, h2, hk => by
    simp at h1 h2; subst h1; subst h2
    show bindL kindOf ((p, w) :: P.zip vs) m p = _
    unfold bindL
    rw [bindL_out fun v hv => (List.nodup_cons.mp nd).1 (List.of_mem_zip hv).1, if_pos hk]
    simp
  | p :: P, w :: vs, i + 1, m, nd, h1, h2, hk => by
    show bindL kindOf ((p, w) :: P.zip vs) m x = _
    unfold bindL
    exact bindL_get (i := i) (List.nodup_cons.mp nd).2 (by simpa using h1) (by simpa using h2) hk
theorem bindC_get {kindOf : Str → Option NameKind} {x : Str} {v : Value} : ∀ {P : List Str} {vs : List Value} {i : Nat} {m : Str → Option Value}, P.Nodup → P[i]? = some x → vs[i]? = some v → kindOf x ≠ some .local →
    bindC kindOf (P.zip vs) m x = some v
  | [], _, _, _, _, h, _, _ => by simp at h
  | _ :: _, [], _, _, _, _, h, _ => by simp at h
  | p :: P, w :: vs, 0, m, nd, h1, h2, hk => by
    simp at h1 h2; subst h1; subst h2
    show bindC kindOf ((p, w) :: P.zip vs) m p = _
    unfold bindC
    rw [bindC_out fun v hv => (List.nodup_cons.mp nd).1 (List.of_mem_zip hv).1, if_neg hk]
    simp
  | p :: P, w :: vs, i + 1, m, nd, h1, h2, hk => by
    show bindC kindOf ((p, w) :: P.zip vs) m x = _
    unfold bindC
    exact bindC_get (i := i) (List.nodup_cons.mp nd).2 (by simpa using h1) (by simpa using h2) hk
def start (N : List Str) (vs : List V) : St := vs.map some ++ List.replicate (N.length - vs.length) none
def cxOf (CX : CXT) (P : Program) (w : World) (K : PySem.W.Frag) (mg : Str → Option Value) (base : Heap) (N : List Str) (qual : Str) (scope : Scope) (f : Addr) (cd : Value) (A : Around) (outer : List Env) (s : Shared) (H : Hp) (E : XK) : Cx where
  prog := P
  w := w
  K := K
  mg := mg
  base := base
  A := A.deeper (envOfC qual scope s.heap.objs.size f cd)
  N := N
  s₀ := s
  H₀ := H
  env := envOfC qual scope s.heap.objs.size f cd
  outer := outer
  stack := envOfC qual scope s.heap.objs.size f cd :: outer
  ex := []
  calm := true
  fn := fun _ => true
  pn := []
  xe := fun e s' => wpAny (model P w) (A.deeper (envOfC qual scope s.heap.objs.size f cd)) (leaving (envOfC qual scope s.heap.objs.size f cd) e) (fun _ s'' => CX outer H s E e s'') (fun e' s'' => CX outer H s E e' s'') s'
theorem cell_has {sc : Scope} {n : Nat} {x : Str} (h : sc.names.lookup x = some .cell) : ∃ c, (cellsFrom n sc.names []).lookup x = some c := by
  have q := PySem.W.cellsFrom_some sc.names n [] (.inl h)
  exact Option.isSome_iff_exists.mp q
theorem inv_start {CX : CXT} {P : Program} {w : World} {K : PySem.W.Frag} {mg : Str → Option Value} {base : Heap} {N ps : List Str} {qual : Str} {scope : Scope} {f : Addr} {cd : Value} {A : Around} {outer : List Env} {s s1 : Shared} {H : Hp} {E : XK} {us : List Value} {vs : List V}
    (S : FnScope N ps scope) (hd : A.handled = none) (e0 : Env0 P w K mg base A outer s H) (hl : vs.length = ps.length) (r : Vals vs us)
    (x : InCallC s s.heap.objs.size (bindL (envOfC qual scope s.heap.objs.size f cd).kindOf (ps.zip us) fun _ => none) (cellsFrom (s.heap.objs.size + 1) scope.names []) (bindC (envOfC qual scope s.heap.objs.size f cd).kindOf (ps.zip us) fun _ => none) s1) :
    Inv (cxOf CX P w K mg base N qual scope f cd A outer s H E) [] (start N vs) H s1 := by
  have hpl : ps.length ≤ N.length := by have := congrArg List.length S.pre; rw [List.length_take] at this; omega
  obtain ⟨h1, tk, rfl, hk⟩ := x.done
  have noA : ∀ b : Addr, b ∉ (cxOf CX P w K mg base N qual scope f cd A outer s H E).ex := fun b z => absurd (show b ∈ ([] : List Addr) from z) (by simp)
  refine ⟨⟨e0.mod, S.kind, rfl, rfl, Nat.le_refl _, fun y z c h1 h2 => ?_, fun y hy => ?_, fun y c _ h => ?_, fun _ => hd, Around.frames_deeper e0.frames, .inr ⟨rfl, rfl⟩, fun b z => absurd z (noA b), e0.bs, e0.bsz, fun b _ _ => noA b, fun b z => absurd z (noA b), e0.funs, e0.frf⟩,
    rfl, e0.bare, Un.kept hk, ⟨_, x.toInCall.ns, fun i y v h1 h2 h3 => ?_⟩, fun y c h => ⟨_, x.cell y c h⟩, e0.hok.fresh (Nat.le_refl _), fun y c h => ?_, fun p hp => absurd (show p ∈ ([] : List (Addr × Obj)) from hp) (by simp), e0.hok.kept hk, ?_⟩
  · exact name_of_addr x.apart (PySem.mem_of_lookup h1) (PySem.mem_of_lookup h2)
  · have hy : scope.names.lookup y = some .cell ∨ scope.names.lookup y = some .free := hy
    rcases hy with hy | hy
    · exact cell_has hy
    · exact absurd rfl (S.nofree _ (PySem.mem_of_lookup hy))
  · exact Nat.le_of_lt (x.above y c (PySem.mem_of_lookup h))
  · have hi : i < vs.length := by
      unfold start at h2
      by_cases hi : i < vs.length
      · exact hi
      · rw [List.getElem?_append_right (by simpa using hi)] at h2
        rw [List.getElem?_replicate] at h2
        split at h2 <;> cases h2
    have ha : vs[i]? = some v := by
      unfold start at h2
      rw [List.getElem?_append_left (by simpa using hi), List.getElem?_map] at h2
      cases e : vs[i]? with
      | none => rw [e] at h2; cases h2
      | some a => rw [e] at h2; cases h2; rfl
    obtain ⟨u, hu, rv⟩ := r.get ha
    have hp : ps[i]? = some y := by
      rw [← S.pre, List.getElem?_take_of_lt (by omega)]; exact h1
    have ndP : ps.Nodup := by rw [← S.pre]; exact S.nd.sublist (List.take_sublist _ _)
    refine ⟨u, rv, ?_⟩
    rcases S.par y (List.mem_of_getElem? hp) with k | k
    · exact .inl ⟨k, bindL_get ndP hp hu k⟩
    · obtain ⟨c, e⟩ := cell_has (n := s.heap.objs.size + 1) k
      refine .inr ⟨.inl k, c, e, ?_⟩
      have q := x.cell y c e
      rw [bindC_get ndP hp hu (by show scope.names.lookup y ≠ _; rw [k]; decide)] at q
      exact q
  · exact e0.hok.fresh (Nat.le_of_lt (x.above y c (PySem.mem_of_lookup h)))
  · unfold start
    show _ = N.length
    rw [List.length_append, List.length_map, List.length_replicate]
    omega
theorem fn_of {CX : CXT} {P : Program} {w : World} {K : PySem.W.Frag} {mg : Str → Option Value} {base : Heap} {k : Nat} {f : Addr} {name qual : Str} {params : Arguments} {body : List Stmt} {scope : Scope} {dV kV doc pm cdv ct oc : Value} {an od : Option Addr}
    {osl : Array (Option Value)} {N ps : List Str} {sp : Sp} (lk : K.lookup f = some ⟨oc, od, .func (PySem.W.fnOf name qual params body scope dV kV doc pm an cdv ct), osl⟩) (hcd : PySem.W.codeIn K cdv qual = true) (S : FnScope N ps scope)
    (len : ∀ vs H Q E, sp vs H Q E → vs.length = ps.length)
    (hbody : ∀ (A : Around) (outer : List Env) (s : Shared) (H : Hp) (vs : List V) (Q : VK) (E : XK), Room k (A.deeper (envOfC qual scope s.heap.objs.size f cdv)) → sp vs H Q E →
      ∃ t, PSs (cxOf CX P w K mg base N qual scope f cdv A outer s H E) body t ∧ t { nx := fun _ H' => Q .non H', rt := Q } (start N vs) H) :
    FnOk P w K mg base CX (k + 1) f (PySem.W.fnOf name qual params body scope dV kV doc pm an cdv ct) ps sp := by
  refine ⟨len, fun A outer s H args us vs Q E hr e0 hb r hsp => ?_⟩
  have hl := len _ _ _ _ hsp
  have KX : K.In s.heap := e0.mod.kin.keeps fun b o e => (e0.bs b o e).1
  have lim : s.heap.NoLimit := e0.mod.nolimit.keeps fun b o e => (e0.bs b o e).1
  have hkind : ∀ y ∈ ps.zip us, scope.names.lookup y.1 = some .local ∨ (scope.names.lookup y.1 = some .cell ∧ ((cellsFrom (s.heap.objs.size + 1) scope.names []).lookup y.1).isSome = true) := fun ⟨n, v⟩ hy => by
    rcases S.par n (List.of_mem_zip hy).1 with q | q
    · exact .inl q
    · exact .inr ⟨q, PySem.W.cellsFrom_some _ _ _ (.inl q)⟩
  refine codeAny_call_function hr.depth (KX _ _ lk) rfl S.co S.gen rfl (PySem.W.codeRec_of KX hcd) (hb _ _ _ _ ?_)
  refine wpAny_newFunctionEnv_cells S.kind hkind fun env he s1 x => ?_
  subst he
  refine ⟨lim.keeps x.toInCall.keep, codeAny_func ?_⟩
  obtain ⟨t, ht, hq⟩ := hbody A outer s H vs Q E (hr.deeper _) hsp
  have I : Inv (cxOf CX P w K mg base N qual scope f cdv A outer s H E) [] (start N vs) H s1 := inv_start S hr.hd e0 hl r x
  refine wpAny_mono (ht [] s1 (start N vs) H _ I hq) (fun fl s' hs => ?_) fun e s' hs => hs
  have fin : ∀ {σ' : St} {H' : Hp} {v : V} {u : Value}, Inv (cxOf CX P w K mg base N qual scope f cdv A outer s H E) [] σ' H' s' → RelV v u → Q v H' → CE outer P w H s Q u s' :=
    fun {σ' H' v u} J rv q => ⟨v, H', J.os, J.bare, J.base, J.hok, rv, q⟩
  cases fl with
  | ret u =>
    obtain ⟨v, σ', H', J, rv, q⟩ := hs
    exact fin J rv q
  | next =>
    obtain ⟨σ', H', J, q⟩ := hs
    exact fin (v := V.non) (u := Value.none) J rfl q
  | brk =>
    obtain ⟨_, _, _, q⟩ := hs
    exact False.elim q
  | cont =>
    obtain ⟨_, _, _, q⟩ := hs
    exact False.elim q
end L2
namespace L2
open PySem PySem.Spec PyProof.Rows
section
variable {X : Cx} {x : Str} {p pos : Pos} {e : Expr} {es : List Expr} {t : TA} {id T : String} {r : List V → Hp → VK → Prop}
def tCB (r : List V → Hp → VK → Prop) (t : TA) : TE := fun σ H Q => t σ H fun vs H1 => r vs H1 Q
theorem pe_callB (hc : CallR X (.builtin id) r) (hg : Gl X x) (hm : X.mg x = none) (hv : bootBuiltins x = some (.builtin id)) (ha : PA X (e :: es) t) (hn : x ≠ "__name__" := by decide) (hdb : (x == ("__debug__" : Str)) = false := by decide)
    (he : starEach (e :: es) X.env = (false, eval e X.env) :: starEach es X.env := by rfl) (hpl : (backTo pos (starEach es X.env)).any (·.1) = false := by rfl) : PE X (.Call (.Name x p) (e :: es) [] pos) (tCB r t) := by
  intro pins s σ H Q I h
  refine wpAny_Call_Name_kw (ld_blt I hg hm hv ?_ hn hdb)
  exact PyProof.Rows.callWith_builtin1 (thn (ha pos pins s σ H _ I h) fun us s1 ⟨vs, H1, I1, r1, q1⟩ => hc pins s1 σ H1 vs us Q I1 r1 q1) he hpl
theorem pe_callTy (hc : CallR X (.type T) r) (hg : Gl X x) (hm : X.mg x = none) (hv : bootBuiltins x = some (.type T)) (ha : PA X (e :: es) t) (hn : x ≠ "__name__" := by decide) (hdb : (x == ("__debug__" : Str)) = false := by decide)
    (he : starEach (e :: es) X.env = (false, eval e X.env) :: starEach es X.env := by rfl) (hpl : (backTo pos (starEach es X.env)).any (·.1) = false := by rfl) : PE X (.Call (.Name x p) (e :: es) [] pos) (tCB r t) := by
  intro pins s σ H Q I h
  refine wpAny_Call_Name_kw (ld_blt I hg hm hv ?_ hn hdb)
  exact PyProof.Rows.callWith_type1 (thn (ha pos pins s σ H _ I h) fun us s1 ⟨vs, H1, I1, r1, q1⟩ => hc pins s1 σ H1 vs us Q I1 r1 q1) he hpl
end
end L2
namespace HT
open PySem PyProof.Rows
section
open PySem.SeqAt
open PySem.AutoSeq1 (wpAny_loadPart')
open PySem.MeetsSeq PySem.MeetsSeq2 PySem.MeetsSeq3
end
section
variable {prog : Program} {w : World} {A : Around} {E : Value → Shared → Prop} {s : Shared}
def sIx (n d : Nat) : Option Int → Nat
  | none => d
  | some v => if v < 0 then (v + (n : Int)).toNat else min v.toNat n
end
end HT
namespace L2
open PySem PySem.Spec PyProof.Rows
abbrev TO := St → Hp → (Option Int → Hp → Prop) → Prop
def PO (X : Cx) (e : Option Expr) (t : TO) : Prop :=
  ∀ (pins : List (Addr × Obj)) (s : Shared) (σ : St) (H : Hp) (Q : Option Int → Hp → Prop), Inv X pins σ H s → t σ H Q →
    wpAny (model X.prog X.w) X.A (evalPart e X.env) (fun u s' => ∃ o H', Inv X pins σ H' s' ∧ IsPart u o ∧ Q o H') X.xe s
def tNoPart : TO := fun _ H Q => Q none H
def tPart (t : TE) : TO := fun σ H Q => t σ H fun x H1 => ∃ i, x = .int i ∧ Q (some i) H1
section
variable {X : Cx} {e : Expr} {te : TE} {lo hi : Option Expr} {tl th : TO} {pos p2 : Pos}
theorem po_none : PO X none tNoPart := by
  intro pins s σ H Q I h
  rw [evalPart_none]
  exact wpAny_pure ⟨none, H, I, .none, h⟩
theorem po_some (h : PE X e te) : PO X (some e) (tPart te) := by
  intro pins s σ H Q I hw
  rw [evalPart_some]
  refine thn (h pins s σ H _ I hw) fun u s1 ⟨x, H1, I1, r1, q1⟩ => ?_
  obtain ⟨i, rfl, q⟩ := q1
  obtain ⟨t, rfl⟩ := r1
  exact ⟨some i, H1, I1, .int i t, q⟩
def SlR (X : Cx) (r : V → Option Int → Option Int → Hp → VK → Prop) : Prop :=
  ∀ (pins : List (Addr × Obj)) (s : Shared) (σ : St) (H : Hp) (x : V) (v vl vu : Value) (lo hi : Option Int) (sl : Addr) (Q : VK), Inv X pins σ H s → RelV x v → s.heap.IsSliceOf sl vl vu .none → IsPart vl lo → IsPart vu hi → r x lo hi H Q →
    ∃ T id, typeLookup (.type T) "__getitem__" = pure (some (.builtin id)) ∧ s.TypeIs v T ∧ wpAny (model X.prog X.w) X.A (getItem v (.ref sl)) (EP X pins σ Q) X.xe s
theorem SlR.or {r r' : V → Option Int → Option Int → Hp → VK → Prop} (h : SlR X r) (h' : SlR X r') : SlR X (fun x lo hi H Q => r x lo hi H Q ∨ r' x lo hi H Q) := by
  intro pins s σ H x v vl vu lo hi sl Q I rx hs pl pu q
  rcases q with q | q
  · exact h pins s σ H x v vl vu lo hi sl Q I rx hs pl pu q
  · exact h' pins s σ H x v vl vu lo hi sl Q I rx hs pl pu q
def tSl (r : V → Option Int → Option Int → Hp → VK → Prop) (te : TE) (tl th : TO) : TE := fun σ H Q => te σ H fun x H1 => tl σ H1 fun l H2 => th σ H2 fun u H3 => r x l u H3 Q
theorem pe_slice {r : V → Option Int → Option Int → Hp → VK → Prop} (hr : SlR X r) (he : PE X e te) (hl : PO X lo tl) (hu : PO X hi th) : PE X (.Subscript e (.Slice lo hi none p2) pos) (tSl r te tl th) := by
  intro pins s σ H Q I h
  refine Subscript_ (thn (he pins s σ H _ I h) fun v s1 ⟨x, H1, I1, r1, q1⟩ => ?_)
  refine wpAny_Slice (thn (hl pins s1 σ H1 _ I1 q1) fun vl s2 ⟨l, H2, I2, pl, q2⟩ => thn (hu pins s2 σ H2 _ I2 q2) fun vu s3 ⟨u, H3, I3, pu, q3⟩ => ?_)
  rw [evalPart_none]
  refine wpAny_pure ?_
  have I4 : Inv X pins σ H3 { s3 with heap := s3.heap.push { cls := .type "slice", data := .fields #[vl, vu, .none] } } := I3.kept (t' := s3.toks) fun b ob q => Heap.get?_push_of_some _ q
  obtain ⟨T, id, hT, ht, hg⟩ := hr pins { s3 with heap := s3.heap.push { cls := .type "slice", data := .fields #[vl, vu, .none] } } σ H3 x v vl vu l u s3.heap.objs.size Q I4 r1 (Heap.IsSliceOf.new ..) pl pu q3
  show wpAny (model X.prog X.w) X.A (subscriptTail e (.Slice lo hi none p2) v (.ref s3.heap.objs.size)) (EP X pins σ Q) X.xe { s3 with heap := s3.heap.push { cls := .type "slice", data := .fields #[vl, vu, .none] } }
  exact tail_any (ops := [.ref s3.heap.objs.size, v]) ht hT hg (by with_unfolding_all rfl)
def cutV (xs : List V) (lo hi : Option Int) : List V := (xs.drop (HT.sIx xs.length 0 lo)).take (HT.sIx xs.length xs.length hi - HT.sIx xs.length 0 lo)
theorem cutV_length (xs : List V) (lo hi : Option Int) : (cutV xs lo hi).length ≤ xs.length := by
  unfold cutV
  rw [List.length_take, List.length_drop]
  omega
end
end L2
namespace L2
open PySem PySem.Spec PyProof.Rows
def ixN (n : Nat) (i : Int) : Option Nat := if 0 ≤ i then (if i < n then some i.toNat else none) else if -(n : Int) ≤ i then some (i + n).toNat else none
def atI {α : Type} (xs : List α) (i : Int) : Option α := (ixN xs.length i).bind fun j => xs[j]?
theorem ixN_seq {n : Nat} {i : Int} {j : Nat} (h : ixN n i = some j) : seqIndex? i n = some j ∧ j < n ∧ -(n : Int) ≤ i ∧ i < n := by
  unfold ixN at h
  by_cases h0 : 0 ≤ i
  · rw [if_pos h0] at h
    by_cases h1 : i < n
    · rw [if_pos h1] at h
      have e : i.toNat = j := Option.some.inj h
      exact ⟨by rw [seqIndex_of h0 h1, e], by omega, by omega, h1⟩
    · rw [if_neg h1] at h; cases h
  · rw [if_neg h0] at h
    by_cases h1 : -(n : Int) ≤ i
    · rw [if_pos h1] at h
      have e : (i + n).toNat = j := Option.some.inj h
      exact ⟨by rw [seqIndex_neg (by omega) h1, e], by omega, h1, by omega⟩
    · rw [if_neg h1] at h; cases h
theorem atI_get {α : Type} {xs : List α} {i : Int} {v : α} (h : atI xs i = some v) : ∃ j, seqIndex? i xs.length = some j ∧ xs[j]? = some v ∧ j < xs.length ∧ -(xs.length : Int) ≤ i ∧ i < xs.length := by
  unfold atI at h
  cases e : ixN xs.length i with
  | none => rw [e] at h; cases h
  | some j =>
    rw [e] at h
    obtain ⟨h1, h2, h3, h4⟩ := ixN_seq e
    exact ⟨j, h1, h, h2, h3, h4⟩
theorem atI_nat {α : Type} {xs : List α} {j : Nat} {v : α} (h : xs[j]? = some v) : atI xs (j : Int) = some v := by
  have hj : j < xs.length := (List.getElem?_eq_some_iff.mp h).1
  have e : ixN xs.length (j : Int) = some j := by
    unfold ixN
    rw [if_pos (by omega), if_pos (by omega)]; simp
  unfold atI; rw [e]; exact h
def PlainIx (b : Expr) : Prop := ∀ o i, subscripted b false o i = operate [o, i] (getItem o i)
def IxR (X : Cx) (r : R2) : Prop :=
  ∀ (value slice : Expr) (pins : List (Addr × Obj)) (s : Shared) (σ : St) (H : Hp) (x y : V) (v u : Value) (Q : VK), Inv X pins σ H s → RelV x v → RelV y u → r x y H Q →
    subscripted slice false v u = operate [v, u] (getItem v u) → wpAny (model X.prog X.w) X.A (subscriptTail value slice v u) (EP X pins σ Q) X.xe s
def MtR (X : Cx) (id : String) (r : V → List V → Hp → VK → Prop) : Prop :=
  ∀ (pins : List (Addr × Obj)) (s : Shared) (σ : St) (H : Hp) (x : V) (xs : List V) (v : Value) (us : List Value) (Q : VK), Inv X pins σ H s → RelV x v → Vals xs us → r x xs H Q →
    wpAny (model X.prog X.w) X.A (call (.builtin id) (v :: us)) (EP X pins σ Q) X.xe s
section
variable {X : Cx} {a b : Expr} {ta tb : TE} {pos : Pos}
theorem IxR.or {r r' : R2} (h : IxR X r) (h' : IxR X r') : IxR X (fun x y H Q => r x y H Q ∨ r' x y H Q) := by
  intro value slice pins s σ H x y v u Q I rx ry q hs
  rcases q with q | q
  · exact h value slice pins s σ H x y v u Q I rx ry q hs
  · exact h' value slice pins s σ H x y v u Q I rx ry q hs
theorem MtR.or {id : String} {r r' : V → List V → Hp → VK → Prop} (h : MtR X id r) (h' : MtR X id r') : MtR X id (fun x xs H Q => r x xs H Q ∨ r' x xs H Q) := by
  intro pins s σ H x xs v us Q I rx rs q
  rcases q with q | q
  · exact h pins s σ H x xs v us Q I rx rs q
  · exact h' pins s σ H x xs v us Q I rx rs q
theorem pe_ix {r : R2} (hr : IxR X r) (ha : PE X a ta) (hb : PE X b tb) (hs : PlainIx b) : PE X (.Subscript a b pos) (tOp r ta tb) := by
  intro pins s σ H Q I h
  exact Subscript_ (binT ha hb I h fun v u s2 x y H2 I2 rx ry q => hr a b pins s2 σ H2 x y v u Q I2 rx ry q (hs _ _))
def rIxL (K : PySem.W.Frag) : R2 := fun x y H Q => ∃ p xs i v, x = .ref p ∧ y = .int i ∧ SqL K H p xs ∧ atI xs i = some v ∧ Q v H
def rIxT (K : PySem.W.Frag) : R2 := fun x y H Q => ∃ p xs i v, x = .ref p ∧ y = .int i ∧ SqT K H p xs ∧ atI xs i = some v ∧ Q v H
theorem ix_list : IxR X (rIxL X.K) := by
  intro value slice pins s σ H x y v u Q I rx ry h hs
  obtain ⟨p, xs, i, z, rfl, rfl, hq, he, q⟩ := h
  cases rx
  obtain ⟨t, rfl⟩ := ry
  obtain ⟨its, r, pl, hz⟩ := I.list hq
  obtain ⟨j, h1, h2, h3, h4, h5⟩ := atI_get he
  obtain ⟨w, ew, rw'⟩ := r.get h2
  have hl := r.length
  have hn := line63
  have fin : EP X pins σ Q w s := ⟨z, H, I, rw', q⟩
  by_cases h0 : 0 ≤ i
  · have hj : i.toNat = j := by
      rw [seqIndex_of h0 h5] at h1
      exact Option.some.inj h1
    exact item_listR pl.isList h0 (by omega) (by rw [hj]; simpa using ew) fin hs
  · have hj : (i + (its.toArray.size : Int)).toNat = j := by
      rw [seqIndex_neg (by omega) h4] at h1
      rw [List.size_toArray, ← hl]
      exact Option.some.inj h1
    exact subscriptTail_builtinR (x := w) pl.isList.typeIs slot_list_getitem.lookup
      (wpAny_getItem_list_neg (Q := fun r s' => r = w ∧ EP X pins σ Q r s') pl.isList (by omega) (by rw [List.size_toArray] <;> omega) (by omega) (by rw [hj]; simpa using ew) ⟨rfl, fin⟩) hs
theorem ix_tup : IxR X (rIxT X.K) := by
  intro value slice pins s σ H x y v u Q I rx ry h hs
  obtain ⟨p, xs, i, z, rfl, rfl, hq, he, q⟩ := h
  cases rx
  obtain ⟨t, rfl⟩ := ry
  obtain ⟨its, r, pl, hz⟩ := I.tuple hq
  obtain ⟨j, h1, h2, h3, h4, h5⟩ := atI_get he
  obtain ⟨w, ew, rw'⟩ := r.get h2
  have hl := r.length
  have hn := line63
  have fin : EP X pins σ Q w s := ⟨z, H, I, rw', q⟩
  exact subscriptTail_builtinR (x := w) pl.typeIs slot_tuple_getitem.lookup
    (getItem_tuple (j := j) (Q := fun r s' => r = w ∧ EP X pins σ Q r s') pl (by omega) (by omega) (by rw [List.size_toArray, ← hl]; exact h1) (by simpa using ew) ⟨rfl, fin⟩) hs
theorem mapSeq_set (its : List Value) (n j : Nat) (u : Value) : Obj.mapSeq (·.setIfInBounds j u) { cls := .type "list", data := .seq its.toArray n } = { cls := .type "list", data := .seq (its.set j u).toArray n } := by
  simp [Obj.mapSeq]
theorem Inv.lst {pins : List (Addr × Obj)} {σ : St} {H : Hp} {s : Shared} {p : Addr} {xs : List V} (I : Inv X pins σ H s) (h : H p = some (.lst xs)) :
    ∃ (its : List Value) (n : Nat), Vals xs its ∧ s.heap.get? p = some { cls := .type "list", data := .seq its.toArray n } ∧ xs.length ≤ sizeLine := by
  obtain ⟨z, its, n, r, e⟩ := I.hok p _ h
  exact ⟨its, n, r, e, z⟩
theorem Inv.lstUpd {pins : List (Addr × Obj)} {σ : St} {H : Hp} {s : Shared} {p : Addr} {xs ys : List V} {its its' : List Value} {n n' : Nat} {f : Obj → Obj} (I : Inv X pins σ H s) (h : H p = some (.lst xs))
    (ho : s.heap.get? p = some { cls := .type "list", data := .seq its.toArray n }) (hf : f { cls := .type "list", data := .seq its.toArray n } = { cls := .type "list", data := .seq its'.toArray n' }) (r : Vals ys its') (hz : ys.length ≤ sizeLine) (t : Nat) :
    Inv X pins σ (upd H p (.lst ys)) { s with heap := s.heap.update p f, toks := t } := by
  have e : (s.heap.update p f).get? p = some { cls := .type "list", data := .seq its'.toArray n' } := by
    rw [Heap.get?_update_self f ho (by rw [hf] <;> rfl), hf]
  refine I.write (x := p) (e := p) (by rw [h]; trivial) (.inl rfl) (fun b u hb q => (Heap.get?_update_other _ _ (Ne.symm hb)).trans q) ⟨_, e⟩ ?_
  exact ⟨hz, its', n', r, e⟩
def rSetL : V → V → V → Hp → (Hp → Prop) → Prop := fun o i v H Q => ∃ p xs k j, o = .ref p ∧ i = .int k ∧ H p = some (.lst xs) ∧ ixN xs.length k = some j ∧ Q (upd H p (.lst (xs.set j v)))
theorem set_list : PSet X rSetL := by
  intro pins s σ H o i v ov iv u Q I ro ri rv h
  obtain ⟨p, xs, k, j, rfl, rfl, hp, hj, q⟩ := h
  cases ro
  obtain ⟨t, rfl⟩ := ri
  obtain ⟨its, n, r, ho, hz⟩ := I.lst hp
  obtain ⟨h1, h2, h3, h4⟩ := ixN_seq hj
  have hl := r.length
  have hn := line63
  have I' : Inv X pins σ (upd H p (.lst (xs.set j v))) { s with heap := s.heap.update p (Obj.mapSeq (·.setIfInBounds j u)) } :=
    I.lstUpd hp ho (mapSeq_set its n j u) (r.set rv j) (by rw [List.length_set]; exact hz) s.toks
  by_cases h0 : 0 ≤ k
  · have hk : k.toNat = j := by
      rw [seqIndex_of h0 h4] at h1
      exact Option.some.inj h1
    exact PySem.W.ki_setAt ho h0 (by omega) (by rw [List.size_toArray, ← hl]; exact h4) (by rw [hk]; exact ⟨_, I', q⟩)
  · have hk : (k + (its.toArray.size : Int)).toNat = j := by
      rw [seqIndex_neg (by omega) h3] at h1
      rw [List.size_toArray, ← hl]
      exact Option.some.inj h1
    exact PySem.W.ki_setBack ho (by omega) (by rw [List.size_toArray, ← hl]; exact h3) (by omega) (by rw [hk]; exact ⟨_, I', q⟩)
theorem slice_bounds (lo hi : Option Int) (n : Nat) : (sliceBounds lo hi none n).1 = ((HT.sIx n 0 lo : Nat) : Int) ∧ (sliceBounds lo hi none n).2.1 = ((HT.sIx n n hi : Nat) : Int) ∧ (sliceBounds lo hi none n).2.2 = 1 := by
  refine ⟨?_, ?_, rfl⟩
  · cases lo with
    | none => simp [sliceBounds, HT.sIx]
    | some i =>
      simp only [sliceBounds, HT.sIx, Option.getD_none, show (1 : Int) > 0 by decide, if_true]
      by_cases h : i < 0
      · simp only [h, if_true] <;> omega
      · simp only [h, if_false] <;> omega
  · cases hi with
    | none => simp [sliceBounds, HT.sIx]
    | some i =>
      simp only [sliceBounds, HT.sIx, Option.getD_none, show (1 : Int) > 0 by decide, if_true]
      by_cases h : i < 0
      · simp only [h, if_true] <;> omega
      · simp only [h, if_false] <;> omega
theorem slicePick_cut (its : List Value) (lo hi : Option Int) : slicePick its.toArray lo hi none = ((its.drop (HT.sIx its.length 0 lo)).take (HT.sIx its.length its.length hi - HT.sIx its.length 0 lo)).toArray := by
  obtain ⟨h1, h2, h3⟩ := slice_bounds lo hi its.toArray.size
  unfold slicePick
  rw [h1, h2, h3]
  simp only [sliceRange_one, pick_run, List.size_toArray] <;> rfl
def rSlL (K : PySem.W.Frag) : V → Option Int → Option Int → Hp → VK → Prop := fun x lo hi H Q => ∃ a xs, x = .ref a ∧ SqL K H a xs ∧ ∀ p, H p = none → Q (.ref p) (upd H p (.lst (cutV xs lo hi)))
theorem sl_list : SlR X (rSlL X.K) := by
  intro pins s σ H x v vl vu lo hi sl Q I rx hs pl pu h
  obtain ⟨a, xs, rfl, hx, q⟩ := h
  cases rx
  obtain ⟨its, r, ht, hz⟩ := I.list hx
  have hlen := r.length
  refine ⟨"list", _, slot_list_getitem.lookup, ht.isList.typeIs, ?_⟩
  refine wpAny_getItem_list_slice ht.isList hs pl pu .none (by simp) ?_ (by rw [List.size_toArray] <;> omega)
  rw [slicePick_cut, ← hlen]
  refine ⟨.ref s.heap.objs.size, _, I.laid (t' := s.toks) (o := .lst (cutV xs lo hi)) (fun b ob q => Heap.get?_push_of_some _ q) (Nat.le_refl _) ?_, rfl, q _ (I.hok.fresh (Nat.le_refl _))⟩
  exact ⟨Nat.le_trans (cutV_length xs lo hi) hz, _, 0, (r.drop (HT.sIx xs.length 0 lo)).take (HT.sIx xs.length xs.length hi - HT.sIx xs.length 0 lo), Heap.get?_push_size _ rfl⟩
def flatV : V → Bool
  | .non => true
  | .bl _ => true
  | .int _ => true
  | .str _ => true
  | _ => false
def eqV : V → V → Bool
  | .non, .non => true
  | .bl a, .bl b => a == b
  | .bl a, .int b => (if a then 1 else 0) == b
  | .int a, .bl b => a == (if b then 1 else 0)
  | .int a, .int b => a == b
  | .str a, .str b => a == b
  | _, _ => false
theorem eqAt_V {A : Around} {s : Shared} {y x : V} {u v : Value} (ry : RelV y u) (rx : RelV x v) (fy : flatV y = true) (fx : flatV x = true) : SeqAt.EqAt A s u v (eqV y x) := by
  cases y with
  | non =>
    cases ry
    cases x with
    | non => cases rx; exact SeqAt.EqAt.same _
    | bl b => cases rx; exact SeqAt.EqAt.none_bool b
    | int b => obtain ⟨t, rfl⟩ := rx; exact SeqAt.EqAt.none_int b t
    | str b => obtain ⟨t, rfl⟩ := rx; exact SeqAt.EqAt.none_str b t
    | _ => exact absurd (show false = true from fx) Bool.false_ne_true
  | bl a =>
    cases ry
    cases x with
    | non => cases rx; exact SeqAt.EqAt.bool_none a
    | bl b => cases rx; exact SeqAt.EqAt.bool_bool a b
    | int b => obtain ⟨t, rfl⟩ := rx; exact SeqAt.EqAt.bool_int a b t
    | str b => obtain ⟨t, rfl⟩ := rx; exact SeqAt.EqAt.bool_str a b t
    | _ => exact absurd (show false = true from fx) Bool.false_ne_true
  | int a =>
    obtain ⟨t', rfl⟩ := ry
    cases x with
    | non => cases rx; exact SeqAt.EqAt.int_none a t'
    | bl b => cases rx; exact SeqAt.EqAt.int_bool a t' b
    | int b => obtain ⟨t, rfl⟩ := rx; exact SeqAt.EqAt.int_int a t' b t
    | str b => obtain ⟨t, rfl⟩ := rx; exact SeqAt.EqAt.int_str a t' b t
    | _ => exact absurd (show false = true from fx) Bool.false_ne_true
  | str a =>
    obtain ⟨t', rfl⟩ := ry
    cases x with
    | non => cases rx; exact SeqAt.EqAt.str_none a t'
    | bl b => cases rx; exact SeqAt.EqAt.str_bool a t' b
    | int b => obtain ⟨t, rfl⟩ := rx; exact SeqAt.EqAt.str_int a t' b t
    | str b => obtain ⟨t, rfl⟩ := rx; exact SeqAt.EqAt.str_str a t' b t
    | _ => exact absurd (show false = true from fx) Bool.false_ne_true
  | _ => exact absurd (show false = true from fy) Bool.false_ne_true
def eqU (x : V) (u : Value) : Bool := match u with
  | .none => eqV .non x
  | .bool b => eqV (.bl b) x
  | .int i _ => eqV (.int i) x
  | .str z _ => eqV (.str z) x
  | _ => false
theorem eqU_of {x y : V} {u : Value} (r : RelV y u) (f : flatV y = true) : eqU x u = eqV y x := by
  cases y with
  | non => cases r; rfl
  | bl b => cases r; rfl
  | int i => obtain ⟨t, rfl⟩ := r; rfl
  | str z => obtain ⟨t, rfl⟩ := r; rfl
  | _ => exact absurd (show false = true from f) Bool.false_ne_true
theorem any_eqU {x : V} : ∀ {xs : List V} {us : List Value}, Vals xs us → xs.all flatV = true → us.any (eqU x) = xs.any fun y => eqV y x
  | _, _, .nil, _ => rfl
  | y :: xs, u :: us, .cons r t, f => by
    rw [List.all_cons, Bool.and_eq_true] at f
    rw [List.any_cons, List.any_cons, eqU_of r f.1, any_eqU t f.2]
theorem mem_eqAt {A : Around} {s : Shared} {x : V} {v : Value} (rx : RelV x v) (fx : flatV x = true) : ∀ {xs : List V} {us : List Value}, Vals xs us → xs.all flatV = true → ∀ u ∈ us, SeqAt.EqAt A s u v (eqU x u)
  | _, _, .nil, _ => fun u hu => by cases hu
  | y :: xs, u :: us, .cons r t, f => fun u' hu => by
    rw [List.all_cons, Bool.and_eq_true] at f
    rcases List.mem_cons.mp hu with rfl | hu
    · rw [eqU_of r f.1]; exact eqAt_V r rx f.1 fx
    · exact mem_eqAt rx fx t f.2 u' hu
def inV (x : V) (xs : List V) : Bool := xs.any fun y => eqV y x
def rIn (K : PySem.W.Frag) (neg : Bool) : R2 := fun x y H Q => ∃ p xs, y = .ref p ∧ (SqL K H p xs ∨ SqT K H p xs) ∧ flatV x = true ∧ xs.all flatV = true ∧ Q (.bl (if neg then !inV x xs else inV x xs)) H
theorem op_in_seq : OpR X (compareOp .In) (rIn X.K false) := by
  intro pins s σ H x y v u Q I rx ry h
  obtain ⟨p, xs, rfl, hq, fx, fs, q⟩ := h
  cases ry
  rcases hq with hq | hq
  · obtain ⟨its, r, pl, hz⟩ := I.list hq
    refine SeqAt.in_listAt (eqU x) pl.isList (fun w hw => mem_eqAt rx fx r fs w (by simpa using hw)) ⟨.bl _, H, I, rfl, ?_⟩
    rw [show its.toArray.any (eqU x) = its.any (eqU x) by simp, any_eqU r fs]
    exact q
  · obtain ⟨its, r, pl, hz⟩ := I.tuple hq
    refine SeqAt.in_tupleAt (eqU x) pl (fun w hw => mem_eqAt rx fx r fs w (by simpa using hw)) ⟨.bl _, H, I, rfl, ?_⟩
    rw [show its.toArray.any (eqU x) = its.any (eqU x) by simp, any_eqU r fs]
    exact q
theorem call_len_seq : CallR X (.builtin "len") (fun xs H Q => ∃ p ys, xs = [.ref p] ∧ (SqL X.K H p ys ∨ SqT X.K H p ys) ∧ Q (.int ys.length) H) := by
  intro pins s σ H xs us Q I r h
  obtain ⟨p, ys, rfl, hq, q⟩ := h
  obtain ⟨u, rfl, rx⟩ := vals1 r
  cases rx
  have hn := line63
  rcases hq with hq | hq
  · obtain ⟨its, r', pl, hz⟩ := I.list hq
    have hlen := r'.length
    exact Calls.call_len_list pl.isList (by simp only [List.size_toArray] <;> omega) ⟨.int ys.length, H, I.tok _, ⟨s.toks + 1, by rw [List.size_toArray, hlen]⟩, q⟩
  · obtain ⟨its, r', pl, hz⟩ := I.tuple hq
    have hlen := r'.length
    exact len_tuple pl (by simp only [List.size_toArray] <;> omega) ⟨.int ys.length, H, I.tok _, ⟨s.toks + 1, by rw [List.size_toArray, hlen]⟩, q⟩
theorem CallR.or {f : Value} {r r' : List V → Hp → VK → Prop} (h : CallR X f r) (h' : CallR X f r') : CallR X f (fun xs H Q => r xs H Q ∨ r' xs H Q) := by
  intro pins s σ H xs us Q I rs q
  rcases q with q | q
  · exact h pins s σ H xs us Q I rs q
  · exact h' pins s σ H xs us Q I rs q
theorem call_list_of : CallR X (.type "list") (fun xs H Q => ∃ p ys, xs = [.ref p] ∧ (SqL X.K H p ys ∨ SqT X.K H p ys) ∧ ∀ l, H l = none → Q (.ref l) (upd H l (.lst ys))) := by
  intro pins s σ H xs us Q I r h
  obtain ⟨p, ys, rfl, hq, q⟩ := h
  obtain ⟨u, rfl, rx⟩ := vals1 r
  cases rx
  have fin : ∀ (its : List Value), Vals ys its → ys.length ≤ sizeLine → ∀ (h' : Heap) (c' : Nat), (∀ b o', s.heap.get? b = some o' → h'.get? b = some o') →
      h'.get? s.heap.objs.size = some { cls := .type "list", dict := none, data := .seq its.toArray c', slots := #[] } → EP X pins σ Q (.ref s.heap.objs.size) { s with heap := h' } := fun its r' hz h' c' kp e =>
    ⟨.ref s.heap.objs.size, _, I.laid (t' := s.toks) kp (Nat.le_refl _) (show ObjOk X.prog X.w _ h' _ (.lst ys) from ⟨hz, its, c', r', e⟩), rfl, q _ (I.hok.fresh (Nat.le_refl _))⟩
  rcases hq with hq | hq
  · obtain ⟨its, r', pl, hz⟩ := I.list hq
    have hlen := r'.length
    obtain ⟨o, ho, hc, n, hd⟩ := pl.isList
    exact call_list_seq p (.inl rfl) ho hc hd (fun h' c' kp e => fin its r' hz h' c' kp e) (by simp only [List.size_toArray] <;> omega)
  · obtain ⟨its, r', pl, hz⟩ := I.tuple hq
    have hlen := r'.length
    obtain ⟨o, ho, hc, n, hd⟩ := pl
    exact call_list_seq p (.inr rfl) ho hc hd (fun h' c' kp e => fin its r' hz h' c' kp e) (by simp only [List.size_toArray] <;> omega)
def tyV (K : PySem.W.Frag) (T : String) (x : V) (H : Hp) : Prop := match x with
  | .str _ => T = "str"
  | .int _ => T = "int"
  | .ref p => (T = "list" ∧ ∃ xs, SqL K H p xs) ∨ (T = "tuple" ∧ ∃ o, K.lookup p = some o ∧ o.cls = .type "tuple" ∧ o.dict = none) ∨
      (T = "dict" ∧ ((∃ kvs, H p = some (.dK kvs)) ∨ ∃ kvs, H p = some (.dT kvs))) ∨ (T = "set" ∧ ∃ S n, H p = some (.set S n))
  | _ => False
theorem tyV_is {pins : List (Addr × Obj)} {σ : St} {H : Hp} {s : Shared} {T : String} {x : V} {v : Value} (I : Inv X pins σ H s) (r : RelV x v) (ty : tyV X.K T x H) :
    s.TypeIs v T ∧ ∀ a, v = .ref a → ∃ ob, s.heap.get? a = some ob ∧ ob.dict = none := by
  cases x with
  | str z =>
    obtain ⟨t, rfl⟩ := r
    cases (show T = "str" from ty)
    exact ⟨typeIs_str s z t, fun _ e => nomatch e⟩
  | int i =>
    obtain ⟨t, rfl⟩ := r
    cases (show T = "int" from ty)
    exact ⟨typeIs_int s i t, fun _ e => nomatch e⟩
  | ref p =>
    cases r
    rcases ty with ⟨rfl, xs, hq⟩ | ⟨rfl, o, hk, hc, hd⟩ | ⟨rfl, hk⟩ | ⟨rfl, S, n, hk⟩
    · obtain ⟨its, _, pl, _⟩ := I.list hq
      refine ⟨pl.isList.typeIs, fun a e => ?_⟩
      cases e
      obtain ⟨o, n, e, c, hd, _⟩ := pl
      exact ⟨o, e, hd⟩
    · refine ⟨⟨o, I.kIn p o hk, hc⟩, fun a e => ?_⟩
      cases e
      exact ⟨o, I.kIn _ o hk, hd⟩
    · have z : ∃ o, s.heap.get? p = some o ∧ o.ExactDict := by
        rcases hk with ⟨kvs, hk⟩ | ⟨kvs, hk⟩
        · obtain ⟨_, _, _, _, o, _, _, e, ex, _⟩ := I.hok p _ hk
          exact ⟨o, e, ex⟩
        · obtain ⟨_, _, _, _, o, _, _, e, ex, _⟩ := I.hok p _ hk
          exact ⟨o, e, ex⟩
      obtain ⟨o, e, ex⟩ := z
      refine ⟨⟨o, e, ex.1⟩, fun a e2 => ?_⟩
      cases e2
      exact ⟨o, e, ex.2.1⟩
    · obtain ⟨o, _, _, _, e, ex, _⟩ := I.hok p _ hk
      refine ⟨⟨o, e, ex.1⟩, fun a e2 => ?_⟩
      cases e2
      exact ⟨o, e, ex.2.1⟩
  | _ => exact False.elim ty
def tBM (K : PySem.W.Frag) (T : String) (r : V → List V → Hp → VK → Prop) (to : TE) (t : TA) : TE := fun σ H Q => to σ H fun x H1 => tyV K T x H1 ∧ t σ H1 fun xs H2 => r x xs H2 Q
variable {o e : Expr} {es : List Expr} {to : TE} {t : TA} {name : Str} {apos cpos : Pos} {T id : String} {r : V → List V → Hp → VK → Prop}
theorem pe_bm (pa : PlainAttrs T) (slot : Slot T name id) (hty : typeOf (.builtin id) = pure (.type "method_descriptor")) (hm : MtR X id r) (ho : PE X o to) (ha : PA X (e :: es) t)
    (hbase : attributeBase o name X.env (eval o X.env) = eval o X.env := by rfl)
    (hfew : ((backTo cpos (starEach (e :: es) X.env)).all (fun x => !x.1) && (backToKw cpos (keywordEach [] X.env)).all (fun x => x.1.isSome)
      && decide ((e :: es).length + ([] : List Keyword).length + (if ([] : List Keyword).isEmpty then 0 else 1) < 30)) = true := by rfl)
    (hline : (apos.endLine == cpos.line) = true := by rfl) (hs : starEach (e :: es) X.env = (false, eval e X.env) :: starEach es X.env := by rfl) (hplain : (backTo cpos (starEach es X.env)).any (·.1) = false := by rfl) :
    PE X (.Call (.Attribute o name apos) (e :: es) [] cpos) (tBM X.K T r to t) := by
  intro pins s σ H Q I h
  refine wpAny_Call_method_late hbase hfew hline rfl (thn (ho pins s σ H _ I h) fun v s1 ⟨x, H1, I1, r1, ty, q1⟩ => ?_)
  obtain ⟨h1, h2⟩ := tyV_is I1 r1 ty
  refine ⟨T, id, pa, slot, hty, h1, h2, ?_⟩
  have hA := ha cpos pins s1 σ H1 _ I1 q1
  rw [hs] at hA ⊢
  refine Calls.callWith_builtin (by show (false || (backTo cpos (starEach es X.env)).any (·.1)) = false; rw [hplain] <;> rfl) (Calls.evalArgs_plain ?_)
  exact thn hA fun us s2 ⟨vs, H2, I2, r2, q2⟩ => hm pins s2 σ H2 x vs v us Q I2 r1 r2 q2
end
end L2
namespace L2
open PySem PySem.Spec PyProof.Rows
def MtM (X : Cx) (id : String) (r : V → List V → Hp → VK → Prop) : Prop :=
  ∀ (pins : List (Addr × Obj)) (s : Shared) (σ : St) (H : Hp) (x : V) (xs : List V) (v : Value) (us : List Value) (Q : VK), Inv X pins σ H s → RelV x v → Vals xs us → r x xs H Q →
    wpAny (model X.prog X.w) X.A (call (.builtin id) (v :: us)) (EP X pins σ Q) X.xe s
theorem Vals.one : ∀ {x : V} {us : List Value}, Vals [x] us → ∃ u, us = [u] ∧ RelV x u
  | _, _, .cons r .nil => ⟨_, rfl, r⟩
theorem Vals.two : ∀ {x y : V} {us : List Value}, Vals [x, y] us → ∃ u v, us = [u, v] ∧ RelV x u ∧ RelV y v
  | _, _, _, .cons r (.cons q .nil) => ⟨_, _, rfl, r, q⟩
theorem Vals.zero : ∀ {us : List Value}, Vals [] us → us = []
  | _, .nil => rfl
theorem Vals.reverse {xs : List V} {us : List Value} (h : Vals xs us) : Vals xs.reverse us.reverse := by
  induction h with
  | nil => exact .nil
  | cons r t ih => rw [List.reverse_cons, List.reverse_cons]; exact Vals.append ih (.cons r .nil)
theorem Vals.rep {xs : List V} {us : List Value} (h : Vals xs us) : ∀ k : Nat, Vals (List.replicate k xs).flatten (List.replicate k us).flatten
  | 0 => .nil
  | k + 1 => by
    rw [List.replicate_succ, List.replicate_succ, List.flatten_cons, List.flatten_cons]
    exact Vals.append h (Vals.rep h k)
theorem foldl_rep (its : List Value) : ∀ (k : Nat) (acc : List Value),
    List.foldl (fun x1 x2 => x1 ++ x2) acc.toArray (List.replicate k its.toArray) = (acc ++ (List.replicate k its).flatten).toArray
  | 0, acc => by simp
  | k + 1, acc => by
    have e : acc.toArray ++ its.toArray = (acc ++ its).toArray := by simp
    have e2 : (acc ++ its) ++ (List.replicate k its).flatten = acc ++ (List.replicate (k + 1) its).flatten := by
      rw [List.replicate_succ, List.flatten_cons, List.append_assoc]
    rw [← e2, ← foldl_rep its k (acc ++ its), ← e, List.replicate_succ, List.foldl_cons]
section
variable {X : Cx} {pins : List (Addr × Obj)} {σ : St} {H : Hp} {s : Shared} {l b : Addr} {xs ys zs : List V}
theorem Inv.lset {its its' : List Value} {n : Nat} {f : Array Value → Array Value} {t' : Nat} (I : Inv X pins σ H s) (hH : H l = some (.lst xs))
    (e : s.heap.get? l = some { cls := .type "list", data := .seq its.toArray n }) (hf : f its.toArray = its'.toArray) (hv : Vals ys its') (hz : ys.length ≤ sizeLine) :
    Inv X pins σ (upd H l (.lst ys)) { s with heap := s.heap.update l (Obj.mapSeq f), toks := t' } := by
  have q := PySem.IsL.update e f
  rw [hf] at q
  refine I.write (x := l) (e := l) (by rw [hH]; exact trivial) (.inl rfl) (fun b' u hb hu => (Heap.get?_update_other s.heap (Obj.mapSeq f) (Ne.symm hb)).trans hu) ⟨_, q⟩ ?_
  exact ⟨hz, its', _, hv, q⟩
theorem Inv.lnew {its : List Value} {t' : Nat} (I : Inv X pins σ H s) (hv : Vals ys its) (hz : ys.length ≤ sizeLine) :
    Inv X pins σ (upd H s.heap.objs.size (.lst ys)) { s with heap := s.heap.push { cls := .type "list", data := .seq its.toArray }, toks := t' } :=
  I.laid (fun _ _ q => Heap.get?_push_of_some _ q) (Nat.le_refl _) ⟨hz, its, 0, hv, Heap.get?_push_size _ rfl⟩
theorem Inv.fresh (I : Inv X pins σ H s) : H s.heap.objs.size = none := I.hok.fresh (Nat.le_refl _)
theorem Inv.lstM (I : Inv X pins σ H s) (hH : H l = some (.lst xs)) : xs.length ≤ sizeLine ∧ ∃ (its : List Value) (n : Nat), Vals xs its ∧ xs.length = its.length ∧ s.heap.get? l = some { cls := .type "list", data := .seq its.toArray n } := by
  obtain ⟨z, its, n, r, e⟩ := I.hok l _ hH
  exact ⟨z, its, n, r, r.length, e⟩
theorem notLongL {n : Nat} (h : n ≤ sizeLine) : Builtin.List.listTooLong n = false := by
  unfold Builtin.List.listTooLong
  exact decide_eq_false (by omega)
end
section
variable {X : Cx}
def rAppend : V → List V → Hp → VK → Prop := fun x vs H Q => ∃ l xs y, x = .ref l ∧ vs = [y] ∧ H l = some (.lst xs) ∧ xs.length < sizeLine ∧ Q .non (upd H l (.lst (xs ++ [y])))
theorem mt_append : MtM X "list.append" rAppend := by
  intro pins s σ H x vs v us Q I rx rv h
  obtain ⟨l, xs, y, rfl, rfl, hH, hz, q⟩ := h
  cases rx
  obtain ⟨u, rfl, ru⟩ := rv.one
  obtain ⟨z, its, n, r, hl, e⟩ := I.lstM hH
  refine call_meets F.slot_list_append ⟨_, e, rfl⟩ F.entry_list_append (F.args_list_append_2 _ _) (PySem.list_append l its.toArray n u (by rw [List.size_toArray]; omega)) ⟨e, ?_⟩
  refine ⟨.non, _, I.lset (its' := its ++ [u]) hH e (by simp) (r.append (.cons ru .nil)) ?_, rfl, q⟩
  rw [List.length_append, List.length_singleton]
  omega
def rCat : R2 := fun x y H Q => ∃ l b xs zs, x = .ref l ∧ y = .ref b ∧ H l = some (.lst xs) ∧ H b = some (.lst zs) ∧ xs.length + zs.length ≤ sizeLine ∧ ∀ p, H p = none → Q (.ref p) (upd H p (.lst (xs ++ zs)))
theorem op_cat : OpR X (binaryOp .Add) rCat := by
  intro pins s σ H x y v u Q I rx ry h
  obtain ⟨l, b, xs, zs, rfl, rfl, hH, hB, hz, q⟩ := h
  cases rx
  cases ry
  obtain ⟨z, its, n, r, hl, e⟩ := I.lstM hH
  obtain ⟨z2, its2, n2, r2, hl2, e2⟩ := I.lstM hB
  refine PySem.P.add_list e e2 ?_ (by rw [List.size_toArray, List.size_toArray]; omega)
  have ea : its.toArray ++ its2.toArray = (its ++ its2).toArray := by simp
  rw [ea]
  exact ⟨.ref _, _, I.lnew (t' := s.toks) (r.append r2) (by rw [List.length_append]; omega), rfl, q _ I.fresh⟩
def rRep : R2 := fun x y H Q => ∃ l k xs, x = .ref l ∧ y = .int k ∧ H l = some (.lst xs) ∧ -(2 ^ 63) ≤ k ∧ k < 2 ^ 63 ∧ xs.length * k.toNat ≤ sizeLine ∧
  ∀ p, H p = none → Q (.ref p) (upd H p (.lst (List.replicate k.toNat xs).flatten))
theorem len_rep {α : Type} (xs : List α) (k : Nat) : (List.replicate k xs).flatten.length = k * xs.length := by
  induction k with
  | zero => simp
  | succ k ih => rw [List.replicate_succ, List.flatten_cons, List.length_append, ih, Nat.succ_mul, Nat.add_comm]
theorem op_rep : OpR X (binaryOp .Mult) rRep := by
  intro pins s σ H x y v u Q I rx ry h
  obtain ⟨l, k, xs, rfl, rfl, hH, h1, h2, hz, q⟩ := h
  cases rx
  obtain ⟨t, rfl⟩ := ry
  obtain ⟨z, its, n, r, hl, e⟩ := I.lstM hH
  have hlen : its.toArray.size * k.toNat ≤ sizeLine := by rw [List.size_toArray, ← hl]; exact hz
  have hcap : ¬ its.toArray.size * k.toNat > (2 ^ 63 - 1) / 8 := by
    have : (sizeLine : Nat) ≤ (2 ^ 63 - 1) / 8 := by decide
    omega
  have hfit : ¬ (!Builtin.List.listFitsIndex k) = true := by
    rw [fitsIndex_both h1 h2]
    exact Bool.false_ne_true
  have hlong : ¬ Builtin.List.listTooLong (its.toArray.size * k.toNat) = true := by
    rw [notLongL hlen]
    exact Bool.false_ne_true
  have hnew : List.foldl (fun x1 x2 => x1 ++ x2) #[] (List.replicate (if its.toArray.isEmpty = true then 0 else k.toNat) its.toArray) = (List.replicate k.toNat its).flatten.toArray := by
    have f0 : ∀ m : Nat, List.foldl (fun x1 x2 => x1 ++ x2) #[] (List.replicate m its.toArray) = (List.replicate m its).flatten.toArray := fun m => by
      have := foldl_rep its m []
      rw [List.nil_append] at this
      exact this
    rw [f0]
    cases its with
    | nil => simp
    | cons a r' => rw [if_neg (by simp)]
  refine wpAny_binaryOp_repeat_ref (T := "list") (U := "int") (by decide) ⟨_, e, rfl⟩ (fun s' => typeIs_int s' k t) noFill_list_mul F.fills_int_mul F.slot_int_rmul repeat_list F.slot_int_index.lookup
    (call_meets F.slot_int_rmul (typeIs_int s k t) F.entry_int_rmul (F.args_int_rmul_2 _ _) (int___rmul___int_list k t l its.toArray n)
      ⟨e, rfl, ⟨_, e, rfl⟩, call_meets F.slot_list_mul ⟨_, e, rfl⟩ F.entry_list_mul (F.args_list_mul_2 _ _) (AutoListH.list___mul___list_int_3 l its.toArray n k t hfit hcap hlong) ⟨e, ?_⟩⟩)
  rw [hnew]
  exact ⟨.ref _, _, I.lnew (t' := s.toks) (r.rep k.toNat) (by rw [len_rep, Nat.mul_comm]; exact hz), rfl, q _ I.fresh⟩
end
section
variable {prog : Program} {w : World} {A : Around} {E : Value → Shared → Prop} {s : Shared}
end
section
variable {X : Cx}
end
end L2
namespace Att
open PySem PySem.W PySem.Calls PyProof.Rows
theorem ints_of_wellAll {P : Params} {h : Heap} : ∀ (ns : List Int) (vs : List Value), WellAll P h vs (ns.map WData.int) → IntsAre vs ns := by
  intro ns
  induction ns with
  | nil =>
    intro vs w
    rw [List.map_nil] at w
    cases w
    exact .nil
  | cons n ns ih =>
    intro vs w
    rw [List.map_cons] at w
    cases w with
    | cons a b =>
      cases a
      exact .cons _ _ (ih _ b)
theorem script_of {l : OpenLaw} {n : Nat} (hn : l.most = some n) {P : Params} {h : Heap} {args : List WData} {vals : List Value}
    (hpre : l.row.toRowW.claim.pre args = true) (hwl : WellAll P h vals args) :
    ∃ a vs ns, vals = [Value.ref a] ∧ args = [WData.list (ns.map WData.int)] ∧ h.get? a = some { cls := .type "list", data := .seq vs.toArray } ∧ IntsAre vs ns ∧ ns.length ≤ n := by
  have hsh : WShape.hasAll [] args [.list .int] = true := (pre_splitW hpre).1
  have hc : l.pre.holds [] { args := args } = true := (pre_splitW hpre).2
  obtain ⟨d, r, rfl, h1, h2⟩ := hasAllW_cons hsh
  obtain rfl := hasAllW_nil h2
  obtain ⟨xs, rfl, h3⟩ := hasW_list h1
  obtain ⟨ns, rfl⟩ := items_int h3
  have hlen : ns.length ≤ n := by
    unfold OpenLaw.pre at hc
    have h4 : (WTm.not (.lt (.lit (.int (n : Int))) (.len (.arg 0)))).holds [] { args := [.list (ns.map .int)] } = true := by
      have h4 := (holds_andW hc).1
      rw [hn] at h4
      exact h4
    have h5 := condW_of h4 (w_not (w_lt w_lit (w_len_list (w_arg rfl))))
    rw [List.length_map] at h5
    refine Nat.le_of_not_lt fun q => ?_
    have q' : (n : Int) < ((ns.length : Nat) : Int) := by omega
    first
      | (rw [decide_eq_true q'] at h5; exact absurd h5 (by decide))
      | (simp at h5; omega)
  cases hwl with
  | cons w1 w2 =>
    cases w2
    cases w1 with
    | list ho hall => exact ⟨_, _, ns, rfl, rfl, ho, ints_of_wellAll ns _ hall, hlen⟩
theorem post_true (l : OpenLaw) (args : List WData) : l.row.toRowW.claim.post args (.bool true) args = true :=
  postW_of (r := l.row.toRowW) (X := (true == true))
    (show WShape.has [] (.bool true) .bool = true by first | rfl | decide | simp [WShape.has, WShape.arms, WShape.armsAll])
    (show (WTm.eq .res (.lit (.bool true))).value [] { args := args, res := some (.bool true), after := args } = some (.bool (true == true)) from w_eq_bool (w_res rfl) w_lit) rfl
theorem attach_call {l : OpenLaw} {n : Nat} {q : Program} {loose : List Str} {XP : (Str → Option Value) → Heap → Prop} {YP : World → Heap → Prop} {d : DefRec}
    (hn : l.most = some n) (hdf : d.params.defaults = [])
    (call : ∀ (w : World) (s₀ s₁ : Shared) (mg mb : Str → Option Value) (fa : Addr) (o : Obj) (pm cd doc : Value) (a : Addr) (vs : List Value) (ns : List Int),
      Ground q loose [] XP w s₀ mg mb s₁.heap → YP w s₁.heap →
      s₁.heap.get? fa = some o → o.data = .func (docDef d.name d.params d.body d.scope pm cd doc) → s₁.heap.CodeRec cd d.name → mg d.name = some (.ref fa) →
      s₁.heap.get? a = some { cls := .type "list", data := .seq vs.toArray } → IntsAre vs ns → ns.length ≤ n → s₁.gens = #[] →
      codeAny (model l.prog w) callerA (.call (.ref fa) ⟨[.ref a], []⟩) (fun r s' => r = .ok (.ret (.bool true)) ∧ OldK s₁.heap s'.heap ∧ s'.os = s₁.os ∧ AllBare s'.gens) s₁) :
    WalkO q loose XP YP l.row.toRowW d [] (fun f vs => PySem.call f vs) := by
  intro w s₀ s₁ mg mb G Y fa o pm cd doc dV kV ho hd hcd hD hmg hg args vals as hpre hlay hrd hwl hlo
  obtain rfl : dV = .none := Dflts.none hD hdf
  obtain rfl : kV = .none := Dflts.noKw hD
  obtain ⟨a, vs, ns, rfl, rfl, hobj, hints, hlen⟩ := script_of hn hpre hwl
  refine enter_call (codeAny_mono (call w s₀ s₁ mg mb fa o pm cd doc a vs ns G Y ho (fd_plain hd) hcd hmg hobj hints hlen hg) fun r s' hq => ?_)
  obtain ⟨rfl, h2, h3, h4⟩ := hq
  exact ⟨.inl ⟨.bool true, .bool true, [], rfl, fun _ => rfl, .bool true, post_true l _, fun _ => ⟨List.Pairwise.nil, fun _ hm => (nomatch hm)⟩⟩, h2, h3, h4⟩
section
variable {prog : Program} {w : World} {A : Around} {E : Value → Shared → Prop} {s : Shared} {K : Frag}
def ledger (h : Heap) (L d : Addr) : List (Addr × Obj) := (List.range h.objs.size).filterMap fun a => if a = L ∨ a = d then none else (h.get? a).map fun o => (a, o)
end
end Att
namespace L2
open PySem PySem.Spec PyProof.Rows
theorem vals_ints : ∀ {vs : List Value} {ns : List Int}, IntsAre vs ns → Vals (ns.map V.int) vs
  | _, _, .nil => .nil
  | _, _, .cons n t h => .cons ⟨t, rfl⟩ (vals_ints h)
def Only (H : Hp) : Prop := ∀ b, H b = none ∨ ∃ o xs, H b = some (.frz o (.lst xs))
theorem law_call {P : Program} {w : World} {K : PySem.W.Frag} {mg mb : Str → Option Value} {CX : CXT} {k : Nat} {fa a : Addr} {fd : FuncData} {x : Str} {sp : Sp} {s₁ : Shared} {vs : List Value} {ns : List Int}
    (KX : K.In s₁.heap) (hns : s₁.heap.Ns mainGlobals mg) (hb : s₁.heap.Ns builtinsNs mb) (hbb : ∀ x : Str, x ≠ "__name__" → mb x = bootBuiltins x) (hlim : s₁.heap.NoLimit) (hg : s₁.gens = #[])
    (ha : s₁.heap.get? a = some { cls := .type "list", data := .seq vs.toArray }) (hi : IntsAre vs ns) (hl : ns.length ≤ sizeLine) (hr : Room k callerA)
    (F : ∀ base : Heap, K.In base → base.Ns mainGlobals mg → FnOk P w K mg base CX k fa fd [x] sp) (hbind : ∀ (s : Shared) (u : Value), BindsTo s fd ⟨[u], []⟩ [(x, u)])
    (hsp : ∀ H : Hp, Only H → SqL K H a (ns.map V.int) → sp [.ref a] H (fun v _ => v = .bl true) fun _ _ _ => False)
    (hCX : ∀ H e s', CX [] H s₁ (fun _ _ _ => False) e s' → False) :
    codeAny (model P w) callerA (.call (.ref fa) ⟨[.ref a], []⟩) (fun r s' => r = .ok (.ret (.bool true)) ∧ OldK s₁.heap s'.heap ∧ s'.os = s₁.os ∧ AllBare s'.gens) s₁ := by
  have rv := vals_ints hi
  have lenV := hi.length
  have core : ∀ H : Hp, Only H → SqL K H a (ns.map V.int) → HOk P w H s₁.heap → (∀ b, H b ≠ none → b = a) → (H a ≠ none → K.lookup a = none) →
      codeAny (model P w) callerA (.call (.ref fa) ⟨[.ref a], []⟩) (fun r s' => r = .ok (.ret (.bool true)) ∧ OldK s₁.heap s'.heap ∧ s'.os = s₁.os ∧ AllBare s'.gens) s₁ := by
    intro H hO hS hok hA hK
    have base_of : ∀ {b : Addr} {o : Obj}, s₁.heap.get? b = some o → H b = none → (hidT s₁.heap H).get? b = some o := fun e n => hidT_get e n
    have noA : ∀ {b : Addr} {o : Obj} {es : Array DictEntry} {ep : Nat}, s₁.heap.get? b = some o → o.data = .dict es ep → H b = none := fun {b o es ep} e d => by
      cases q : H b with
      | none => rfl
      | some u =>
        have e' : b = a := hA b (by rw [q]; simp)
        subst e'
        rw [ha] at e; cases e
        have d' : Data.seq vs.toArray _ = Data.dict es ep := d
        cases d'
    have nsK : ∀ {b : Addr} {m : Str → Option Value}, s₁.heap.Ns b m → (hidT s₁.heap H).Ns b m := fun {b m} ⟨o, es, ep, e, d, r⟩ => ⟨o, es, ep, base_of e (noA e d), d, r⟩
    have hKb : K.In (hidT s₁.heap H) := fun b o e => base_of (KX b o e) (by
      cases q : H b with
      | none => rfl
      | some u =>
        have e' : b = a := hA b (by rw [q]; simp)
        subst e'
        rw [hK (by rw [q]; simp)] at e; cases e)
    have hM : Mod K mg (hidT s₁.heap H) := ⟨hKb, nsK hns, ⟨mb, nsK hb, hbb⟩, let ⟨mc, h1, h2⟩ := hlim; ⟨mc, nsK h1, h2⟩⟩
    have e0 : Env0 P w K mg (hidT s₁.heap H) callerA [] s₁ H := ⟨rfl, hM, fun b o e => of_hidT e, Nat.le_of_eq (hidT_size _ _), trivial, fun b hb => absurd (show b ∈ ([] : List Addr) from hb) (by simp), hok, .of_eq hg⟩
    refine codeAny_mono ((F _ hKb (nsK hns)).run callerA [] s₁ H ⟨[.ref a], []⟩ [.ref a] [.ref a] _ _ hr e0 (hbind s₁ (.ref a)) (.cons rfl .nil) (hsp H hO hS)) fun r s' h => ?_
    cases r with
    | error e => exact (hCX H e s' h).elim
    | ok fl =>
      cases fl with
      | next => exact False.elim h
      | brk => exact False.elim h
      | cont => exact False.elim h
      | ret u =>
        obtain ⟨v, H', os, bare, un, hok', r', q⟩ := h
        have q' : v = .bl true := q
        subst q'
        obtain rfl : u = Value.bool true := r'
        refine ⟨rfl, OldK.of_keep fun b o e => ?_, os, bare⟩
        cases q : H b with
        | none => exact un.keep b o e q (by intro z; exact absurd (show b ∈ ([] : List Addr) from z) (by simp)) (by simp)
        | some u =>
          rcases hO b with z | ⟨ob, xs, z⟩
          · rw [q] at z; cases z
          · have z2 := un.frzs b ob _ z
            obtain ⟨e1, _⟩ := hok b _ z
            obtain ⟨e2, _⟩ := hok' b _ z2
            rw [e] at e1; cases e1
            exact e2
  cases hk : K.lookup a with
  | some o =>
    have e := KX a o hk
    rw [ha] at e
    cases e
    refine core (fun _ => none) (fun _ => .inl rfl) (.inr ⟨_, vs.toArray, _, hk, rfl, rfl, rfl, by rw [List.size_toArray, lenV]; exact hl, by simpa using rv⟩) (fun b u z => by have z' : (none : Option HO) = some u := z; cases z') (fun b z => absurd rfl z) fun z => absurd rfl z
  | none =>
    refine core (fun b => if b = a then some (.frz { cls := .type "list", data := .seq vs.toArray } (.lst (ns.map V.int))) else none) (fun b => ?_) (.inl (.inr ⟨{ cls := .type "list", data := .seq vs.toArray }, if_pos rfl⟩)) (fun b u z => ?_) (fun b z => ?_) fun _ => hk
    · by_cases hb : b = a
      · exact .inr ⟨_, _, if_pos hb⟩
      · exact .inl (if_neg hb)
    · by_cases hb : b = a
      · have z' := (if_pos hb).symm.trans z
        cases z'
        subst hb
        exact ⟨ha, by rw [List.length_map]; exact hl, vs, _, rv, ha⟩
      · have z' := (if_neg hb).symm.trans z
        cases z'
    · by_cases hb : b = a
      · exact hb
      · exact absurd (if_neg hb) z
end L2
namespace L2
open PySem PySem.Spec PyProof.Rows
theorem walk_of {l : PySem.W.OpenLaw} {n k : Nat} {q : Program} {loose : List Str} {XP : (Str → Option Value) → Heap → Prop} {YP : World → Heap → Prop} {d : DefRec} {K : Params → PySem.W.Frag} {CX : World → CXT} {sp : World → Sp} {x : Str}
    (hn : l.most = some n) (hn2 : n ≤ sizeLine) (hdf : d.params.defaults = []) (hr : Room k callerA)
    (hY : ∀ (w : World) (h : Heap), YP w h → (K w.params).In h)
    (F : ∀ (w : World) (mg : Str → Option Value) (fa : Addr) (h : Heap), (K w.params).In h → h.Ns mainGlobals mg → mg d.name = some (.ref fa) →
      ∃ fd : FuncData, (∀ (s : Shared) (u : Value), BindsTo s fd ⟨[u], []⟩ [(x, u)]) ∧
        ∀ base : Heap, (K w.params).In base → base.Ns mainGlobals mg → FnOk l.prog w (K w.params) mg base (CX w) k fa fd [x] (sp w))
    (hsp : ∀ (w : World) (H : Hp) (a : Addr) (ns : List Int), ns.length ≤ n → Only H → SqL (K w.params) H a (ns.map V.int) → sp w [.ref a] H (fun v _ => v = .bl true) fun _ _ _ => False)
    (hCX : ∀ (w : World) (H : Hp) (s : Shared) (e : Value) (s' : Shared), CX w [] H s (fun _ _ _ => False) e s' → False) :
    PySem.W.WalkO q loose XP YP l.row.toRowW d [] (fun f vs => PySem.call f vs) := by
  refine Att.attach_call hn hdf fun w s₀ s₁ mg mb fa o pm cd doc a vs ns G Y ho hd hcd hmg hobj hints hlen hg => ?_
  have KX := hY w _ Y
  obtain ⟨fd, hb, hF⟩ := F w mg fa _ KX G.T.g hmg
  exact law_call KX G.T.g G.T.b G.T.builtins G.T.nolimit hg hobj hints (Nat.le_trans hlen hn2) hr hF hb (fun H hO hS => hsp w H a ns hlen hO hS) fun H e s' => hCX w H s₁ e s'
end L2
namespace L2
open PySem PySem.Spec PyProof.Rows
def defArgs (s : Stmt) : Arguments := match s with
  | .FunctionDef _ a _ _ _ _ _ _ _ _ => a
  | _ => { posonlyargs := [], args := [], vararg := none, kwonlyargs := [], kw_defaults := [], kwarg := none, defaults := [] }
def defBody (s : Stmt) : List Stmt := match s with
  | .FunctionDef _ _ b _ _ _ _ _ _ _ => b
  | _ => []
def defScope (s : Stmt) : Scope := match s with
  | .FunctionDef _ _ _ _ _ _ sc _ _ _ => sc
  | _ => { kind := .function, names := [], isGenerator := false, isCoroutine := false }
abbrev CX0 : CXT := fun _ _ _ _ _ _ => False
abbrev E0 : XK := fun _ _ _ => False
theorem pass0 {X : Cx} : Passes CX0 X E0 := fun _ _ _ _ _ _ _ h => h.elim
structure Fun (K : PySem.W.Frag) (x qual : Str) (st : Stmt) (f : Addr) (fd : FuncData) : Prop where
  ex : ∃ (oc : Value) (od : Option Addr) (kV doc pm : Value) (an : Option Addr) (cdv ct : Value) (osl : Array (Option Value)),
    fd = PySem.W.fnOf x qual (defArgs st) (defBody st) (defScope st) .none kV doc pm an cdv ct ∧ K.lookup f = some ⟨oc, od, .func fd, osl⟩ ∧ PySem.W.codeIn K cdv qual = true
  kp : PySem.W.keepIn K (.ref f) = true
section
variable {P : Program} {w : World} {K : PySem.W.Frag} {mg : Str → Option Value} {base : Heap}
theorem Fun.ok {x qual : Str} {st : Stmt} {f : Addr} {fd : FuncData} {N ps : List Str} {k : Nat} {sp : Sp} (F : Fun K x qual st f fd) (S : FnScope N ps (defScope st)) (len : ∀ vs H Q E, sp vs H Q E → vs.length = ps.length)
    (hbody : ∀ (cdv : Value) (A : Around) (outer : List Env) (s : Shared) (H : Hp) (vs : List V) (Q : VK) (E : XK), Room k (A.deeper (envOfC qual (defScope st) s.heap.objs.size f cdv)) → sp vs H Q E →
      ∃ t, PSs (cxOf CX0 P w K mg base N qual (defScope st) f cdv A outer s H E).nox (defBody st) t ∧ t { nx := fun _ H' => Q .non H', rt := Q } (start N vs) H) : FnOk P w K mg base CX0 (k + 1) f fd ps sp := by
  obtain ⟨oc, od, kV, doc, pm, an, cdv, ct, osl, rfl, lk, hcd⟩ := F.ex
  refine fn_of lk hcd S len fun A outer s H vs Q E hr hsp => ?_
  obtain ⟨t, h, q⟩ := hbody cdv A outer s H vs Q E hr hsp
  exact ⟨t, h.nox, q⟩
theorem Fun.binds {x qual : Str} {st : Stmt} {f : Addr} {fd : FuncData} {ps : List Str} (F : Fun K x qual st f fd)
    (h : ∀ (kV doc pm : Value) (an : Option Addr) (cdv ct : Value) (us : List Value), us.length = ps.length → bindArgs (PySem.W.fnOf x qual (defArgs st) (defBody st) (defScope st) .none kV doc pm an cdv ct) ⟨us, []⟩ = pure (ps.zip us)) : Binds K fd ps [] := by
  obtain ⟨oc, od, kV, doc, pm, an, cdv, ct, osl, rfl, lk, hcd⟩ := F.ex
  exact .all (h kV doc pm an cdv ct)
theorem fun_mk {x qual : Str} {st : Stmt} {f : Addr} {oc : Value} {od an : Option Addr} {osl : Array (Option Value)} {kV doc pm cdv ct : Value} (l : K.lookup f = some ⟨oc, od, .func (PySem.W.fnOf x qual (defArgs st) (defBody st) (defScope st) .none kV doc pm an cdv ct), osl⟩)
    (c : PySem.W.codeIn K cdv qual = true) (k : PySem.W.keepIn K (.ref f) = true) : Fun K x qual st f (PySem.W.fnOf x qual (defArgs st) (defBody st) (defScope st) .none kV doc pm an cdv ct) := ⟨⟨oc, od, kV, doc, pm, an, cdv, ct, osl, rfl, l, c⟩, k⟩
end
theorem small1000 {n : Nat} (h : n ≤ 1000) : n < sizeLine := Nat.lt_of_le_of_lt h (by decide)
section
variable {X : Cx}
end
def Same (H H' : Hp) : Prop := ∀ b o, H b = some o → H' b = some o
theorem Same.refl (H : Hp) : Same H H := fun _ _ h => h
theorem Same.trans {H H1 H2 : Hp} (a : Same H H1) (b : Same H1 H2) : Same H H2 := fun c o h => b c o (a c o h)
theorem Same.free {H H' : Hp} (e : Same H H') {l : Addr} (h : H' l = Option.none) : H l = Option.none := by
  cases q : H l with
  | none => rfl
  | some o =>
    rw [e l o q] at h
    cases h
theorem Same.seq {K : PySem.W.Frag} {H H' : Hp} {a : Addr} {xs : List V} (e : Same H H') (h : SqL K H a xs) : SqL K H' a xs := by
  rcases h with (h | ⟨o, h⟩) | h
  · exact .inl (.inl (e _ _ h))
  · exact .inl (.inr ⟨o, e _ _ h⟩)
  · exact .inr h
end L2
namespace L2
open PySem PySem.Spec PyProof.Rows
end L2
namespace L2
open PySem PySem.Spec PyProof.Rows
section
variable (P : Program) (w : World)
end
section
variable {P : Program} {w : World} {H H' : Hp} {h h' : Heap} {a : Addr} {o : HO}
end
section
variable {P : Program} {w : World} {H : Hp} {h h' : Heap} {x e : Addr} {o' : HO}
end
section
variable {fs fs' ex ex' : List Addr} {H H1 H2 : Hp} {h h1 h2 h' : Heap} {a x e : Addr} {o : HO}
end
end L2
namespace L2
open PySem PySem.Spec PyProof.Rows
section
variable {X : Cx} {pins : List (Addr × Obj)} {σ : List (Option V)} {H H' : Hp} {s : Shared} {h' : Heap}
end
end L2
namespace L2
open PySem PySem.Spec PyProof.Rows
section
variable {X : Cx}
variable {a b : Expr} {ta tb : TE} {pos : Pos}
variable {tA tB' : TT} {rest : List Expr}
end
end L2
namespace L2
open PySem PySem.Spec PyProof.Rows
section
variable {X : Cx} {pins : List (Addr × Obj)} {σ : St} {H : Hp} {s : Shared} {a : Addr} {xs ys : List V}
end
section
variable {X : Cx} {pins : List (Addr × Obj)} {σ : St} {H : Hp} {s : Shared} {E : Value → Shared → Prop}
end
section
variable {X : Cx} {st : Stmt} {rest : List Stmt} {t u : TS} {e : Expr} {te : TE} {pos : Pos}
end
section
variable {X : Cx} {pos : Pos}
end
section
variable {X : Cx} {pos : Pos}
end
end L2
namespace L2
open PySem PySem.Spec PyProof.Rows
section
variable {X : Cx} {tg : Expr}
end
end L2
namespace L2
open PySem PySem.Spec PyProof.Rows
section
variable {X : Cx} {a b c : Expr} {ta tb tc : TE} {pos : Pos}
end
section
variable {X : Cx} {a b c : Expr} {ta tb tc : TE} {pos : Pos}
end
end L2
namespace L2
open PySem PySem.Spec PyProof.Rows
section
variable {prog : Program} {w : World} {A : Around} {E : Value → Shared → Prop} {s : Shared} {K : PySem.W.Frag} {x dx C f : Addr} {mA : Str → Option Value} {name : Str} {v : Value}
end
section
variable {P : Program} {w : World} {H H' : Hp} {h h' : Heap} {a C dx : Addr} {fs fs' : List (Str × V)}
end
section
variable {X : Cx} {pins : List (Addr × Obj)} {σ : St} {H : Hp} {s : Shared} {a C dx : Addr} {fs : List (Str × V)} {f : Str} {v : V} {A : Around} {E : Value → Shared → Prop}
end
section
variable {X : Cx} {o e value : Expr} {f : Str} {pos pos' tpos : Pos} {ta tv : TE}
end
section
variable {X : Cx} {pins : List (Addr × Obj)} {σ : St} {H : Hp} {s : Shared} {A : Around} {E : Value → Shared → Prop} {Q : Value → Shared → Prop} {c : Value} {b : Bool}
end
end L2
namespace L2
open PySem PySem.Spec PyProof.Rows
section
variable {X : Cx} {e : Expr} {es : List Expr} {te : TE} {t : TA} {pos : Pos}
end
section
variable {X : Cx} {pins : List (Addr × Obj)} {σ : St} {H : Hp} {s s' : Shared}
end
section
variable {X : Cx} {CX : CXT} {k : Nat} {f C : Addr} {fd : FuncData} {ps : List Str} {sp : Sp} {dvs : List V} {ds : List Value} {E : XK} {x m : Str} {p pos apos : Pos} {e o : Expr} {es : List Expr} {ta : TE} {t : TA}
end
section
variable {X : Cx} {CX : CXT} {k : Nat} {f C : Addr} {fd : FuncData} {ps ks : List Str} {sp : Sp} {E : XK} {x m : Str} {p pos apos kpos : Pos} {e o : Expr} {es : List Expr} {kws : List Keyword} {te ta : TE} {t tk : TA} {nm : Option Str}
variable {g : List Value → List Value → List Value} {gV : List V → List V → List V}
end
end L2
namespace L2
open PySem PySem.Spec PyProof.Rows
section
variable {X : Cx} {x : Str} {p pos : Pos} {e : Expr} {es : List Expr} {t : TA} {id T : String} {r : List V → Hp → VK → Prop}
end
end L2
namespace L2
open PySem PySem.Spec PyProof.Rows
section
variable {κ : Type} [DecidableEq κ]
def valV (kvs : List (κ × V)) (k : κ) : Option V := (kvs.find? fun kv => decide (kv.1 = k)).map (·.2)
def putK (kvs : List (κ × V)) (k : κ) (v : V) : List (κ × V) :=
  if (kvs.any fun kv => decide (kv.1 = k)) = true then kvs.map (fun kv => if kv.1 = k then (kv.1, v) else kv) else kvs ++ [(k, v)]
def dropK (kvs : List (κ × V)) (k : κ) : List (κ × V) := kvs.filter fun kv => decide (kv.1 ≠ k)
theorem valV_pos {p : κ × V} {r : List (κ × V)} {k : κ} (e : p.1 = k) : valV (p :: r) k = some p.2 := by simp [valV, List.find?_cons, e]
theorem valV_neg {p : κ × V} {r : List (κ × V)} {k : κ} (e : ¬ p.1 = k) : valV (p :: r) k = valV r k := by simp [valV, List.find?_cons, e]
theorem RelO.getD {o : Option V} {u : Option Value} {d : V} {d' : Value} (r : RelO o u) (rd : RelV d d') : RelV (o.getD d) (u.getD d') := by
  cases o with
  | none => cases u with
    | none => exact rd
    | some _ => exact (show False from r).elim
  | some _ => cases u with
    | none => exact (show False from r).elim
    | some _ => exact r
theorem KV.val {kvs : List (κ × V)} {vs : List (κ × Value)} (r : KV kvs vs) (k : κ) : RelO (valV kvs k) (valueAt vs k) := by
  unfold KV at r
  induction r with
  | nil => exact True.intro
  | @cons p q ps qs h t ih =>
    obtain ⟨h1, h2⟩ := h
    by_cases e : p.1 = k
    · have e' : q.1 = k := h1.symm.trans e
      have b : valueAt (q :: qs) k = some q.2 := by simp [valueAt, List.find?_cons, e']
      rw [valV_pos e, b]; exact h2
    · have e' : ¬ q.1 = k := fun z => e (h1.trans z)
      have b : valueAt (q :: qs) k = valueAt qs k := by simp [valueAt, List.find?_cons, e']
      rw [valV_neg e, b]; exact ih
theorem KV.any {kvs : List (κ × V)} {vs : List (κ × Value)} (r : KV kvs vs) (k : κ) : (kvs.any fun kv => decide (kv.1 = k)) = vs.any fun kv => decide (kv.1 = k) := by
  unfold KV at r
  induction r with
  | nil => rfl
  | cons h t ih => rw [List.any_cons, List.any_cons, ih, h.1]
theorem KV.repl {kvs : List (κ × V)} {vs : List (κ × Value)} (r : KV kvs vs) (k : κ) {y : V} {u : Value} (ry : RelV y u) :
    KV (kvs.map fun kv => if kv.1 = k then (kv.1, y) else kv) (vs.map fun kv => if kv.1 = k then (kv.1, u) else kv) := by
  unfold KV at r ⊢
  induction r with
  | nil => exact .nil
  | @cons p q ps qs h t ih =>
    rw [List.map_cons, List.map_cons]
    refine .cons ?_ ih
    obtain ⟨h1, h2⟩ := h
    by_cases e : p.1 = k
    · rw [if_pos e, if_pos (h1.symm.trans e)]; exact ⟨h1, ry⟩
    · rw [if_neg e, if_neg (fun z => e (h1.trans z))]; exact ⟨h1, h2⟩
theorem KV.drop {kvs : List (κ × V)} {vs : List (κ × Value)} (r : KV kvs vs) (k : κ) : KV (dropK kvs k) (without vs k) := by
  unfold KV at r ⊢
  unfold dropK without
  induction r with
  | nil => exact .nil
  | @cons p q ps qs h t ih =>
    obtain ⟨h1, h2⟩ := h
    rw [List.filter_cons, List.filter_cons]
    by_cases e : p.1 = k
    · have a : ¬ decide (p.1 ≠ k) = true := by simp [e]
      have b : ¬ decide (q.1 ≠ k) = true := by simp [h1.symm.trans e]
      rw [if_neg a, if_neg b]; exact ih
    · have e' : ¬ q.1 = k := fun z => e (h1.trans z)
      have a : decide (p.1 ≠ k) = true := by simp [e]
      have b : decide (q.1 ≠ k) = true := by simp [e']
      rw [if_pos a, if_pos b]; exact .cons ⟨h1, h2⟩ ih
theorem KV.keys {kvs : List (κ × V)} {vs : List (κ × Value)} (r : KV kvs vs) : kvs.map (·.1) = vs.map (·.1) := by
  unfold KV at r
  induction r with
  | nil => rfl
  | cons h t ih => rw [List.map_cons, List.map_cons, ih, h.1]
theorem KV.length {kvs : List (κ × V)} {vs : List (κ × Value)} (r : KV kvs vs) : kvs.length = vs.length := Paired.length r
end
abbrev KT (H : Hp) : List (List Key × V) → List (List Key × Addr × Value) → Prop := Paired fun p q => p.1 = q.1 ∧ H q.2.1 = some (.tup (p.1.map kV)) ∧ RelV p.2 q.2.2
theorem KT.val {H : Hp} {kvs : List (List Key × V)} {xs : List (List Key × Addr × Value)} (r : KT H kvs xs) (k : List Key) : RelO (valV kvs k) ((atKey xs k).map (·.2)) := by
  induction r with
  | nil => exact True.intro
  | @cons p q ps qs h t ih =>
    obtain ⟨h1, _, h2⟩ := h
    by_cases e : p.1 = k
    · have e' : q.1 = k := h1.symm.trans e
      have b : atKey (q :: qs) k = some q.2 := by simp [atKey, List.find?_cons, e']
      rw [valV_pos e, b]; exact h2
    · have e' : ¬ q.1 = k := fun z => e (h1.trans z)
      have b : atKey (q :: qs) k = atKey qs k := by simp [atKey, List.find?_cons, e']
      rw [valV_neg e, b]; exact ih
theorem KT.repl {H : Hp} {kvs : List (List Key × V)} {xs : List (List Key × Addr × Value)} (r : KT H kvs xs) (k : List Key) {y : V} {u : Value} (ry : RelV y u) :
    KT H (kvs.map fun kv => if kv.1 = k then (kv.1, y) else kv) (xs.map (putAt k u)) := by
  induction r with
  | nil => exact .nil
  | @cons p q ps qs h t ih =>
    rw [List.map_cons, List.map_cons]
    refine .cons ?_ ih
    obtain ⟨h1, h2, h3⟩ := h
    unfold putAt
    by_cases e : p.1 = k
    · rw [if_pos e, if_pos (h1.symm.trans e)]; exact ⟨h1, h2, ry⟩
    · rw [if_neg e, if_neg (fun z => e (h1.trans z))]; exact ⟨h1, h2, h3⟩
theorem KT.keeps {H H' : Hp} {kvs : List (List Key × V)} {xs : List (List Key × Addr × Value)} (r : KT H kvs xs) (ht : ∀ b ys, H b = some (.tup ys) → H' b = some (.tup ys)) : KT H' kvs xs :=
  Paired.mapP r fun _ _ z => ⟨z.1, ht _ _ z.2.1, z.2.2⟩
section
variable {P : Program} {w : World} {H : Hp} {h : Heap} {a : Addr}
end
def DGet (H : Hp) (a : Addr) (y : V) (r : Option V) : Prop :=
  (∃ kvs k, Rd H a (.dK kvs) ∧ y = kV k ∧ r = valV kvs k) ∨ ∃ kvs k b, Rd H a (.dT kvs) ∧ y = .ref b ∧ H b = some (.tup (k.map kV)) ∧ r = valV kvs k
def DPut (H : Hp) (a : Addr) (y v : V) (H' : Hp) : Prop :=
  (∃ kvs k, H a = some (.dK kvs) ∧ y = kV k ∧ kvs.length < sizeLine ∧ H' = upd H a (.dK (putK kvs k v))) ∨
  ∃ kvs k b, H a = some (.dT kvs) ∧ y = .ref b ∧ H b = some (.tup (k.map kV)) ∧ kvs.length < sizeLine ∧ H' = upd H a (.dT (putK kvs k v))
theorem DGet.k {H : Hp} {a : Addr} {kvs : List (Key × V)} {k : Key} (e : H a = some (.dK kvs)) : DGet H a (kV k) (valV kvs k) := .inl ⟨kvs, k, .inl e, rfl, rfl⟩
theorem DGet.t {H : Hp} {a b : Addr} {kvs : List (List Key × V)} {k : List Key} (e : H a = some (.dT kvs)) (eb : H b = some (.tup (k.map kV))) : DGet H a (.ref b) (valV kvs k) := .inr ⟨kvs, k, b, .inl e, rfl, eb, rfl⟩
theorem DPut.k {H : Hp} {a : Addr} {kvs : List (Key × V)} {k : Key} {v : V} (e : H a = some (.dK kvs)) (hl : kvs.length < sizeLine) : DPut H a (kV k) v (upd H a (.dK (putK kvs k v))) := .inl ⟨kvs, k, e, rfl, hl, rfl⟩
theorem DPut.t {H : Hp} {a b : Addr} {kvs : List (List Key × V)} {k : List Key} {v : V} (e : H a = some (.dT kvs)) (eb : H b = some (.tup (k.map kV))) (hl : kvs.length < sizeLine) :
    DPut H a (.ref b) v (upd H a (.dT (putK kvs k v))) := .inr ⟨kvs, k, b, e, rfl, eb, hl, rfl⟩
section
variable {X : Cx} {pins : List (Addr × Obj)} {σ : St} {H : Hp} {s : Shared} {a : Addr} {y v : V} {u r : Value} {o : Option V} {A : Around} {E : Value → Shared → Prop}
end
section
variable {X : Cx} {pins : List (Addr × Obj)} {σ : St} {H : Hp} {s : Shared} {a : Addr} {kvs : List (Key × V)} {k : Key} {u : Value} {A : Around} {E : Value → Shared → Prop}
end
section
variable {X : Cx} {o i e value : Expr} {pos pos' tpos : Pos} {td ty tv : TE}
end
section
variable {X : Cx} {pos : Pos}
end
section
variable {X : Cx} {pins : List (Addr × Obj)} {σ : St} {H : Hp} {s : Shared} {a : Addr} {y d : V} {u r : Value} {o : Option V} {A : Around} {E : Value → Shared → Prop}
end
section
variable {X : Cx} {o e f : Expr} {apos cpos : Pos} {td ty tx : TE}
end
section
variable {X : Cx} {pins : List (Addr × Obj)} {σ : St} {H : Hp} {s : Shared} {a : Addr} {kvs : List (Key × V)} {A : Around} {E : Value → Shared → Prop}
end
section
variable {X : Cx} {pins : List (Addr × Obj)} {σ : St} {H : Hp} {s : Shared} {a : Addr} {y : V} {u : Value} {A : Around} {E : Value → Shared → Prop}
end
end L2
set_option Elab.async false
set_option linter.all false
set_option maxRecDepth 100000
set_option maxHeartbeats 4000000
namespace Mth
def gc (t b : Int) : Int := (Int.gcd t b : Int)
theorem gc_pos {t b : Int} (h : 0 < b) : 0 < gc t b := by
  unfold gc
  have : 0 < Int.gcd t b := Int.gcd_pos_of_ne_zero_right t (by omega)
  omega
theorem gc_step {t b : Int} : gc b (t % b) = gc t b := by
  unfold gc
  have h : t % b = t + (-(t / b)) * b := by
    have := Int.emod_add_mul_ediv t b
    grind
  rw [h, Int.gcd_add_mul_right_right, Int.gcd_comm]
theorem gc_zero {t : Int} (h : 0 ≤ t) : gc t 0 = t := by
  unfold gc
  rw [Int.gcd_zero_right]; omega
theorem gc_dvd_l {t b : Int} : gc t b ∣ t := Int.gcd_dvd_left t b
theorem gc_dvd_r {t b : Int} : gc t b ∣ b := Int.gcd_dvd_right t b
theorem gc_le {t b : Int} (h : 0 < b) : gc t b ≤ b := Int.le_of_dvd h gc_dvd_r
theorem gc_abs {t b : Int} : gc (t.natAbs : Int) b = gc t b := by
  unfold gc; simp [Int.gcd]
def rd (t b : Int) : Int × Int := (t / gc t b, b / gc t b)
structure Lo (a b : Int) : Prop where
  pos : 0 < b
  one : gc a b = 1
theorem rd_l {t b : Int} : (rd t b).1 * gc t b = t := Int.ediv_mul_cancel gc_dvd_l
theorem rd_r {t b : Int} : (rd t b).2 * gc t b = b := Int.ediv_mul_cancel gc_dvd_r
theorem rd_lo {t b : Int} (h : 0 < b) : Lo (rd t b).1 (rd t b).2 := by
  have hg := gc_pos (t := t) h
  constructor
  · have e := rd_r (t := t) (b := b)
    have : 0 < (rd t b).2 * gc t b := by omega
    exact Int.pos_of_mul_pos_left this hg
  · unfold gc rd
    simp only
    have := Int.gcd_ediv_gcd_ediv_gcd (i := t) (j := b) (by unfold gc at hg; omega)
    unfold gc
    rw [this]; rfl
theorem rd_cross {t b : Int} : (rd t b).1 * b = t * (rd t b).2 := by
  have e1 := rd_l (t := t) (b := b)
  have e2 := rd_r (t := t) (b := b)
  generalize (rd t b).1 = x at *
  generalize (rd t b).2 = y at *
  generalize gc t b = g at *
  subst e1 e2
  grind
theorem Lo.ext {a b c d : Int} (h : Lo a b) (k : Lo c d) (e : a * d = c * b) : a = c ∧ b = d := by
  have hb := h.pos
  have hd := k.pos
  have h1 : b ∣ d := by
    have : b ∣ a * d := ⟨c, by rw [e, Int.mul_comm]⟩
    have hg : Int.gcd b a = 1 := by have := h.one; unfold gc at this; rw [Int.gcd_comm]; omega
    have h3 := Int.dvd_gcd_mul_iff_dvd_mul.mpr this
    rw [hg] at h3
    simpa using h3
  have h2 : d ∣ b := by
    have : d ∣ c * b := ⟨a, by rw [← e, Int.mul_comm]⟩
    have hg : Int.gcd d c = 1 := by have := k.one; unfold gc at this; rw [Int.gcd_comm]; omega
    have h3 := Int.dvd_gcd_mul_iff_dvd_mul.mpr this
    rw [hg] at h3
    simpa using h3
  have hbd : b = d := Int.le_antisymm (Int.le_of_dvd hd h1) (Int.le_of_dvd hb h2)
  subst hbd
  exact ⟨Int.eq_of_mul_eq_mul_right (by omega) e, rfl⟩
theorem rd_eq {t b a c : Int} (h : 0 < b) (k : Lo a c) (e : t * c = a * b) : rd t b = (a, c) := by
  have x := (rd_lo (t := t) h).ext k (by
    have e1 := rd_l (t := t) (b := b)
    have e2 := rd_r (t := t) (b := b)
    have hg := gc_pos (t := t) h
    generalize (rd t b).1 = x at *
    generalize (rd t b).2 = y at *
    generalize gc t b = g at *
    have : g * (x * c) = g * (a * y) := by grind
    exact Int.eq_of_mul_eq_mul_left (by omega) this)
  exact Prod.ext x.1 x.2
theorem rd_of_lo {a b : Int} (h : Lo a b) : rd a b = (a, b) := rd_eq h.pos h rfl
theorem rd_same {x y z w : Int} (h : 0 < y) (k : 0 < w) (e : x * w = z * y) : rd x y = rd z w := by
  have c := rd_cross (t := z) (b := w)
  refine rd_eq h (rd_lo k) ?_
  have : w * (x * (rd z w).2) = w * ((rd z w).1 * y) := by grind
  exact Int.eq_of_mul_eq_mul_left (by omega) this
def pl (p q : Int × Int) : Int × Int := rd (p.1 * q.2 + q.1 * p.2) (p.2 * q.2)
def mi (p q : Int × Int) : Int × Int := rd (p.1 * q.2 - q.1 * p.2) (p.2 * q.2)
def ti (p q : Int × Int) : Int × Int := rd (p.1 * q.1) (p.2 * q.2)
abbrev Lw (p : Int × Int) : Prop := Lo p.1 p.2
theorem rd_lw {t b : Int} (h : 0 < b) : Lw (rd t b) := rd_lo h
theorem pl_lw {p q : Int × Int} (h : 0 < p.2) (k : 0 < q.2) : Lw (pl p q) := rd_lo (Int.mul_pos h k)
theorem mi_lw {p q : Int × Int} (h : 0 < p.2) (k : 0 < q.2) : Lw (mi p q) := rd_lo (Int.mul_pos h k)
theorem ti_lw {p q : Int × Int} (h : 0 < p.2) (k : 0 < q.2) : Lw (ti p q) := rd_lo (Int.mul_pos h k)
theorem Lo.neg {a b : Int} (h : Lo a b) : Lo (-a) b := ⟨h.pos, by have := h.one; unfold gc at *; rw [Int.neg_gcd]; exact this⟩
theorem lo01 : Lo 0 1 := ⟨by decide, by decide⟩
def Sm (k : Nat) (x : Int) : Prop := x.natAbs < 2 ^ k
theorem Sm.mono {k l : Nat} {x : Int} (h : Sm k x) (e : k ≤ l) : Sm l x := Nat.lt_of_lt_of_le h (Nat.pow_le_pow_right (by decide) e)
theorem Sm.mul {k l : Nat} {x y : Int} (h : Sm k x) (g : Sm l y) : Sm (k + l) (x * y) := by
  unfold Sm at *
  rw [Int.natAbs_mul, Nat.pow_add]
  exact Nat.mul_lt_mul'' h g
theorem Sm.add {k : Nat} {x y : Int} (h : Sm k x) (g : Sm k y) : Sm (k + 1) (x + y) := by
  unfold Sm at *
  rw [Nat.pow_succ]; omega
theorem Sm.sub {k : Nat} {x y : Int} (h : Sm k x) (g : Sm k y) : Sm (k + 1) (x - y) := by
  unfold Sm at *
  rw [Nat.pow_succ]; omega
theorem Sm.neg {k : Nat} {x : Int} (h : Sm k x) : Sm k (-x) := by unfold Sm at *; omega
theorem Sm.of {k : Nat} {x : Int} (h : -(2 ^ k : Nat) < x) (g : x < (2 ^ k : Nat)) : Sm k x := by unfold Sm; omega
theorem Sm.div {k : Nat} {x g : Int} (h : Sm k x) (hg : 0 < g) (d : g ∣ x) : Sm k (x / g) := by
  obtain ⟨c, rfl⟩ := d
  rw [Int.mul_ediv_cancel_left _ (by omega)]
  unfold Sm at *
  rw [Int.natAbs_mul] at h
  have : 1 * c.natAbs ≤ g.natAbs * c.natAbs := Nat.mul_le_mul_right _ (by omega)
  omega
theorem rd_sm {k : Nat} {t b : Int} (hb : 0 < b) (h : Sm k t) (g : Sm k b) : Sm k (rd t b).1 ∧ Sm k (rd t b).2 :=
  ⟨h.div (gc_pos hb) gc_dvd_l, g.div (gc_pos hb) gc_dvd_r⟩
structure Fr (k : Nat) (p : Int × Int) : Prop where
  lw : Lw p
  s1 : Sm k p.1
  s2 : Sm k p.2
theorem Fr.mono {k l : Nat} {p : Int × Int} (h : Fr k p) (e : k ≤ l) : Fr l p := ⟨h.lw, h.s1.mono e, h.s2.mono e⟩
theorem Fr.pos {k : Nat} {p : Int × Int} (h : Fr k p) : 0 < p.2 := h.lw.pos
theorem Fr.pl {k : Nat} {p q : Int × Int} (h : Fr k p) (g : Fr k q) : Fr (k + k + 1) (pl p q) :=
  have z := rd_sm (k := k + k + 1) (Int.mul_pos h.pos g.pos) ((h.s1.mul g.s2).add (g.s1.mul h.s2)) ((h.s2.mul g.s2).mono (by omega))
  ⟨pl_lw h.pos g.pos, z.1, z.2⟩
theorem Fr.mi {k : Nat} {p q : Int × Int} (h : Fr k p) (g : Fr k q) : Fr (k + k + 1) (mi p q) :=
  have z := rd_sm (k := k + k + 1) (Int.mul_pos h.pos g.pos) ((h.s1.mul g.s2).sub (g.s1.mul h.s2)) ((h.s2.mul g.s2).mono (by omega))
  ⟨mi_lw h.pos g.pos, z.1, z.2⟩
theorem Fr.ti {k : Nat} {p q : Int × Int} (h : Fr k p) (g : Fr k q) : Fr (k + k + 1) (ti p q) :=
  have z := rd_sm (k := k + k + 1) (Int.mul_pos h.pos g.pos) ((h.s1.mul g.s1).mono (by omega)) ((h.s2.mul g.s2).mono (by omega))
  ⟨ti_lw h.pos g.pos, z.1, z.2⟩
theorem Fr.rd {k : Nat} {t b : Int} (h : 0 < b) (s : Sm k t) (g : Sm k b) : Fr k (rd t b) := ⟨rd_lw h, (rd_sm h s g).1, (rd_sm h s g).2⟩
def low (t b : Int) : Int × Int := if b < 0 then rd (-t) (-b) else rd t b
theorem low_pos {t b : Int} (h : 0 < b) : low t b = rd t b := by unfold low; rw [if_neg (by omega)]
end Mth
namespace Mth
abbrev Bn := Option (Int × Bool)
def kp (p : Int × Int) : Bn → Bool
  | none => true
  | some (n, true) => decide (p.1 * 1 < n * p.2)
  | some (n, false) => !decide (n * p.2 < p.1 * 1)
def bs : Bn → Bn → Bn
  | some (n, s), some (m, t) => some (n + m, s || t)
  | _, _ => none
def Kp (p : Int × Int) : Bn → Prop
  | none => True
  | some (n, true) => p.1 < n * p.2
  | some (n, false) => p.1 ≤ n * p.2
theorem kp_iff {p : Int × Int} {b : Bn} : kp p b = true ↔ Kp p b := by
  rcases b with _ | ⟨n, _ | _⟩
  · simp [kp, Kp]
  · simp [kp, Kp]
  · simp [kp, Kp]
theorem Kp.rd {t b : Int} (h : 0 < b) {c : Bn} (k : Kp (t, b) c) : Kp (rd t b) c := by
  have e := rd_cross (t := t) (b := b)
  have l := (rd_lo (t := t) h).pos
  generalize Mth.rd t b = p at *
  rcases c with _ | ⟨n, _ | _⟩
  · trivial
  · show p.1 ≤ n * p.2
    have k' : t ≤ n * b := k
    have h1 : p.1 * b ≤ (n * p.2) * b := by
      have : t * p.2 ≤ (n * b) * p.2 := Int.mul_le_mul_of_nonneg_right k' (by omega)
      calc p.1 * b = t * p.2 := e
        _ ≤ (n * b) * p.2 := this
        _ = (n * p.2) * b := by grind
    exact Int.le_of_mul_le_mul_right h1 h
  · show p.1 < n * p.2
    have k' : t < n * b := k
    have h1 : p.1 * b < (n * p.2) * b := by
      have : t * p.2 < (n * b) * p.2 := Int.mul_lt_mul_of_pos_right k' l
      calc p.1 * b = t * p.2 := e
        _ < (n * b) * p.2 := this
        _ = (n * p.2) * b := by grind
    exact Int.lt_of_mul_lt_mul_right h1 (by omega)
theorem Kp.sum {p q : Int × Int} {a b : Bn} (hp : 0 < p.2) (hq : 0 < q.2) (h : Kp p a) (k : Kp q b) : Kp (p.1 * q.2 + q.1 * p.2, p.2 * q.2) (bs a b) := by
  rcases a with _ | ⟨n, s⟩
  · trivial
  rcases b with _ | ⟨m, t⟩
  · cases s <;> trivial
  have e1 : (n + m) * (p.2 * q.2) = (n * p.2) * q.2 + (m * q.2) * p.2 := by grind
  cases s <;> cases t
  · show p.1 * q.2 + q.1 * p.2 ≤ (n + m) * (p.2 * q.2)
    have h1 : p.1 ≤ n * p.2 := h
    have k1 : q.1 ≤ m * q.2 := k
    have a1 := Int.mul_le_mul_of_nonneg_right h1 (show 0 ≤ q.2 by omega)
    have a2 := Int.mul_le_mul_of_nonneg_right k1 (show 0 ≤ p.2 by omega)
    omega
  · show p.1 * q.2 + q.1 * p.2 < (n + m) * (p.2 * q.2)
    have h1 : p.1 ≤ n * p.2 := h
    have k1 : q.1 < m * q.2 := k
    have a1 := Int.mul_le_mul_of_nonneg_right h1 (show 0 ≤ q.2 by omega)
    have a2 := Int.mul_lt_mul_of_pos_right k1 hp
    omega
  · show p.1 * q.2 + q.1 * p.2 < (n + m) * (p.2 * q.2)
    have h1 : p.1 < n * p.2 := h
    have k1 : q.1 ≤ m * q.2 := k
    have a1 := Int.mul_lt_mul_of_pos_right h1 hq
    have a2 := Int.mul_le_mul_of_nonneg_right k1 (show 0 ≤ p.2 by omega)
    omega
  · show p.1 * q.2 + q.1 * p.2 < (n + m) * (p.2 * q.2)
    have h1 : p.1 < n * p.2 := h
    have k1 : q.1 < m * q.2 := k
    have a1 := Int.mul_lt_mul_of_pos_right h1 hq
    have a2 := Int.mul_lt_mul_of_pos_right k1 hp
    omega
theorem pl_rd {t b u c : Int} (h : 0 < b) (k : 0 < c) : pl (rd t b) (rd u c) = rd (t * c + u * b) (b * c) := by
  have e := rd_cross (t := t) (b := b)
  have f := rd_cross (t := u) (b := c)
  have l := (rd_lo (t := t) h).pos
  have m := (rd_lo (t := u) k).pos
  show rd ((rd t b).1 * (rd u c).2 + (rd u c).1 * (rd t b).2) ((rd t b).2 * (rd u c).2) = _
  refine rd_same (Int.mul_pos l m) (Int.mul_pos h k) ?_
  generalize rd t b = p at *
  generalize rd u c = q at *
  grind
def b2 (s : Bool) : Int := if s then 1 else 0
def far (f : Int) (s : Bool) : Int := if f = 0 ∧ s = true then 1 else f
end Mth
namespace Mth
def tgt : Bn → Bn → Bool
  | none, _ => false
  | some _, none => true
  | some (n, s), some (m, t) => if n = m then s && !t else decide (n < m)
theorem tgt_ss (n m : Int) (s t : Bool) : tgt (some (n, s)) (some (m, t)) = if n = m then s && !t else decide (n < m) := rfl
theorem mul_lt_of {n m b : Int} (h : n < m) (hb : 0 < b) : n * b + b ≤ m * b := by
  have h1 : (n + 1) * b ≤ m * b := Int.mul_le_mul_of_nonneg_right (by omega) (by omega)
  have h2 : (n + 1) * b = n * b + b := by grind
  omega
theorem not_tgt_sub {a b : Bn} {p : Int × Int} (hp : 0 < p.2) (h : tgt a b = false) (k : Kp p b) : Kp p a := by
  rcases a with _ | ⟨n, s⟩
  · trivial
  rcases b with _ | ⟨m, t⟩
  · simp [tgt] at h
  rw [tgt_ss] at h
  by_cases e : n = m
  · rw [if_pos e] at h
    subst e
    cases s <;> cases t <;> simp at h
    · exact k
    · exact Int.le_of_lt k
    · exact k
  · rw [if_neg e] at h
    have hl : ¬ n < m := of_decide_eq_false h
    have hm := mul_lt_of (show m < n by omega) hp
    cases s <;> cases t
    · have k' : p.1 ≤ m * p.2 := k
      show p.1 ≤ n * p.2
      omega
    · have k' : p.1 < m * p.2 := k
      show p.1 ≤ n * p.2
      omega
    · have k' : p.1 ≤ m * p.2 := k
      show p.1 < n * p.2
      omega
    · have k' : p.1 < m * p.2 := k
      show p.1 < n * p.2
      omega
def sel (a b : Bn) (p : Int × Int) : Bool := !kp p a && kp p b
def cnt (a b : Bn) (ps : List (Int × Int)) : Int := ((ps.filter (sel a b)).length : Nat)
theorem cnt_zero {a b : Bn} {ps : List (Int × Int)} (hp : ∀ p ∈ ps, 0 < p.2) (h : tgt a b = false) : cnt a b ps = 0 := by
  unfold cnt
  rw [List.filter_eq_nil_iff.mpr]
  · rfl
  · intro p hm hs
    unfold sel at hs
    rw [Bool.and_eq_true, Bool.not_eq_true'] at hs
    have k := not_tgt_sub (hp p hm) h (kp_iff.mp hs.2)
    rw [kp_iff.mpr k] at hs
    cases hs.1
theorem cnt_pos {a b : Bn} {ps : List (Int × Int)} {p : Int × Int} (hm : p ∈ ps) (hs : sel a b p = true) : 0 < cnt a b ps := by
  unfold cnt
  have : p ∈ ps.filter (sel a b) := List.mem_filter.mpr ⟨hm, hs⟩
  have := List.length_pos_of_mem this
  omega
def numOf : Bn → List Int
  | none => []
  | some (n, _) => [n]
def nums (a b : Bn) : List Int := 0 :: (numOf a ++ numOf b)
def five (n : Int) : List (Int × Int) := [(n, 1), (2 * n - 1, 2), (2 * n + 1, 2), (n + 1, 1), (n - 1, 1)]
def half : Bn → Bn → Int
  | none, none => 0 + 0
  | none, some (m, _) => m + 0
  | some (n, _), none => n + 0
  | some (n, _), some (m, _) => m + n
def tr (a b : Bn) : List (Int × Int) := (nums a b).flatMap five ++ [low (half a b) 2]
structure Wit (a b : Bn) (ps : List (Int × Int)) : Prop where
  pos : ∀ p ∈ ps, 0 < p.2
  l : tgt a b = true → ∃ p ∈ ps, sel a b p = true
  r : tgt b a = true → ∃ p ∈ ps, sel b a p = true
theorem Wit.first {a b : Bn} {ps : List (Int × Int)} (w : Wit a b ps) : decide (0 < cnt a b ps) = tgt a b := by
  cases h : tgt a b
  · rw [cnt_zero w.pos h]; rfl
  · obtain ⟨p, h1, h2⟩ := w.l h
    exact decide_eq_true (cnt_pos h1 h2)
theorem Wit.symm {a b : Bn} {ps : List (Int × Int)} (w : Wit a b ps) : Wit b a ps := ⟨w.pos, w.r, w.l⟩
end Mth
namespace Mth
theorem rd_pos {t b : Int} (h : 0 < b) : 0 < (rd t b).2 := (rd_lo (t := t) h).pos
theorem ti_rd {t b u c : Int} (h : 0 < b) (k : 0 < c) : ti (rd t b) (rd u c) = rd (t * u) (b * c) := by
  have e := rd_cross (t := t) (b := b)
  have f := rd_cross (t := u) (b := c)
  have l := rd_pos (t := t) h
  have m := rd_pos (t := u) k
  show rd ((rd t b).1 * (rd u c).1) ((rd t b).2 * (rd u c).2) = _
  refine rd_same (Int.mul_pos l m) (Int.mul_pos h k) ?_
  generalize rd t b = p at *
  generalize rd u c = q at *
  grind
def du (e p q : Int × Int) : Int × Int := rd (p.1 * (q.2 * p.2) * e.2 + e.1 * (q.1 * p.2 - p.1 * q.2) * p.2) (p.2 * (q.2 * p.2) * e.2)
theorem du_den {e p q : Int × Int} (he : 0 < e.2) (hp : 0 < p.2) (hq : 0 < q.2) : 0 < p.2 * (q.2 * p.2) * e.2 := Int.mul_pos (Int.mul_pos hp (Int.mul_pos hq hp)) he
theorem mx_du {e p q : Int × Int} (he : 0 < e.2) (hp : Lw p) (hq : Lw q) (_ : Lw e) : pl (ti (mi (1, 1) e) p) (ti e q) = du e p q := by
  have e1 : ti (mi (1, 1) e) p = rd ((1 * e.2 - e.1 * 1) * p.1) (1 * e.2 * p.2) := by
    have := ti_rd (t := 1 * e.2 - e.1 * 1) (b := 1 * e.2) (u := p.1) (c := p.2) (by omega) hp.pos
    rw [rd_of_lo hp] at this
    exact this
  have e2 : ti e q = rd (e.1 * q.1) (e.2 * q.2) := rfl
  have hb : 0 < 1 * e.2 * p.2 := Int.mul_pos (by omega) hp.pos
  have hc : 0 < e.2 * q.2 := Int.mul_pos he hq.pos
  rw [e1, e2, pl_rd hb hc]
  unfold du
  refine rd_same (Int.mul_pos hb hc) (du_den he hp.pos hq.pos) ?_
  grind
theorem du_zero {p q : Int × Int} (hp : Lw p) (hq : Lw q) : du (0, 1) p q = p := by
  unfold du
  refine rd_eq (du_den (e := (0, 1)) (by decide) hp.pos hq.pos) hp ?_
  grind
theorem du_one {p q : Int × Int} (hp : Lw p) (hq : Lw q) : du (1, 1) p q = q := by
  unfold du
  refine rd_eq (du_den (e := (1, 1)) (by decide) hp.pos hq.pos) hq ?_
  grind
theorem du_swap {e p q : Int × Int} (he : Lw e) (hp : Lw p) (hq : Lw q) : du (rd (e.2 - e.1) e.2) q p = du e p q := by
  have c := rd_cross (t := e.2 - e.1) (b := e.2)
  have l := rd_pos (t := e.2 - e.1) he.pos
  unfold du
  refine rd_same (du_den l hq.pos hp.pos) (du_den he.pos hp.pos hq.pos) ?_
  generalize rd (e.2 - e.1) e.2 = r at *
  grind
theorem kp_mid {b : Bn} {e x y : Int × Int} (he : 0 < e.2) (h0 : 0 ≤ e.1) (h1 : e.1 ≤ e.2) (hx : 0 < x.2) (hy : 0 < y.2) (kx : Kp x b) (ky : Kp y b) : Kp ((e.2 - e.1) * x.1 * y.2 + e.1 * y.1 * x.2, e.2 * x.2 * y.2) b := by
  rcases b with _ | ⟨n, s⟩
  · trivial
  have g0 : 0 ≤ e.2 - e.1 := by omega
  cases s with
  | false =>
    have a : x.1 ≤ n * x.2 := kx
    have c : y.1 ≤ n * y.2 := ky
    show (e.2 - e.1) * x.1 * y.2 + e.1 * y.1 * x.2 ≤ n * (e.2 * x.2 * y.2)
    have m1 := Int.mul_le_mul_of_nonneg_left a (Int.mul_nonneg g0 (Int.le_of_lt hy))
    have m2 := Int.mul_le_mul_of_nonneg_left c (Int.mul_nonneg h0 (Int.le_of_lt hx))
    have z1 : (e.2 - e.1) * y.2 * x.1 = (e.2 - e.1) * x.1 * y.2 := by grind
    have z2 : e.1 * x.2 * y.1 = e.1 * y.1 * x.2 := by grind
    have z3 : (e.2 - e.1) * y.2 * (n * x.2) + e.1 * x.2 * (n * y.2) = n * (e.2 * x.2 * y.2) := by grind
    omega
  | true =>
    have a : x.1 < n * x.2 := kx
    have c : y.1 < n * y.2 := ky
    show (e.2 - e.1) * x.1 * y.2 + e.1 * y.1 * x.2 < n * (e.2 * x.2 * y.2)
    have m1 := Int.mul_le_mul_of_nonneg_left (Int.le_of_lt a) (Int.mul_nonneg g0 (Int.le_of_lt hy))
    have m2 := Int.mul_le_mul_of_nonneg_left (Int.le_of_lt c) (Int.mul_nonneg h0 (Int.le_of_lt hx))
    have z1 : (e.2 - e.1) * y.2 * x.1 = (e.2 - e.1) * x.1 * y.2 := by grind
    have z2 : e.1 * x.2 * y.1 = e.1 * y.1 * x.2 := by grind
    have z3 : (e.2 - e.1) * y.2 * (n * x.2) + e.1 * x.2 * (n * y.2) = n * (e.2 * x.2 * y.2) := by grind
    by_cases h : 0 < e.1
    · have m3 := Int.mul_lt_mul_of_pos_left c (Int.mul_pos h hx)
      omega
    · have m3 := Int.mul_lt_mul_of_pos_left a (Int.mul_pos (show 0 < e.2 - e.1 by omega) hy)
      omega
theorem kp_of_rd {t b : Int} (h : 0 < b) {c : Bn} (k : Kp (rd t b) c) : Kp (t, b) c := by
  rcases c with _ | ⟨n, s⟩
  · trivial
  have l := rd_pos (t := t) h
  have e1 : (rd t b).1 * gc t b = t := rd_l
  have e2 : (rd t b).2 * gc t b = b := rd_r
  have g := gc_pos (t := t) h
  cases s with
  | false =>
    have a : (rd t b).1 ≤ n * (rd t b).2 := k
    show t ≤ n * b
    have := Int.mul_le_mul_of_nonneg_right a (Int.le_of_lt g)
    have z : n * (rd t b).2 * gc t b = n * b := by rw [Int.mul_assoc, e2]
    omega
  | true =>
    have a : (rd t b).1 < n * (rd t b).2 := k
    show t < n * b
    have := Int.mul_lt_mul_of_pos_right a g
    have z : n * (rd t b).2 * gc t b = n * b := by rw [Int.mul_assoc, e2]
    omega
theorem kp_du {b : Bn} {e p q u v : Int × Int} (he : Lw e) (h0 : 0 ≤ e.1) (h1 : e.1 ≤ e.2) (hp : Lw p) (hq : Lw q) (hu : Lw u) (hv : Lw v) (k1 : kp (mi p u) b = true) (k2 : kp (mi q v) b = true) : kp (mi (du e p q) (du e u v)) b = true := by
  rw [kp_iff] at *
  have hx : 0 < p.2 * u.2 := Int.mul_pos hp.pos hu.pos
  have hy : 0 < q.2 * v.2 := Int.mul_pos hq.pos hv.pos
  have a := kp_of_rd hx k1
  have c := kp_of_rd hy k2
  have m := kp_mid (x := (p.1 * u.2 - u.1 * p.2, p.2 * u.2)) (y := (q.1 * v.2 - v.1 * q.2, q.2 * v.2)) he.pos h0 h1 hx hy a c
  have hd : 0 < e.2 * (p.2 * u.2) * (q.2 * v.2) := Int.mul_pos (Int.mul_pos he.pos hx) hy
  have z := Kp.rd hd m
  have c1 := rd_cross (t := p.1 * (q.2 * p.2) * e.2 + e.1 * (q.1 * p.2 - p.1 * q.2) * p.2) (b := p.2 * (q.2 * p.2) * e.2)
  have c2 := rd_cross (t := u.1 * (v.2 * u.2) * e.2 + e.1 * (v.1 * u.2 - u.1 * v.2) * u.2) (b := u.2 * (v.2 * u.2) * e.2)
  have l1 := rd_pos (t := p.1 * (q.2 * p.2) * e.2 + e.1 * (q.1 * p.2 - p.1 * q.2) * p.2) (du_den he.pos hp.pos hq.pos)
  have l2 := rd_pos (t := u.1 * (v.2 * u.2) * e.2 + e.1 * (v.1 * u.2 - u.1 * v.2) * u.2) (du_den he.pos hu.pos hv.pos)
  have eq : mi (du e p q) (du e u v) = rd ((e.2 - e.1) * (p.1 * u.2 - u.1 * p.2) * (q.2 * v.2) + e.1 * (q.1 * v.2 - v.1 * q.2) * (p.2 * u.2)) (e.2 * (p.2 * u.2) * (q.2 * v.2)) := by
    unfold mi du
    refine rd_same (Int.mul_pos l1 l2) hd ?_
    generalize rd (p.1 * (q.2 * p.2) * e.2 + e.1 * (q.1 * p.2 - p.1 * q.2) * p.2) (p.2 * (q.2 * p.2) * e.2) = x at *
    generalize rd (u.1 * (v.2 * u.2) * e.2 + e.1 * (v.1 * u.2 - u.1 * v.2) * u.2) (u.2 * (v.2 * u.2) * e.2) = y at *
    have hpe := hp.pos
    have hue := hu.pos
    have d1 : x.1 * (p.2 * q.2 * e.2) = (p.1 * q.2 * e.2 + e.1 * (q.1 * p.2 - p.1 * q.2)) * x.2 := by
      have : p.2 * (x.1 * (p.2 * q.2 * e.2)) = p.2 * ((p.1 * q.2 * e.2 + e.1 * (q.1 * p.2 - p.1 * q.2)) * x.2) := by grind
      exact Int.eq_of_mul_eq_mul_left (by omega) this
    have d2 : y.1 * (u.2 * v.2 * e.2) = (u.1 * v.2 * e.2 + e.1 * (v.1 * u.2 - u.1 * v.2)) * y.2 := by
      have : u.2 * (y.1 * (u.2 * v.2 * e.2)) = u.2 * ((u.1 * v.2 * e.2 + e.1 * (v.1 * u.2 - u.1 * v.2)) * y.2) := by grind
      exact Int.eq_of_mul_eq_mul_left (by omega) this
    clear c1 c2 z m a c
    have a1 : x.1 * y.2 * (e.2 * (p.2 * u.2) * (q.2 * v.2)) = (x.1 * (p.2 * q.2 * e.2)) * (y.2 * u.2 * v.2) := by grind
    have a2 : y.1 * x.2 * (e.2 * (p.2 * u.2) * (q.2 * v.2)) = (y.1 * (u.2 * v.2 * e.2)) * (x.2 * p.2 * q.2) := by grind
    rw [Int.sub_mul, a1, a2, d1, d2]
    grind
  rw [eq]
  exact z
end Mth
namespace Mth
theorem gc1_iff {a b : Int} : gc a b = 1 ↔ Nat.Coprime a.natAbs b.natAbs := by
  unfold gc Nat.Coprime
  rw [Int.gcd]
  omega
theorem gc1_comm {a b : Int} (h : gc a b = 1) : gc b a = 1 := by
  rw [gc1_iff] at *; exact h.symm
theorem gc1_mul {t a b : Int} (h : gc t a = 1) (k : gc t b = 1) : gc t (a * b) = 1 := by
  rw [gc1_iff] at *
  rw [Int.natAbs_mul]
  exact h.mul_right k
theorem gc1_dvd {t s a b : Int} (h : gc t a = 1) (k : s ∣ t) (l : b ∣ a) : gc s b = 1 := by
  rw [gc1_iff] at *
  exact Nat.Coprime.coprime_dvd_left (Int.natAbs_dvd_natAbs.mpr k) (Nat.Coprime.coprime_dvd_right (Int.natAbs_dvd_natAbs.mpr l) h)
theorem gc1_add {a b m : Int} (h : gc a b = 1) : gc (a + m * b) b = 1 := by
  unfold gc at *
  rw [Int.gcd_comm, Int.gcd_add_mul_right_right, Int.gcd_comm]
  exact h
theorem gc1_div {a b : Int} (h : 0 < b) : gc (a / gc a b) (b / gc a b) = 1 := (rd_lo (t := a) h).one
theorem dvd_div {d a : Int} (h : d ∣ a) : a / d ∣ a := ⟨d, (Int.ediv_mul_cancel h).symm⟩
def sm (a b c e : Int) : Int × Int :=
  ((a * (e / gc b e) + c * (b / gc b e)) / gc (a * (e / gc b e) + c * (b / gc b e)) (gc b e),
   b / gc b e * (e / gc (a * (e / gc b e) + c * (b / gc b e)) (gc b e)))
theorem sm_eq {a b c e : Int} (h : Lo a b) (k : Lo c e) : sm a b c e = rd (a * e + c * b) (b * e) := by
  have hb := h.pos
  have he := k.pos
  have hg := gc_pos (t := b) he
  have d1 : gc b e ∣ b := gc_dvd_l
  have d2 : gc b e ∣ e := gc_dvd_r
  have e1 := Int.ediv_mul_cancel d1
  have e2 := Int.ediv_mul_cancel d2
  have q := gc1_div (a := b) he
  have p1 := dvd_div d1
  have p2 := dvd_div d2
  unfold sm
  generalize hg' : gc b e = g at *
  generalize hP : b / g = P at *
  generalize hE : e / g = E at *
  generalize hT : a * E + c * P = T at *
  have hl := gc_pos (t := T) hg
  have l1 : gc T g ∣ T := gc_dvd_l
  have l2 : gc T g ∣ g := gc_dvd_r
  have l3 : gc T g ∣ e := Int.dvd_trans l2 d2
  have f1 := Int.ediv_mul_cancel l1
  have f2 := Int.ediv_mul_cancel l2
  have f3 := Int.ediv_mul_cancel l3
  have u := gc1_div (a := T) hg
  have tP : gc T P = 1 := by
    rw [← hT]
    refine gc1_add ?_
    have x1 : gc P a = 1 := gc1_dvd (gc1_comm h.one) p1 (Int.dvd_refl a)
    exact gc1_comm (gc1_mul x1 q)
  have tE : gc T E = 1 := by
    rw [← hT, Int.add_comm]
    refine gc1_add ?_
    have x1 : gc E c = 1 := gc1_dvd (gc1_comm k.one) p2 (Int.dvd_refl c)
    exact gc1_comm (gc1_mul x1 (gc1_comm q))
  have p3 := dvd_div l1
  generalize hl' : gc T g = l at *
  generalize hT' : T / l = T' at *
  generalize hG' : g / l = G' at *
  have ee : e / l = E * G' := by
    rw [← e2, ← f2]
    have : E * (G' * l) = E * G' * l := by grind
    rw [this, Int.mul_ediv_cancel _ (by omega)]
  rw [ee]
  have hP0 : 0 < P := by
    have : 0 < P * g := by omega
    exact Int.pos_of_mul_pos_left this hg
  have hE0 : 0 < E := by
    have : 0 < E * g := by omega
    exact Int.pos_of_mul_pos_left this hg
  have hG0 : 0 < G' := by
    have : 0 < G' * l := by omega
    exact Int.pos_of_mul_pos_left this hl
  refine (rd_eq (Int.mul_pos hb he) ⟨Int.mul_pos hP0 (Int.mul_pos hE0 hG0), ?_⟩ ?_).symm
  · exact gc1_mul (gc1_dvd tP p3 (Int.dvd_refl P)) (gc1_mul (gc1_dvd tE p3 (Int.dvd_refl E)) u)
  · have : a * e + c * b = T * g := by rw [← hT, ← e1, ← e2]; grind
    rw [this, ← f1, ← e1, ← e2]
    rw [← f2]
    grind
def tm (a b c e : Int) : Int × Int := (a / gc a e * (c / gc c b), b / gc c b * (e / gc a e))
theorem tm_eq {a b c e : Int} (h : Lo a b) (k : Lo c e) : tm a b c e = rd (a * c) (b * e) := by
  have hb := h.pos
  have he := k.pos
  have hf := gc_pos (t := a) he
  have hs := gc_pos (t := c) hb
  have a1 : gc a e ∣ a := gc_dvd_l
  have a2 : gc a e ∣ e := gc_dvd_r
  have b1 : gc c b ∣ c := gc_dvd_l
  have b2 : gc c b ∣ b := gc_dvd_r
  have u := gc1_div (a := a) he
  have v := gc1_div (a := c) hb
  have p1 := dvd_div a1
  have p2 := dvd_div a2
  have p3 := dvd_div b1
  have p4 := dvd_div b2
  have e1 := Int.ediv_mul_cancel a1
  have e2 := Int.ediv_mul_cancel a2
  have e3 := Int.ediv_mul_cancel b1
  have e4 := Int.ediv_mul_cancel b2
  unfold tm
  generalize gc a e = f at *
  generalize gc c b = s at *
  generalize a / f = A at *
  generalize e / f = E at *
  generalize c / s = C at *
  generalize b / s = B at *
  have hE0 : 0 < E := by
    have : 0 < E * f := by omega
    exact Int.pos_of_mul_pos_left this hf
  have hB0 : 0 < B := by
    have : 0 < B * s := by omega
    exact Int.pos_of_mul_pos_left this hs
  refine (rd_eq (Int.mul_pos hb he) ⟨Int.mul_pos hB0 hE0, ?_⟩ ?_).symm
  · have x1 : gc A B = 1 := gc1_dvd h.one p1 p4
    have x2 : gc C E = 1 := gc1_dvd k.one p3 p2
    have y1 : gc A (B * E) = 1 := gc1_mul x1 u
    have y2 : gc C (B * E) = 1 := gc1_mul v x2
    exact gc1_comm (gc1_mul (gc1_comm y1) (gc1_comm y2))
  · rw [← e1, ← e2, ← e3, ← e4]; grind
theorem pl_sm {p q : Int × Int} (h : Lw p) (k : Lw q) : pl p q = sm p.1 p.2 q.1 q.2 := (sm_eq h k).symm
theorem mi_sm {p q : Int × Int} (h : Lw p) (k : Lw q) : mi p q = sm p.1 p.2 (-q.1) q.2 := by
  rw [sm_eq h (Lo.neg k)]
  unfold mi
  rw [Int.neg_mul, ← Int.sub_eq_add_neg]
theorem ti_tm {p q : Int × Int} (h : Lw p) (k : Lw q) : ti p q = tm p.1 p.2 q.1 q.2 := (tm_eq h k).symm
end Mth
namespace Dl
open PySem PySem.Spec PyProof.Rows L2
structure FlyB (P : Program) (w : World) (H H' : Hp) (s : Shared) (l : List Env) (B : Heap) (s' : Shared) : Prop where
  os : s'.os = s.os
  bare : AllBare s'.gens
  un : Un (frs l) [] H H' s.heap s'.heap
  hok : HOk P w H' B
  keepB : ∀ b o, s.heap.get? b = some o → H b = none → b ∉ frs l → B.get? b = some o
  thereB : ∀ b o, s.heap.get? b = some o → b ∉ frs l → ∃ o', B.get? b = some o'
def FlyX (P : Program) (w : World) (H H' : Hp) (s : Shared) (l : List Env) (x C : Addr) (s' : Shared) : Prop :=
  ∃ (B : Heap) (t : Addr), FlyB P w H H' s l B s' ∧ Heap.FlyingW B l x (.ref C) (.ref t) s'.heap
section
variable {P : Program} {w : World} {H H' : Hp} {s s' : Shared} {l : List Env} {B : Heap} {h' : Heap}
theorem FlyB.turn (F : FlyB P w H H' s l B s') (hf : s'.heap.FunFrames B l) (st : B.StaysIn h') (up : s'.heap.UpToSlots h') : FlyB P w H H' s l B { s' with heap := h' } where
  os := F.os
  bare := F.bare
  hok := F.hok
  keepB := F.keepB
  thereB := F.thereB
  un := by
    have sl : ∀ b o, s.heap.get? b = some o → H b = none → b ∈ frs l → ∃ sl, h'.get? b = some { o with slots := sl } := fun b o e n hb => by
      obtain ⟨sl, e1⟩ := F.un.slot b o e n hb (by simp)
      obtain ⟨_, o2, ho2, hd⟩ := hf.mem hb
      rw [e1] at ho2
      cases ho2
      obtain ⟨sl2, e2⟩ := up b _ e1 hd
      exact ⟨sl2, e2⟩
    refine ⟨fun b o e n hb _ => st b o (F.keepB b o e n hb), fun b o e n hb _ => sl b o e n hb, F.un.free, fun b o e _ => ?_, F.un.tups, F.un.frzs, F.un.tbls⟩
    by_cases hb : b ∈ frs l
    · obtain ⟨o1, e1⟩ := F.un.there b o e (by simp)
      obtain ⟨_, o2, ho2, hd⟩ := hf.mem hb
      obtain ⟨sl2, e2⟩ := up b _ ho2 hd
      exact ⟨_, e2⟩
    · obtain ⟨o1, e1⟩ := F.thereB b o e hb
      exact ⟨o1, st b o1 e1⟩
end
def XMade (X : Cx) (C : Addr) (σ : L2.St) (H : Hp) : Prop := ∀ (pins : List (Addr × Obj)) (s : Shared) (h' : Heap) (e : Addr) (vs : List Value), L2.Inv X pins σ H s → Heap.MadeExcOf s.heap h' e (.ref C) vs → X.xe (.ref e) { s with heap := h' }
def XFly (X : Cx) (C : Addr) (σ : L2.St) (H : Hp) : Prop := ∀ (pins : List (Addr × Obj)) (H₀ : Hp) (s : Shared) (x : Addr) (s' : Shared), L2.Inv X pins σ H₀ s → FlyX X.prog X.w H₀ H s X.stack x C s' → X.xe (.ref x) s'
section
variable {P : Program} {w : World} {K : PySem.W.Frag} {mg : Str → Option Value} {base : Heap} {N : List Str} {qual : Str} {scope : Scope} {f : Addr} {cd : Value} {A : Around} {outer : List Env} {s : Shared} {H : Hp} {E : XK}
end
end Dl
namespace Dl
open PySem PySem.Spec PyProof.Rows L2
inductive D where
  | non
  | bl (b : Bool)
  | int (i : Int)
  | str (x : Str)
  | tup (ds : List D)
  | lst (ds : List D)
  | seq (ds : List D)
  | ty (n : String)
  | dct
  | exc (C : Addr)
  | cls (C : Addr)
  | ms (ks : List Int) (ds : List D)
  | mf (ks : List Int) (ds : List D)
  | md (ks : List Int) (ds : List D)
def DctO (a : Addr) : HO := .ext fun h => ∃ o, h.get? a = some o ∧ o.cls = .type "dict"
def ExcO (a C : Addr) : HO := .ext fun h => ∃ o vs, h.get? a = some o ∧ o.cls = .ref C ∧ o.data = .fields vs
mutual
inductive Rep (K : PySem.W.Frag) (H : Hp) : V → D → Prop
  | non : Rep K H .non .non
  | bl (b : Bool) : Rep K H (.bl b) (.bl b)
  | int (i : Int) : Rep K H (.int i) (.int i)
  | str (x : Str) : Rep K H (.str x) (.str x)
  | ty (n : String) : Rep K H (.ty n) (.ty n)
  | tup {a : Addr} {vs : List V} {ds : List D} (h : SqT K H a vs) (r : Reps K H vs ds) : Rep K H (.ref a) (.tup ds)
  | lst {a : Addr} {vs : List V} {ds : List D} (h : H a = some (.lst vs)) (r : Reps K H vs ds) : Rep K H (.ref a) (.lst ds)
  | seq {a : Addr} {vs : List V} {ds : List D} (h : SqL K H a vs) (r : Reps K H vs ds) : Rep K H (.ref a) (.seq ds)
  | dct {a : Addr} (h : H a = some (DctO a)) : Rep K H (.ref a) .dct
  | exc {a C : Addr} (h : H a = some (ExcO a C)) : Rep K H (.ref a) (.exc C)
  | cls (C : Addr) : Rep K H (.ref C) (.cls C)
  | ms {a : Addr} {ks : List Int} {vs : List V} {ds : List D} (h : Rd H a (.dK ((ks.map Sum.inl).zip vs))) (l : ks.length = ds.length) (r : Reps K H vs ds) : Rep K H (.ref a) (.ms ks ds)
  | mf {a : Addr} {ks : List Int} {vs : List V} {ds : List D} (h : ∃ o, H a = some (.frz o (.dK ((ks.map Sum.inl).zip vs)))) (l : ks.length = ds.length) (r : Reps K H vs ds) : Rep K H (.ref a) (.mf ks ds)
  | md {a : Addr} {ks : List Int} {vs : List V} {ds : List D} (h : H a = some (.dK ((ks.map Sum.inl).zip vs))) (l : ks.length = ds.length) (r : Reps K H vs ds) : Rep K H (.ref a) (.md ks ds)
inductive Reps (K : PySem.W.Frag) (H : Hp) : List V → List D → Prop
  | nil : Reps K H [] []
  | cons {v : V} {d : D} {vs : List V} {ds : List D} (r : Rep K H v d) (t : Reps K H vs ds) : Reps K H (v :: vs) (d :: ds)
end
theorem sqT_same {K : PySem.W.Frag} {H H' : Hp} {a : Addr} {xs : List V} (e : Same H H') (h : SqT K H a xs) : SqT K H' a xs := by
  rcases h with (h | ⟨o, h⟩) | h
  · exact .inl (.inl (e _ _ h))
  · exact .inl (.inr ⟨o, e _ _ h⟩)
  · exact .inr h
mutual
theorem Rep.mono {K : PySem.W.Frag} {H H' : Hp} (e : Same H H') : ∀ {v : V} {d : D}, Rep K H v d → Rep K H' v d
  | _, _, .non => .non
  | _, _, .bl b => .bl b
  | _, _, .int i => .int i
  | _, _, .str x => .str x
  | _, _, .ty n => .ty n
  | _, _, .tup h r => .tup (sqT_same e h) (Reps.mono e r)
  | _, _, .lst h r => .lst (e _ _ h) (Reps.mono e r)
  | _, _, .seq h r => .seq (e.seq h) (Reps.mono e r)
  | _, _, .dct h => .dct (e _ _ h)
  | _, _, .exc h => .exc (e _ _ h)
  | _, _, .cls C => .cls C
  | _, _, .ms h l r => .ms (h.imp (e _ _) fun ⟨o, h⟩ => ⟨o, e _ _ h⟩) l (Reps.mono e r)
  | _, _, .mf ⟨o, h⟩ l r => .mf ⟨o, e _ _ h⟩ l (Reps.mono e r)
  | _, _, .md h l r => .md (e _ _ h) l (Reps.mono e r)
theorem Reps.mono {K : PySem.W.Frag} {H H' : Hp} (e : Same H H') : ∀ {vs : List V} {ds : List D}, Reps K H vs ds → Reps K H' vs ds
  | _, _, .nil => .nil
  | _, _, .cons r t => .cons (Rep.mono e r) (Reps.mono e t)
end
theorem Reps.length {K : PySem.W.Frag} {H : Hp} : ∀ {vs : List V} {ds : List D}, Reps K H vs ds → vs.length = ds.length
  | _, _, .nil => rfl
  | _, _, .cons _ t => congrArg (· + 1) (Reps.length t)
theorem Reps.get {K : PySem.W.Frag} {H : Hp} : ∀ {vs : List V} {ds : List D} {i : Nat} {d : D}, Reps K H vs ds → ds[i]? = some d → ∃ v, vs[i]? = some v ∧ Rep K H v d
  | _, _, _, _, .nil, e => by simp at e
  | _, _, 0, _, .cons r _, e => by simp at e; subst e; exact ⟨_, rfl, r⟩
  | _, _, i + 1, d, .cons _ t, e => by
    obtain ⟨v, h1, h2⟩ := Reps.get (i := i) (d := d) t (by simpa using e)
    exact ⟨v, by simpa using h1, h2⟩
theorem Reps.getV {K : PySem.W.Frag} {H : Hp} : ∀ {vs : List V} {ds : List D} {i : Nat} {v : V}, Reps K H vs ds → vs[i]? = some v → ∃ d, ds[i]? = some d ∧ Rep K H v d
  | _, _, _, _, .nil, e => by simp at e
  | _, _, 0, _, .cons r _, e => by simp at e; subst e; exact ⟨_, rfl, r⟩
  | _, _, i + 1, d, .cons _ t, e => by
    obtain ⟨v, h1, h2⟩ := Reps.getV (i := i) (v := d) t (by simpa using e)
    exact ⟨v, by simpa using h1, h2⟩
theorem Reps.append {K : PySem.W.Frag} {H : Hp} : ∀ {vs us : List V} {ds es : List D}, Reps K H vs ds → Reps K H us es → Reps K H (vs ++ us) (ds ++ es)
  | _, _, _, _, .nil, s => s
  | _, _, _, _, .cons r t, s => .cons r (Reps.append t s)
theorem Reps.take {K : PySem.W.Frag} {H : Hp} : ∀ {vs : List V} {ds : List D} (n : Nat), Reps K H vs ds → Reps K H (vs.take n) (ds.take n)
  | _, _, 0, _ => .nil
  | _, _, _ + 1, .nil => .nil
  | _, _, n + 1, .cons r t => .cons r (Reps.take n t)
theorem Reps.drop {K : PySem.W.Frag} {H : Hp} : ∀ {vs : List V} {ds : List D} (n : Nat), Reps K H vs ds → Reps K H (vs.drop n) (ds.drop n)
  | _, _, 0, r => r
  | _, _, _ + 1, .nil => .nil
  | _, _, n + 1, .cons _ t => Reps.drop n t
theorem Reps.ints {K : PySem.W.Frag} {H : Hp} : ∀ (ns : List Int), Reps K H (ns.map V.int) (ns.map D.int)
  | [] => .nil
  | n :: r => .cons (.int n) (Reps.ints r)
theorem Reps.atI {K : PySem.W.Frag} {H : Hp} {vs : List V} {ds : List D} {i : Int} {d : D} (r : Reps K H vs ds) (e : L2.atI ds i = some d) : ∃ v, L2.atI vs i = some v ∧ Rep K H v d := by
  unfold L2.atI at e ⊢
  rw [← r.length] at e
  obtain ⟨j, h1, h2⟩ := Option.bind_eq_some_iff.mp e
  obtain ⟨v, h3, h4⟩ := r.get h2
  exact ⟨v, by rw [h1]; exact h3, h4⟩
abbrev DS := List (Option D)
structure RepS (K : PySem.W.Frag) (H : Hp) (σ : L2.St) (δ : DS) : Prop where
  len : σ.length = δ.length
  val : ∀ (i : Nat) (d : D), δ[i]? = some (some d) → ∃ v, σ[i]? = some (some v) ∧ Rep K H v d
theorem RepS.mono {K : PySem.W.Frag} {H H' : Hp} {σ : L2.St} {δ : DS} (e : Same H H') (h : RepS K H σ δ) : RepS K H' σ δ :=
  ⟨h.len, fun i d q => let ⟨v, a, b⟩ := h.val i d q; ⟨v, a, b.mono e⟩⟩
theorem RepS.set {K : PySem.W.Frag} {H : Hp} {σ : L2.St} {δ : DS} {v : V} {d : D} (h : RepS K H σ δ) (i : Nat) (r : Rep K H v d) : RepS K H (σ.set i (some v)) (δ.set i (some d)) := by
  refine ⟨by rw [List.length_set, List.length_set]; exact h.len, fun j e q => ?_⟩
  have hl := h.len
  rw [List.getElem?_set] at q ⊢
  by_cases hj : i = j
  · subst hj
    rw [if_pos rfl] at q ⊢
    by_cases hi : i < δ.length
    · rw [if_pos hi] at q
      rw [if_pos (by omega)]
      have : d = e := by simpa using q
      subst this
      exact ⟨v, rfl, r⟩
    · rw [if_neg hi] at q; cases q
  · rw [if_neg hj] at q ⊢
    exact h.val j e q
theorem RepS.start {K : PySem.W.Frag} {H : Hp} {N : List Str} {vs : List V} {ds : List D} (r : Reps K H vs ds) : RepS K H (L2.start N vs) (ds.map some ++ List.replicate (N.length - ds.length) none) := by
  unfold L2.start
  refine ⟨by simp [r.length], fun i d q => ?_⟩
  have hi : i < ds.length := by
    by_cases hi : i < ds.length
    · exact hi
    · rw [List.getElem?_append_right (by simpa using hi), List.getElem?_replicate] at q
      split at q <;> cases q
  rw [List.getElem?_append_left (by simpa using hi), List.getElem?_map] at q
  obtain ⟨e, h1, h2⟩ := Option.map_eq_some_iff.mp q
  cases h2
  obtain ⟨v, h3, h4⟩ := r.get h1
  have hv : i < vs.length := by rw [r.length]; exact hi
  exact ⟨v, by rw [List.getElem?_append_left (by simpa using hv), List.getElem?_map, h3]; rfl, h4⟩
abbrev FD := DS → Option D
def up (K : PySem.W.Frag) (f : FD) : TE := fun σ H Q => ∃ δ d, RepS K H σ δ ∧ f δ = some d ∧ ∀ v H', Same H H' → Rep K H' v d → Q v H'
def PD (X : Cx) (e : Expr) (f : FD) : Prop := PE X e (up X.K f)
theorem imp {X : Cx} {e : Expr} {t t' : TE} (h : PE X e t) (w : ∀ σ H Q, t' σ H Q → t σ H Q) : PE X e t' := fun pins s σ H Q I q => h pins s σ H Q I (w σ H Q q)
theorem same_new {H : Hp} {p : Addr} (h : H p = none) (o : HO) : Same H (upd H p o) := fun b u q => by rw [upd_ne (ne_of_none q h)]; exact q
def fVar (i : Nat) : FD := fun δ => match δ[i]? with
  | some (some d) => some d
  | _ => none
def fC (d : D) : FD := fun _ => some d
def f2 (g : D → D → Option D) (fa fb : FD) : FD := fun δ => (fa δ).bind fun x => (fb δ).bind fun y => g x y
def f1 (g : D → Option D) (fa : FD) : FD := fun δ => (fa δ).bind g
section
variable {X : Cx} {a b e : Expr} {fa fb f : FD} {pos : Pos}
theorem pd_var (i : Nat) {x : Str} (hN : X.N[i]? = some x := by rfl) (hv : Vis X.env.scope x := by first | exact Or.inl rfl | exact Or.inr (Or.inl rfl) | exact Or.inr (Or.inr rfl)) (hd : (x == ("__debug__" : Str)) = false := by decide)
    (hcd : (x == ("__classdict__" : Str)) = false := by decide) : PD X (.Name x pos) (fVar i) :=
  imp (pe_var hN hv hd hcd) fun σ H Q ⟨δ, d, R, e, k⟩ => by
    unfold fVar at e
    split at e
    · rename_i d' h
      cases e
      obtain ⟨v, h1, h2⟩ := R.val i _ h
      exact ⟨v, h1, k v H (Same.refl H) h2⟩
    · cases e
theorem pd_int {i j} : PD X (.Constant (.int i) j pos) (fC (.int i)) := imp pe_int fun σ H Q ⟨δ, d, R, e, k⟩ => by cases e; exact k _ H (Same.refl H) (.int i)
theorem pd_bl {b j} : PD X (.Constant (.bool b) j pos) (fC (.bl b)) := imp pe_bl fun σ H Q ⟨δ, d, R, e, k⟩ => by cases e; exact k _ H (Same.refl H) (.bl b)
theorem pd_non {j} : PD X (.Constant .none j pos) (fC .non) := imp pe_non fun σ H Q ⟨δ, d, R, e, k⟩ => by cases e; exact k _ H (Same.refl H) .non
theorem pd_ty {x : Str} {n : String} (hg : Gl X x) (hm : X.mg x = none) (hv : bootBuiltins x = some (.type n)) (hn : x ≠ "__name__" := by decide) (hd : (x == ("__debug__" : Str)) = false := by decide) : PD X (.Name x pos) (fC (.ty n)) :=
  imp (pe_bltn (v := .ty n) hg hm hv rfl hn hd) fun σ H Q ⟨δ, d, R, e, k⟩ => by cases e; exact k _ H (Same.refl H) (.ty n)
def R2D (K : PySem.W.Frag) (r : R2) (g : D → D → Option D) : Prop :=
  ∀ (x y : V) (H : Hp) (Q : VK) (a b d : D), Rep K H x a → Rep K H y b → g a b = some d → (∀ w H', Same H H' → Rep K H' w d → Q w H') → r x y H Q
theorem imp2 {r : R2} {g : D → D → Option D} (hg : R2D X.K r g) {σ : L2.St} {H : Hp} {Q : VK} (h : up X.K (f2 g fa fb) σ H Q) : tOp r (up X.K fa) (up X.K fb) σ H Q := by
  obtain ⟨δ, d, R, e, k⟩ := h
  unfold f2 at e
  obtain ⟨x, ex, e⟩ := Option.bind_eq_some_iff.mp e
  obtain ⟨y, ey, e⟩ := Option.bind_eq_some_iff.mp e
  exact ⟨δ, x, R, ex, fun v H1 s1 r1 => ⟨δ, y, R.mono s1, ey, fun w H2 s2 r2 => hg v w H2 Q x y d (r1.mono s2) r2 e fun z H' s3 => k z H' ((s1.trans s2).trans s3)⟩⟩
theorem pd_op {op : Operator} {r : R2} {g : D → D → Option D} (ho : OpR X (binaryOp op) r) (hg : R2D X.K r g) (ha : PD X a fa) (hb : PD X b fb) : PD X (.BinOp a op b pos) (f2 g fa fb) :=
  imp (pe_op ho ha hb) fun _ _ _ => imp2 hg
theorem pd_cmp {op : CmpOp} {r : R2} {g : D → D → Option D} (ho : OpR X (compareOp op) r) (hg : R2D X.K r g) (ha : PD X a fa) (hb : PD X b fb) (hm : behindInMarks op b = false) : PD X (.Compare a [op] [b] pos) (f2 g fa fb) :=
  imp (pe_cmpR ho ha hb hm) fun _ _ _ => imp2 hg
theorem pd_ix0 {r : R2} {g : D → D → Option D} (hr : IxR X r) (hg : R2D X.K r g) (ha : PD X a fa) (hb : PD X b fb) (hs : PlainIx b) : PD X (.Subscript a b pos) (f2 g fa fb) :=
  imp (pe_ix hr ha hb hs) fun _ _ _ => imp2 hg
theorem R2D.or {K : PySem.W.Frag} {r r' : R2} {g g' : D → D → Option D} (h : R2D K r g) (h' : R2D K r' g') : R2D K (fun x y H Q => r x y H Q ∨ r' x y H Q) (fun a b => (g a b).or (g' a b)) := by
  intro x y H Q a b d ra rb e k
  cases q : g a b with
  | some z =>
    have e' : (g a b).or (g' a b) = some d := e
    rw [q] at e'
    cases e'
    exact .inl (h x y H Q a b _ ra rb q k)
  | none =>
    have e' : (g a b).or (g' a b) = some d := e
    rw [q] at e'
    exact .inr (h' x y H Q a b d ra rb e' k)
end
def Bd (x : Int) : Prop := x.natAbs < 2 ^ 9000
instance (x : Int) : Decidable (Bd x) := by unfold Bd; exact inferInstance
theorem Bd.bits {x : Int} (h : Bd x) : Builtin.Int.intBits x ≤ 2 ^ 20 := by
  have h' : x.natAbs < 2 ^ (2 ^ 20) := Nat.lt_of_lt_of_le h (Nat.pow_le_pow_right (by decide) (by decide))
  exact PySem.intBits_le_iff.mpr h'
theorem Bd.log {x : Int} (h : Bd x) (h0 : x ≠ 0) : x.natAbs.log2 < 9000 := (Nat.log2_lt (by omega)).mpr h
section
variable {X : Cx} {K : PySem.W.Frag}
def CMulB (i j : Int) : Prop := Bd i ∧ Bd j
theorem op_mulB : OpR X (binaryOp .Mult) (rI CMulB fun i j => .int (i * j)) := opI fun _ _ _ _ _ _ _ hc q => mul_int q (.of_bits hc.1.bits hc.2.bits)
def CDivB (_ j : Int) : Prop := 0 < j ∧ Bd j
theorem op_fdivB : OpR X (binaryOp .FloorDiv) (rI CDivB fun i j => .int (i / j)) := opI fun i j _ _ _ _ _ hc q => by
  have h1 : (0 : Int) < j := hc.1
  exact floordiv_int (by omega) (by rw [Int.fdiv_eq_ediv_of_nonneg i (by omega)]; exact q) (.inl (PyProof.noPylong_of_log2 (hc.2.log (by omega))))
def gI0 (g : Int → Int → D) : D → D → Option D
  | .int i, .int j => some (g i j)
  | _, _ => none
def gI (C : Int → Int → Prop) [∀ i j, Decidable (C i j)] (g : Int → Int → D) : D → D → Option D
  | .int i, .int j => if C i j then some (g i j) else none
  | _, _ => none
instance (i j : Int) : Decidable (CMulB i j) := by unfold CMulB; exact inferInstance
instance (i j : Int) : Decidable (CDivB i j) := by unfold CDivB; exact inferInstance
instance (i j : Int) : Decidable (CPow i j) := by unfold CPow; exact inferInstance
theorem r2_I0 {g : Int → Int → V} {g' : Int → Int → D} (h : ∀ H i j, Rep K H (g i j) (g' i j)) : R2D K (rI0 g) (gI0 g') := by
  intro x y H Q a b d ra rb e k
  cases ra with
  | int i =>
    cases rb with
    | int j => cases e; exact ⟨i, j, rfl, rfl, k _ H (Same.refl H) (h H i j)⟩
    | _ => cases e
  | _ => cases e
theorem r2_I {C : Int → Int → Prop} [∀ i j, Decidable (C i j)] {g : Int → Int → V} {g' : Int → Int → D} (h : ∀ H i j, Rep K H (g i j) (g' i j)) : R2D K (rI C g) (gI C g') := by
  intro x y H Q a b d ra rb e k
  cases ra with
  | int i =>
    cases rb with
    | int j =>
      have e' : (if C i j then some (g' i j) else none) = some d := e
      by_cases hc : C i j
      · rw [if_pos hc] at e'; cases e'; exact ⟨i, j, rfl, rfl, hc, k _ H (Same.refl H) (h H i j)⟩
      · rw [if_neg hc] at e'; cases e'
    | _ => cases e
  | _ => cases e
end
def gCat : D → D → Option D
  | .lst xs, .lst ys => if xs.length + ys.length ≤ 1000 then some (.lst (xs ++ ys)) else none
  | _, _ => none
theorem le_line {n : Nat} (h : n ≤ 1000) : n ≤ sizeLine := Nat.le_of_lt (small1000 h)
theorem r2_cat {K : PySem.W.Frag} : R2D K rCat gCat := by
  intro x y H Q a b d ra rb e k
  cases ra with
  | @lst p xs ds hp rp =>
    cases rb with
    | @lst q ys es hq rq =>
      have e' : (if ds.length + es.length ≤ 1000 then some (D.lst (ds ++ es)) else none) = some d := e
      by_cases hc : ds.length + es.length ≤ 1000
      · rw [if_pos hc] at e'; cases e'
        refine ⟨p, q, xs, ys, rfl, rfl, hp, hq, le_line (by rw [rp.length, rq.length]; exact hc), fun l hl => ?_⟩
        have s := same_new hl (.lst (xs ++ ys))
        exact k _ _ s (.lst upd_same ((rp.append rq).mono s))
      · rw [if_neg hc] at e'; cases e'
    | _ => cases e
  | _ => cases e
def gAdd : D → D → Option D := fun a b => (gI0 (fun i j => .int (i + j)) a b).or (gCat a b)
def gIx : D → D → Option D
  | .tup ds, .int i => L2.atI ds i
  | .lst ds, .int i => L2.atI ds i
  | .seq ds, .int i => L2.atI ds i
  | _, _ => none
theorem r2_ix {K : PySem.W.Frag} : R2D K (fun x y H Q => rIxL K x y H Q ∨ rIxT K x y H Q) gIx := by
  intro x y H Q a b d ra rb e k
  cases rb with
  | int i =>
    cases ra with
    | @tup p vs ds hp rp =>
      have e' : L2.atI ds i = some d := e
      obtain ⟨v, h1, h2⟩ := rp.atI e'
      exact .inr ⟨p, vs, i, v, rfl, rfl, hp, h1, k v H (Same.refl H) h2⟩
    | @lst p vs ds hp rp =>
      have e' : L2.atI ds i = some d := e
      obtain ⟨v, h1, h2⟩ := rp.atI e'
      exact .inl ⟨p, vs, i, v, rfl, rfl, SqL.of hp, h1, k v H (Same.refl H) h2⟩
    | @seq p vs ds hp rp =>
      have e' : L2.atI ds i = some d := e
      obtain ⟨v, h1, h2⟩ := rp.atI e'
      exact .inl ⟨p, vs, i, v, rfl, rfl, hp, h1, k v H (Same.refl H) h2⟩
    | _ => cases e
  | _ => cases ra <;> cases e
section
variable {X : Cx} {a b e : Expr} {fa fb f : FD} {pos : Pos}
theorem pd_add (ha : PD X a fa) (hb : PD X b fb) : PD X (.BinOp a .Add b pos) (f2 gAdd fa fb) := pd_op (op_add.or op_cat) ((r2_I0 fun _ _ _ => .int _).or r2_cat) ha hb
theorem pd_sub (ha : PD X a fa) (hb : PD X b fb) : PD X (.BinOp a .Sub b pos) (f2 (gI0 fun i j => .int (i - j)) fa fb) := pd_op op_sub (r2_I0 fun _ _ _ => .int _) ha hb
theorem pd_mul (ha : PD X a fa) (hb : PD X b fb) : PD X (.BinOp a .Mult b pos) (f2 (gI CMulB fun i j => .int (i * j)) fa fb) := pd_op op_mulB (r2_I fun _ _ _ => .int _) ha hb
theorem pd_fdiv (ha : PD X a fa) (hb : PD X b fb) : PD X (.BinOp a .FloorDiv b pos) (f2 (gI CDivB fun i j => .int (i / j)) fa fb) := pd_op op_fdivB (r2_I fun _ _ _ => .int _) ha hb
theorem pd_mod (ha : PD X a fa) (hb : PD X b fb) : PD X (.BinOp a .Mod b pos) (f2 (gI (fun _ j => 0 < j) fun i j => .int (i % j)) fa fb) := pd_op op_mod (r2_I fun _ _ _ => .int _) ha hb
theorem pd_pow (ha : PD X a fa) (hb : PD X b fb) : PD X (.BinOp a .Pow b pos) (f2 (gI CPow fun i j => .int (i ^ j.toNat)) fa fb) := pd_op op_pow (r2_I fun _ _ _ => .int _) ha hb
theorem pd_ix (ha : PD X a fa) (hb : PD X b fb) (hs : PlainIx b := by intro _ _; rfl) : PD X (.Subscript a b pos) (f2 gIx fa fb) := pd_ix0 (ix_list.or ix_tup) r2_ix ha hb hs
def gNeg : D → Option D
  | .int i => some (.int (-i))
  | _ => none
theorem pd_neg (ha : PD X a fa) : PD X (.UnaryOp .USub a pos) (f1 gNeg fa) := imp (pe_un un_neg ha) fun σ H Q ⟨δ, d, R, e, k⟩ => by
  unfold f1 at e
  obtain ⟨x, ex, e⟩ := Option.bind_eq_some_iff.mp e
  refine ⟨δ, x, R, ex, fun v H1 s1 r1 => ?_⟩
  cases r1 with
  | int i => cases e; exact ⟨i, rfl, k _ H1 s1 (.int _)⟩
  | _ => cases e
end
abbrev FT := DS → Option Bool
def upT (K : PySem.W.Frag) (f : FT) : TT := fun σ H Q => ∃ δ b, RepS K H σ δ ∧ f δ = some b ∧ ∀ H', Same H H' → Q b H'
def PTD (X : Cx) (e : Expr) (f : FT) : Prop := PT X e (upT X.K f)
def PWD (X : Cx) (e : Expr) (f : FT) : Prop := PW X e (upT X.K f)
theorem impT {X : Cx} {e : Expr} {t t' : TT} (h : PT X e t) (w : ∀ σ H Q, t' σ H Q → t σ H Q) : PT X e t' := fun pins s σ H Q I q => h pins s σ H Q I (w σ H Q q)
theorem impW {X : Cx} {e : Expr} {t t' : TT} (h : PW X e t) (w : ∀ σ H Q, t' σ H Q → t σ H Q) : PW X e t' := fun wh pins s σ H Q I q => h wh pins s σ H Q I (w σ H Q q)
def asB : D → Option Bool
  | .bl b => some b
  | _ => none
def fT (f : FD) : FT := fun δ => (f δ).bind asB
def fNotT (f : FT) : FT := fun δ => (f δ).map not
def fAndT (f g : FT) : FT := fun δ => (f δ).bind fun b => match b with
  | true => g δ
  | false => some false
def fOrT (f g : FT) : FT := fun δ => (f δ).bind fun b => match b with
  | true => some true
  | false => g δ
section
variable {X : Cx} {a b e : Expr} {fa fb f : FD} {ta tb : FT} {rest : List Expr} {pos : Pos}
theorem asB_of {K : PySem.W.Frag} {t : TE} (w : ∀ σ H Q, up K f σ H Q → t σ H Q) {σ : L2.St} {H : Hp} {Q : Bool → Hp → Prop} (h : upT K (fT f) σ H Q) : t σ H fun x H1 => ∃ c, x = .bl c ∧ Q c H1 := by
  obtain ⟨δ, b, R, e, k⟩ := h
  unfold fT at e
  obtain ⟨d, ed, e⟩ := Option.bind_eq_some_iff.mp e
  refine w σ H _ ⟨δ, d, R, ed, fun v H' s r => ?_⟩
  cases r with
  | bl c => cases e; exact ⟨_, rfl, k H' s⟩
  | _ => cases e
theorem ptd_val (h : PD X e f) (he : ∀ whole, isTrue e X.env whole = (do let v ← whole; standAt e.pos; holding [v] (truthy v)) := by intro _; rfl) : PTD X e (fT f) :=
  impT (pt_val h he) fun _ _ _ q => asB_of (fun _ _ _ z => z) q
theorem ptd_cmp {op : CmpOp} {r : R2} {g : D → D → Option D} (ho : OpR X (compareOp op) r) (hg : R2D X.K r g) (ha : PD X a fa) (hb : PD X b fb) (hm : behindInMarks op b = false) : PTD X (.Compare a [op] [b] pos) (fT (f2 g fa fb)) :=
  impT (pt_cmpR ho ha hb hm) fun _ _ _ q => asB_of (fun _ _ _ z => imp2 hg z) q
theorem ptd_not (ha : PTD X a ta) : PTD X (.UnaryOp .Not a pos) (fNotT ta) := impT (pt_not ha) fun σ H Q ⟨δ, b, R, e, k⟩ => by
  unfold fNotT at e
  obtain ⟨c, ec, e⟩ := Option.map_eq_some_iff.mp e
  exact ⟨δ, c, R, ec, fun H' s => by have := k H' s; rw [← e] at this; exact this⟩
theorem PWD.pt (h : PWD X e ta) : PTD X e ta := h _
theorem pwd_and1 (ha : PTD X a ta) : PWD X (.BoolOp .And [a] pos) ta := pw_and1 ha
theorem pwd_or1 (ha : PTD X a ta) : PWD X (.BoolOp .Or [a] pos) ta := pw_or1 ha
theorem pwd_and (ha : PTD X a ta) (hb : PWD X (.BoolOp .And (b :: rest) pos) tb) : PWD X (.BoolOp .And (a :: b :: rest) pos) (fAndT ta tb) := impW (pw_and ha hb) fun σ H Q ⟨δ, c, R, e, k⟩ => by
  unfold fAndT at e
  obtain ⟨d, ed, e⟩ := Option.bind_eq_some_iff.mp e
  refine ⟨δ, d, R, ed, fun H' s => ?_⟩
  cases d with
  | true => exact ⟨δ, c, R.mono s, e, fun H2 s2 => k H2 (s.trans s2)⟩
  | false => cases e; exact k H' s
theorem pwd_or (ha : PTD X a ta) (hb : PWD X (.BoolOp .Or (b :: rest) pos) tb) : PWD X (.BoolOp .Or (a :: b :: rest) pos) (fOrT ta tb) := impW (pw_or ha hb) fun σ H Q ⟨δ, c, R, e, k⟩ => by
  unfold fOrT at e
  obtain ⟨d, ed, e⟩ := Option.bind_eq_some_iff.mp e
  refine ⟨δ, d, R, ed, fun H' s => ?_⟩
  cases d with
  | false => exact ⟨δ, c, R.mono s, e, fun H2 s2 => k H2 (s.trans s2)⟩
  | true => cases e; exact k H' s
def fAndV (f g : FD) : FD := fun δ => (f δ).bind fun x => match x with
  | .bl true => g δ
  | .bl false => some (.bl false)
  | _ => none
def fOrV (f g : FD) : FD := fun δ => (f δ).bind fun x => match x with
  | .bl true => some (.bl true)
  | .bl false => g δ
  | _ => none
def gNot : D → Option D
  | .bl b => some (.bl (!b))
  | _ => none
theorem pd_one {op} (h : PD X a f) : PD X (.BoolOp op [a] pos) f := pe_one h
theorem pd_and (ha : PD X a fa) (hb : PD X (.BoolOp .And (b :: rest) pos) fb) : PD X (.BoolOp .And (a :: b :: rest) pos) (fAndV fa fb) := imp (pe_and ha hb) fun σ H Q ⟨δ, d, R, e, k⟩ => by
  unfold fAndV at e
  obtain ⟨x, ex, e⟩ := Option.bind_eq_some_iff.mp e
  refine ⟨δ, x, R, ex, fun v H1 s1 r1 => ?_⟩
  cases r1 with
  | bl c =>
    refine ⟨c, rfl, ?_⟩
    cases c with
    | true => rw [if_pos rfl]; exact ⟨δ, d, R.mono s1, e, fun w H2 s2 => k w H2 (s1.trans s2)⟩
    | false => rw [if_neg Bool.false_ne_true]; cases e; exact k _ H1 s1 (.bl false)
  | _ => cases e
theorem pd_or (ha : PD X a fa) (hb : PD X (.BoolOp .Or (b :: rest) pos) fb) : PD X (.BoolOp .Or (a :: b :: rest) pos) (fOrV fa fb) := imp (pe_or ha hb) fun σ H Q ⟨δ, d, R, e, k⟩ => by
  unfold fOrV at e
  obtain ⟨x, ex, e⟩ := Option.bind_eq_some_iff.mp e
  refine ⟨δ, x, R, ex, fun v H1 s1 r1 => ?_⟩
  cases r1 with
  | bl c =>
    refine ⟨c, rfl, ?_⟩
    cases c with
    | true => rw [if_pos rfl]; cases e; exact k _ H1 s1 (.bl true)
    | false => rw [if_neg Bool.false_ne_true]; exact ⟨δ, d, R.mono s1, e, fun w H2 s2 => k w H2 (s1.trans s2)⟩
  | _ => cases e
theorem pd_not (ha : PD X a fa) : PD X (.UnaryOp .Not a pos) (f1 gNot fa) := imp (pe_not ha) fun σ H Q ⟨δ, d, R, e, k⟩ => by
  unfold f1 at e
  obtain ⟨x, ex, e⟩ := Option.bind_eq_some_iff.mp e
  refine ⟨δ, x, R, ex, fun v H1 s1 r1 => ?_⟩
  cases r1 with
  | bl c => cases e; exact ⟨c, rfl, k _ H1 s1 (.bl _)⟩
  | _ => cases e
end
abbrev FA := DS → Option (List D)
def upA (K : PySem.W.Frag) (n : Nat) (f : FA) : TA := fun σ H Q => ∃ δ ds, RepS K H σ δ ∧ f δ = some ds ∧ ∀ vs H', Same H H' → Reps K H' vs ds → vs.length = n → Q vs H'
def PAD (X : Cx) (es : List Expr) (f : FA) : Prop := PA X es (upA X.K es.length f)
theorem impA {X : Cx} {es : List Expr} {t t' : TA} (h : PA X es t) (w : ∀ σ H Q, t' σ H Q → t σ H Q) : PA X es t' := fun pos pins s σ H Q I q => h pos pins s σ H Q I (w σ H Q q)
def faNil : FA := fun _ => some []
def faCons (f : FD) (g : FA) : FA := fun δ => (f δ).bind fun x => (g δ).bind fun xs => some (x :: xs)
def pureSp (K : PySem.W.Frag) (n : Nat) (G : List D → Option D) : Sp := fun vs H Q _ => vs.length = n ∧ ∃ ds d, Reps K H vs ds ∧ G ds = some d ∧ ∀ v H', Same H H' → Rep K H' v d → Q v H'
def fTup (g : FA) : FD := fun δ => (g δ).bind fun ds => some (.tup ds)
def fLst (g : FA) : FD := fun δ => (g δ).bind fun ds => some (.lst ds)
def fCall (G : List D → Option D) (g : FA) : FD := fun δ => (g δ).bind G
section
variable {X : Cx} {e : Expr} {es : List Expr} {f : FD} {g : FA} {pos p : Pos}
theorem pad_nil : PAD X [] faNil := impA pa_nil fun σ H Q ⟨δ, ds, R, e, k⟩ => by cases e; exact k [] H (Same.refl H) .nil rfl
theorem pad_cons (ha : PD X e f) (hr : PAD X es g) (hs : starEach (e :: es) X.env = (false, eval e X.env) :: starEach es X.env := by rfl) : PAD X (e :: es) (faCons f g) := impA (pa_cons ha hr hs) fun σ H Q ⟨δ, ds, R, q, k⟩ => by
  unfold faCons at q
  obtain ⟨x, ex, q⟩ := Option.bind_eq_some_iff.mp q
  obtain ⟨xs, exs, q⟩ := Option.bind_eq_some_iff.mp q
  cases q
  exact ⟨δ, x, R, ex, fun v H1 s1 r1 => ⟨δ, xs, R.mono s1, exs, fun vs H2 s2 r2 l => k (v :: vs) H2 (s1.trans s2) (.cons (r1.mono s2) r2) (congrArg (· + 1) l)⟩⟩
theorem pd_tup {x1} (h : PAD X es g) (hz : es.length ≤ 1000 := by decide) : PD X (.Tuple es x1 pos) (fTup g) := imp (pe_tup h) fun σ H Q ⟨δ, d, R, q, k⟩ => by
  unfold fTup at q
  obtain ⟨ds, eds, q⟩ := Option.bind_eq_some_iff.mp q
  cases q
  refine ⟨δ, ds, R, eds, fun vs H1 s1 r1 l => ⟨le_line (by rw [l]; exact hz), fun p hp => ?_⟩⟩
  have s := same_new hp (.tup vs)
  exact k _ _ (s1.trans s) (.tup (SqT.of upd_same) (r1.mono s))
theorem pd_lst (h : PAD X es g) (hz : es.length ≤ 1000 := by decide) : PD X (.List es pos) (fLst g) := imp (pe_lst h) fun σ H Q ⟨δ, d, R, q, k⟩ => by
  unfold fLst at q
  obtain ⟨ds, eds, q⟩ := Option.bind_eq_some_iff.mp q
  cases q
  refine ⟨δ, ds, R, eds, fun vs H1 s1 r1 l => ⟨le_line (by rw [l]; exact hz), fun p hp => ?_⟩⟩
  have s := same_new hp (.lst vs)
  exact k _ _ (s1.trans s) (.lst upd_same (r1.mono s))
theorem pd_call {k n : Nat} {x : Str} {f : Addr} {fd : FuncData} {ps : List Str} {G : List D → Option D} (F : FnOk X.prog X.w X.K X.mg X.base CX0 k f fd ps (pureSp X.K n G)) (hr : Room k X.A) (hg : Gl X x) (hm : X.mg x = some (.ref f)) (hk : PySem.W.keepIn X.K (.ref f) = true) (hb : Binds X.K fd ps [])
    (ha : PAD X (e :: es) g) (hn : (e :: es).length = n := by rfl) (hdb : (x == ("__debug__" : Str)) = false := by decide) (he : starEach (e :: es) X.env = (false, eval e X.env) :: starEach es X.env := by rfl) (hpl : (backTo pos (starEach es X.env)).any (·.1) = false := by rfl) :
    PD X (.Call (.Name x p) (e :: es) [] pos) (fCall G g) := imp (pe_call F hr hg hm hk hb .nil (pass0) ha hdb he hpl) fun σ H Q ⟨δ, d, R, q, k⟩ => by
  unfold fCall at q
  obtain ⟨ds, eds, q⟩ := Option.bind_eq_some_iff.mp q
  refine ⟨δ, ds, R, eds, fun vs H1 s1 r1 l => ?_⟩
  show pureSp X.K n G (vs ++ []) H1 Q E0
  rw [List.append_nil]
  exact ⟨l.trans hn, ds, d, r1, q, fun v H' s => k v H' (s1.trans s)⟩
def CallD (K : PySem.W.Frag) (r : List V → Hp → VK → Prop) (G : List D → Option D) : Prop :=
  ∀ (xs : List V) (H : Hp) (Q : VK) (ds : List D) (d : D), Reps K H xs ds → G ds = some d → (∀ w H', Same H H' → Rep K H' w d → Q w H') → r xs H Q
theorem imp_cb {r : List V → Hp → VK → Prop} {G : List D → Option D} {n : Nat} (hG : CallD X.K r G) {σ : L2.St} {H : Hp} {Q : VK} (h : up X.K (fCall G g) σ H Q) : tCB r (upA X.K n g) σ H Q := by
  obtain ⟨δ, d, R, q, k⟩ := h
  unfold fCall at q
  obtain ⟨ds, eds, q⟩ := Option.bind_eq_some_iff.mp q
  exact ⟨δ, ds, R, eds, fun vs H1 s1 r1 _ => hG vs H1 Q ds d r1 q fun w H' s => k w H' (s1.trans s)⟩
theorem pd_callB {id : String} {x : Str} {r : List V → Hp → VK → Prop} {G : List D → Option D} (hc : CallR X (.builtin id) r) (hG : CallD X.K r G) (hg : Gl X x) (hm : X.mg x = none) (hv : bootBuiltins x = some (.builtin id)) (ha : PAD X (e :: es) g) (hn : x ≠ "__name__" := by decide) (hdb : (x == ("__debug__" : Str)) = false := by decide)
    (he : starEach (e :: es) X.env = (false, eval e X.env) :: starEach es X.env := by rfl) (hpl : (backTo pos (starEach es X.env)).any (·.1) = false := by rfl) : PD X (.Call (.Name x p) (e :: es) [] pos) (fCall G g) :=
  imp (pe_callB hc hg hm hv ha hn hdb he hpl) fun _ _ _ h => imp_cb hG h
theorem pd_callTy {T : String} {x : Str} {r : List V → Hp → VK → Prop} {G : List D → Option D} (hc : CallR X (.type T) r) (hG : CallD X.K r G) (hg : Gl X x) (hm : X.mg x = none) (hv : bootBuiltins x = some (.type T)) (ha : PAD X (e :: es) g) (hn : x ≠ "__name__" := by decide) (hdb : (x == ("__debug__" : Str)) = false := by decide)
    (he : starEach (e :: es) X.env = (false, eval e X.env) :: starEach es X.env := by rfl) (hpl : (backTo pos (starEach es X.env)).any (·.1) = false := by rfl) : PD X (.Call (.Name x p) (e :: es) [] pos) (fCall G g) :=
  imp (pe_callTy hc hg hm hv ha hn hdb he hpl) fun _ _ _ h => imp_cb hG h
end
theorem reps1 {K : PySem.W.Frag} {H : Hp} {xs : List V} {d : D} (r : Reps K H xs [d]) : ∃ x, xs = [x] ∧ Rep K H x d := by
  cases r with
  | cons a t => cases t; exact ⟨_, rfl, a⟩
theorem reps2 {K : PySem.W.Frag} {H : Hp} {xs : List V} {d e : D} (r : Reps K H xs [d, e]) : ∃ x y, xs = [x, y] ∧ Rep K H x d ∧ Rep K H y e := by
  cases r with
  | cons a t =>
    obtain ⟨y, h1, h2⟩ := reps1 t
    subst h1
    exact ⟨_, y, rfl, a, h2⟩
def gAbs : List D → Option D
  | [.int i] => some (.int (i.natAbs : Int))
  | _ => none
theorem cd_abs {K : PySem.W.Frag} : CallD K (fun xs H Q => ∃ i, xs = [.int i] ∧ Q (.int (if i < 0 then -i else i)) H) gAbs := by
  intro xs H Q ds d r e k
  unfold gAbs at e
  split at e
  · rename_i i
    cases e
    obtain ⟨x, rfl, rx⟩ := reps1 r
    cases rx
    refine ⟨i, rfl, ?_⟩
    have e : (if i < 0 then -i else i) = (i.natAbs : Int) := by split <;> omega
    rw [e]
    exact k _ H (Same.refl H) (.int _)
  · cases e
def gInt : List D → Option D
  | [.int i] => some (.int i)
  | [.bl b] => some (.int (if b then 1 else 0))
  | _ => none
theorem cd_int {K : PySem.W.Frag} : CallD K (fun xs H Q => (∃ i, xs = [.int i] ∧ Q (.int i) H) ∨ ∃ k, xs = [.bl k] ∧ Q (.int (if k then 1 else 0)) H) gInt := by
  intro xs H Q ds d r e k
  unfold gInt at e
  split at e
  · rename_i i
    cases e
    obtain ⟨x, rfl, rx⟩ := reps1 r
    cases rx
    exact .inl ⟨i, rfl, k _ H (Same.refl H) (.int _)⟩
  · rename_i b
    cases e
    obtain ⟨x, rfl, rx⟩ := reps1 r
    cases rx
    exact .inr ⟨b, rfl, k _ H (Same.refl H) (.int _)⟩
  · cases e
def gLen : List D → Option D
  | [.tup ds] => some (.int ds.length)
  | [.lst ds] => some (.int ds.length)
  | [.seq ds] => some (.int ds.length)
  | _ => none
theorem cd_len {K : PySem.W.Frag} : CallD K (fun xs H Q => ∃ p ys, xs = [.ref p] ∧ (SqL K H p ys ∨ SqT K H p ys) ∧ Q (.int ys.length) H) gLen := by
  intro xs H Q ds d r e k
  unfold gLen at e
  split at e
  · cases e
    obtain ⟨x, rfl, rx⟩ := reps1 r
    cases rx with
    | @tup p vs _ hp rp => exact ⟨p, vs, rfl, .inr hp, by rw [rp.length]; exact k _ H (Same.refl H) (.int _)⟩
  · cases e
    obtain ⟨x, rfl, rx⟩ := reps1 r
    cases rx with
    | @lst p vs _ hp rp => exact ⟨p, vs, rfl, .inl (SqL.of hp), by rw [rp.length]; exact k _ H (Same.refl H) (.int _)⟩
  · cases e
    obtain ⟨x, rfl, rx⟩ := reps1 r
    cases rx with
    | @seq p vs _ hp rp => exact ⟨p, vs, rfl, .inl hp, by rw [rp.length]; exact k _ H (Same.refl H) (.int _)⟩
  · cases e
def tyOf : D → Option String
  | .non => some "NoneType"
  | .bl _ => some "bool"
  | .int _ => some "int"
  | .str _ => some "str"
  | .tup _ => some "tuple"
  | .lst _ => some "list"
  | .seq _ => some "list"
  | .dct => some "dict"
  | .ty _ => none
  | .exc _ => none
  | .cls _ => none
  | .ms _ _ => none
  | .mf _ _ => none
  | .md _ _ => none
def IsiOk (n : String) (d : D) (b : Bool) : Prop := ∃ t, tyOf d = some t ∧ ∀ K : PySem.W.Frag, PySem.W.kitOne K (.type t) (.type n) = some b
def rIsi (K : PySem.W.Frag) : List V → Hp → VK → Prop := fun xs H Q => ∃ x n d b, xs = [x, .ty n] ∧ Rep K H x d ∧ IsiOk n d b ∧ Q (.bl b) H
theorem call_isi {X : Cx} : CallR X (.builtin "isinstance") (rIsi X.K) := by
  intro pins s σ H xs us Q I r h
  obtain ⟨x, n, d, b, rfl, rx, ⟨t, ht, hk⟩, q⟩ := h
  obtain ⟨u, w', rfl, ru, rw'⟩ := vals2 r
  cases (show w' = Value.type n from rw')
  have e := hk X.K
  have fin : ∀ tk, EP X pins σ Q (.bool b) { s with toks := tk } := fun tk => ⟨.bl b, H, I.tok _, rfl, q⟩
  cases rx with
  | non => cases ht; cases (show u = Value.none from ru); exact PySem.W.kia_one PySem.W.kitx_none I.kIn True.intro e (fun z => nomatch z) fin
  | bl y => cases ht; cases (show u = Value.bool y from ru); exact PySem.W.kia_one PySem.W.kitx_bool I.kIn True.intro e (fun z => nomatch z) fin
  | int i => cases ht; obtain ⟨t, z⟩ := (show ∃ t, u = Value.int i t from ru); cases z; exact PySem.W.kia_one PySem.W.kitx_int I.kIn True.intro e (fun z => nomatch z) fin
  | str y => cases ht; obtain ⟨t, z⟩ := (show ∃ t, u = Value.str y t from ru); cases z; exact PySem.W.kia_one PySem.W.kitx_str I.kIn True.intro e (fun z => nomatch z) fin
  | ty n => cases ht
  | exc h => cases ht
  | cls C => cases ht
  | ms h l r => cases ht
  | mf h l r => cases ht
  | md h l r => cases ht
  | @dct a h =>
    cases ht
    cases (show u = Value.ref a from ru)
    exact PySem.W.kia_one PySem.W.kitx_dict I.kIn (I.hok a _ h).1 e (fun z => nomatch z) fin
  | @tup a vs ds hp rp =>
    cases ht
    cases (show u = Value.ref a from ru)
    obtain ⟨its, _, ⟨o, h1, h2, _⟩, _⟩ := I.tuple hp
    exact PySem.W.kia_one PySem.W.kitx_tuple I.kIn ⟨o, h1, h2⟩ e (fun z => nomatch z) fin
  | @lst a vs ds hp rp =>
    cases ht
    cases (show u = Value.ref a from ru)
    obtain ⟨its, _, ⟨o, n', h1, h2, _⟩, _⟩ := I.list (SqL.of (K := X.K) hp)
    exact PySem.W.kia_one PySem.W.kitx_list I.kIn ⟨o, h1, h2⟩ e (fun z => nomatch z) fin
  | @seq a vs ds hp rp =>
    cases ht
    cases (show u = Value.ref a from ru)
    obtain ⟨its, _, ⟨o, n', h1, h2, _⟩, _⟩ := I.list hp
    exact PySem.W.kia_one PySem.W.kitx_list I.kIn ⟨o, h1, h2⟩ e (fun z => nomatch z) fin
def isInt : D → Option Bool
  | .int _ => some true
  | .bl _ => some true
  | .ty _ => none
  | .exc _ => none
  | .cls _ => none
  | .ms _ _ => none
  | .mf _ _ => none
  | .md _ _ => none
  | _ => some false
def isBool : D → Option Bool
  | .bl _ => some true
  | .ty _ => none
  | .exc _ => none
  | .cls _ => none
  | .ms _ _ => none
  | .mf _ _ => none
  | .md _ _ => none
  | _ => some false
def isTup : D → Option Bool
  | .tup _ => some true
  | .ty _ => none
  | .exc _ => none
  | .cls _ => none
  | .ms _ _ => none
  | .mf _ _ => none
  | .md _ _ => none
  | _ => some false
def gIsi (n : String) (p : D → Option Bool) : List D → Option D
  | [d, .ty m] => if m = n then (p d).map D.bl else none
  | _ => none
theorem cd_isi {K : PySem.W.Frag} {n : String} {p : D → Option Bool} (hp : ∀ d b, p d = some b → IsiOk n d b) : CallD K (rIsi K) (gIsi n p) := by
  intro xs H Q ds d r e k
  unfold gIsi at e
  split at e
  · rename_i x m
    by_cases hm : m = n
    · subst hm
      rw [if_pos rfl] at e
      obtain ⟨b, hb, e⟩ := Option.map_eq_some_iff.mp e
      cases e
      obtain ⟨v, w, rfl, rv, rw'⟩ := reps2 r
      cases rw'
      exact ⟨v, m, x, b, rfl, rv, hp x b hb, k _ H (Same.refl H) (.bl b)⟩
    · rw [if_neg hm] at e; cases e
  · cases e
theorem kit_nn (n : String) (K : PySem.W.Frag) : PySem.W.kitOne K (.type n) (.type n) = some true := by
  unfold PySem.W.kitOne
  rw [if_pos (beq_self_eq_true _)]
theorem ok_isInt (d : D) (b : Bool) (h : isInt d = some b) : IsiOk "int" d b := by
  cases d <;> (first | cases h) <;> first
    | exact ⟨_, rfl, fun K => kit_nn _ K⟩
    | exact ⟨_, rfl, fun K => by kernel_rfl⟩
theorem ok_isBool (d : D) (b : Bool) (h : isBool d = some b) : IsiOk "bool" d b := by
  cases d <;> (first | cases h) <;> first
    | exact ⟨_, rfl, fun K => kit_nn _ K⟩
    | exact ⟨_, rfl, fun K => by kernel_rfl⟩
theorem ok_isTup (d : D) (b : Bool) (h : isTup d = some b) : IsiOk "tuple" d b := by
  cases d <;> (first | cases h) <;> first
    | exact ⟨_, rfl, fun K => kit_nn _ K⟩
    | exact ⟨_, rfl, fun K => by kernel_rfl⟩
def toV : D → Option V
  | .non => some .non
  | .bl b => some (.bl b)
  | .int i => some (.int i)
  | .str x => some (.str x)
  | _ => none
def flatD (d : D) : Bool := (toV d).isSome
def eqF : D → D → Bool
  | .non, .non => true
  | .bl a, .bl b => a == b
  | .bl a, .int b => (if a then 1 else 0) == b
  | .int a, .bl b => a == (if b then 1 else 0)
  | .int a, .int b => a == b
  | .str a, .str b => a == b
  | _, _ => false
def eqFs : List D → List D → Bool
  | [], [] => true
  | a :: as, b :: bs => eqF a b && eqFs as bs
  | _, _ => false
theorem Rep.flat {K : PySem.W.Frag} {H : Hp} {v : V} {d : D} (r : Rep K H v d) (f : flatD d = true) : flatV v = true ∧ toV d = some v := by
  cases r <;> first | exact ⟨rfl, rfl⟩ | (exact absurd f (by decide)) | (exact absurd f Bool.false_ne_true)
theorem eqV_eqF {a b : D} {x y : V} (ha : toV a = some x) (hb : toV b = some y) : eqV x y = eqF a b := by
  cases a <;> (first | cases ha) <;> cases b <;> (first | cases hb) <;> rfl
theorem eqFs_range : ∀ (as bs : List D) (e : Nat → Bool), (∀ j a b, as[j]? = some a → bs[j]? = some b → e j = eqF a b) → ((List.range (min as.length bs.length)).all e && as.length == bs.length) = eqFs as bs
  | [], [], e, _ => rfl
  | [], b :: bs, e, _ => by simp [eqFs]
  | a :: as, [], e, _ => by simp [eqFs]
  | a :: as, b :: bs, e, h => by
    have ih := eqFs_range as bs (fun j => e (j + 1)) (fun j x y h1 h2 => h (j + 1) x y (by simpa using h1) (by simpa using h2))
    have h0 : e 0 = eqF a b := h 0 a b rfl rfl
    show ((List.range (min (as.length + 1) (bs.length + 1))).all e && (as.length + 1) == (bs.length + 1)) = (eqF a b && eqFs as bs)
    rw [← ih, ← h0, show min (as.length + 1) (bs.length + 1) = min as.length bs.length + 1 by omega, List.range_succ_eq_map, List.all_cons, List.all_map, Bool.and_assoc]
    have : ((as.length + 1) == (bs.length + 1)) = (as.length == bs.length) := by rw [Bool.eq_iff_iff]; simp
    rw [this]
    rfl
def gEqB : D → D → Option Bool
  | .tup as, .tup bs => if as.all flatD && bs.all flatD then some (eqFs as bs) else none
  | .lst as, .lst bs => if as.all flatD && bs.all flatD then some (eqFs as bs) else none
  | .non, .tup _ => some false
  | .tup _, .non => some false
  | .non, .lst _ => some false
  | .lst _, .non => some false
  | a, b => if flatD a && flatD b then some (eqF a b) else none
def gEq (a b : D) : Option D := (gEqB a b).map D.bl
def gNe (a b : D) : Option D := (gEqB a b).map fun c => D.bl (!c)
section
variable {K : PySem.W.Frag} {H : Hp}
theorem items_eq {A : Around} {s : Shared} {vs ws : List V} {us zs : List Value} {as bs : List D} (r1 : Vals vs us) (r2 : Vals ws zs) (q1 : Reps K H vs as) (q2 : Reps K H ws bs) (g1 : as.all flatD = true) (g2 : bs.all flatD = true) :
    ∀ j (h1 : j < us.toArray.size) (h2 : j < zs.toArray.size), SeqAt.EqAt A s us.toArray[j] zs.toArray[j] (eqF (as.getD j .non) (bs.getD j .non)) := by
  intro j h1 h2
  have l1 := r1.length
  have l2 := r2.length
  rw [List.size_toArray] at h1 h2
  have k1 : j < vs.length := by omega
  have k2 : j < ws.length := by omega
  obtain ⟨u, e1, p1⟩ := r1.get (i := j) (x := vs[j]) (by simp [k1])
  obtain ⟨z, e2, p2⟩ := r2.get (i := j) (x := ws[j]) (by simp [k2])
  obtain ⟨a, e3, p3⟩ := q1.getV (i := j) (v := vs[j]) (by simp [k1])
  obtain ⟨b, e4, p4⟩ := q2.getV (i := j) (v := ws[j]) (by simp [k2])
  have f1 : flatD a = true := List.all_eq_true.mp g1 a (List.mem_of_getElem? e3)
  have f2 : flatD b = true := List.all_eq_true.mp g2 b (List.mem_of_getElem? e4)
  have w1 : us.toArray[j] = u := by
    have : us[j]? = some us[j] := by simp [h1]
    rw [this] at e1
    simpa using e1
  have w2 : zs.toArray[j] = z := by
    have : zs[j]? = some zs[j] := by simp [h2]
    rw [this] at e2
    simpa using e2
  rw [w1, w2, List.getD_eq_getElem?_getD, List.getD_eq_getElem?_getD, e3, e4]
  show SeqAt.EqAt A s u z (eqF a b)
  rw [← eqV_eqF (p3.flat f1).2 (p4.flat f2).2]
  exact eqAt_V p1 p2 (p3.flat f1).1 (p4.flat f2).1
theorem all_eqFs {as bs : List D} : ((List.range (min as.length bs.length)).all (fun j => eqF (as.getD j .non) (bs.getD j .non)) && as.length == bs.length) = eqFs as bs :=
  eqFs_range as bs _ fun j a b h1 h2 => by
    show eqF (as.getD j .non) (bs.getD j .non) = eqF a b
    rw [List.getD_eq_getElem?_getD, List.getD_eq_getElem?_getD, h1, h2] <;> rfl
theorem rc_flat {A : Around} {s : Shared} {x y : V} {u v : Value} {a b : D} (rx : RelV x u) (ry : RelV y v) (ra : Rep K H x a) (rb : Rep K H y b) (g1 : flatD a = true) (g2 : flatD b = true) : SeqAt.RcAt A s u v (eqF a b) ∧ SeqAt.RcNeAt A s u v (!eqF a b) := by
  cases ra with
  | non =>
    cases (show u = Value.none from rx)
    cases rb with
    | non => cases (show v = Value.none from ry); exact ⟨SeqAt.RcAt.none_none, SeqAt.RcNeAt.none_none⟩
    | bl c => cases (show v = Value.bool c from ry); exact ⟨SeqAt.RcAt.none_bool c, SeqAt.RcNeAt.none_bool c⟩
    | int j => obtain ⟨t, rfl⟩ := (show ∃ t, v = Value.int j t from ry); exact ⟨SeqAt.RcAt.none_int j t, SeqAt.RcNeAt.none_int j t⟩
    | str j => obtain ⟨t, rfl⟩ := (show ∃ t, v = Value.str j t from ry); exact ⟨SeqAt.RcAt.none_str j t, SeqAt.RcNeAt.none_str j t⟩
    | _ => exact absurd g2 Bool.false_ne_true
  | bl i =>
    cases (show u = Value.bool i from rx)
    cases rb with
    | non => cases (show v = Value.none from ry); exact ⟨SeqAt.RcAt.bool_none i, SeqAt.RcNeAt.bool_none i⟩
    | bl c => cases (show v = Value.bool c from ry); exact ⟨SeqAt.RcAt.bool_bool i c, SeqAt.RcNeAt.bool_bool i c⟩
    | int j => obtain ⟨t, rfl⟩ := (show ∃ t, v = Value.int j t from ry); exact ⟨SeqAt.RcAt.bool_int i j t, SeqAt.RcNeAt.bool_int i j t⟩
    | str j => obtain ⟨t, rfl⟩ := (show ∃ t, v = Value.str j t from ry); exact ⟨SeqAt.RcAt.bool_str i j t, SeqAt.RcNeAt.bool_str i j t⟩
    | _ => exact absurd g2 Bool.false_ne_true
  | int i =>
    obtain ⟨t', rfl⟩ := (show ∃ t, u = Value.int i t from rx)
    cases rb with
    | non => cases (show v = Value.none from ry); exact ⟨SeqAt.RcAt.int_none i t', SeqAt.RcNeAt.int_none i t'⟩
    | bl c => cases (show v = Value.bool c from ry); exact ⟨SeqAt.RcAt.int_bool i t' c, SeqAt.RcNeAt.int_bool i t' c⟩
    | int j => obtain ⟨t, rfl⟩ := (show ∃ t, v = Value.int j t from ry); exact ⟨SeqAt.RcAt.int_int i t' j t, SeqAt.RcNeAt.int_int i t' j t⟩
    | str j => obtain ⟨t, rfl⟩ := (show ∃ t, v = Value.str j t from ry); exact ⟨SeqAt.RcAt.int_str i t' j t, SeqAt.RcNeAt.int_str i t' j t⟩
    | _ => exact absurd g2 Bool.false_ne_true
  | str i =>
    obtain ⟨t', rfl⟩ := (show ∃ t, u = Value.str i t from rx)
    cases rb with
    | non => cases (show v = Value.none from ry); exact ⟨SeqAt.RcAt.str_none i t', SeqAt.RcNeAt.str_none i t'⟩
    | bl c => cases (show v = Value.bool c from ry); exact ⟨SeqAt.RcAt.str_bool i t' c, SeqAt.RcNeAt.str_bool i t' c⟩
    | int j => obtain ⟨t, rfl⟩ := (show ∃ t, v = Value.int j t from ry); exact ⟨SeqAt.RcAt.str_int i t' j t, SeqAt.RcNeAt.str_int i t' j t⟩
    | str j => obtain ⟨t, rfl⟩ := (show ∃ t, v = Value.str j t from ry); exact ⟨SeqAt.RcAt.str_str i t' j t, SeqAt.RcNeAt.str_str i t' j t⟩
    | _ => exact absurd g2 Bool.false_ne_true
  | _ => exact absurd g1 Bool.false_ne_true
end
theorem rc_D {X : Cx} {pins : List (Addr × Obj)} {σ : L2.St} {H : Hp} {s : Shared} (I : Inv X pins σ H s) (hu : X.A.units < cLine) {x y : V} {u v : Value} {a b : D} {c : Bool} (rx : RelV x u) (ry : RelV y v) (ra : Rep X.K H x a) (rb : Rep X.K H y b) (e : gEqB a b = some c) :
    SeqAt.RcAt X.A s u v c ∧ SeqAt.RcNeAt X.A s u v (!c) := by
  unfold gEqB at e
  split at e
  · -- two tuples
    rename_i as bs
    cases ra with
    | @tup p vs _ hp rp =>
      cases rb with
      | @tup q ws _ hq rq =>
        split at e
        · rename_i hf
          cases e
          rw [Bool.and_eq_true] at hf
          cases (show u = Value.ref p from rx)
          cases (show v = Value.ref q from ry)
          obtain ⟨its, r1, t1, _⟩ := I.tuple hp
          obtain ⟨jts, r2, t2, _⟩ := I.tuple hq
          have l1 : its.toArray.size = as.length := by rw [List.size_toArray, ← r1.length, rp.length]
          have l2 : jts.toArray.size = bs.length := by rw [List.size_toArray, ← r2.length, rq.length]
          have h1 := SeqAt.RcAt.tuples (A := X.A) (s := s) t1 t2 hu (items_eq r1 r2 rp rq hf.1 hf.2)
          have h2 := SeqAt.RcNeAt.tuples (A := X.A) (s := s) t1 t2 hu (items_eq r1 r2 rp rq hf.1 hf.2)
          rw [l1, l2, all_eqFs] at h1 h2
          exact ⟨h1, h2⟩
        · cases e
  · -- two lists
    rename_i as bs
    cases ra with
    | @lst p vs _ hp rp =>
      cases rb with
      | @lst q ws _ hq rq =>
        split at e
        · rename_i hf
          cases e
          rw [Bool.and_eq_true] at hf
          cases (show u = Value.ref p from rx)
          cases (show v = Value.ref q from ry)
          obtain ⟨its, r1, t1, _⟩ := I.list (SqL.of (K := X.K) hp)
          obtain ⟨jts, r2, t2, _⟩ := I.list (SqL.of (K := X.K) hq)
          have l1 : its.toArray.size = as.length := by rw [List.size_toArray, ← r1.length, rp.length]
          have l2 : jts.toArray.size = bs.length := by rw [List.size_toArray, ← r2.length, rq.length]
          by_cases hl : its.toArray.size = jts.toArray.size
          · have h1 := SeqAt.RcAt.lists (A := X.A) (s := s) t1.isList t2.isList hl hu (items_eq r1 r2 rp rq hf.1 hf.2)
            have h2 := SeqAt.RcNeAt.lists (A := X.A) (s := s) t1.isList t2.isList hl hu (items_eq r1 r2 rp rq hf.1 hf.2)
            have h3 : (List.range its.toArray.size).all (fun j => eqF (as.getD j .non) (bs.getD j .non)) = eqFs as bs := by
              rw [← all_eqFs, l1, show min as.length bs.length = as.length by omega, show (as.length == bs.length) = true by rw [beq_iff_eq]; omega, Bool.and_true]
            rw [h3] at h1 h2
            exact ⟨h1, h2⟩
          · have h1 := SeqAt.RcAt.lists_lengths (A := X.A) (s := s) t1.isList t2.isList (by simpa [bne_iff_ne] using hl) hu
            have h2 := SeqAt.RcNeAt.lists_lengths (A := X.A) (s := s) t1.isList t2.isList (by simpa [bne_iff_ne] using hl) hu
            have h3 : eqFs as bs = false := by
              rw [← all_eqFs, show (as.length == bs.length) = false by rw [beq_eq_false_iff_ne]; omega, Bool.and_false]
            rw [h3]
            exact ⟨h1, h2⟩
        · cases e
  · cases e
    cases ra
    cases rb with
    | @tup q ws bs hq rq =>
      cases (show u = Value.none from rx)
      cases (show v = Value.ref q from ry)
      obtain ⟨its, r1, t1, _⟩ := I.tuple hq
      exact ⟨SeqAt.RcAt.none_tuple t1 hu, SeqAt.RcNeAt.none_tuple t1 hu⟩
  · cases e
    cases rb
    cases ra with
    | @tup q ws bs hq rq =>
      cases (show v = Value.none from ry)
      cases (show u = Value.ref q from rx)
      obtain ⟨its, r1, t1, _⟩ := I.tuple hq
      exact ⟨SeqAt.RcAt.tuple_none t1 hu, SeqAt.RcNeAt.tuple_none t1 hu⟩
  · cases e
    cases ra
    cases rb with
    | @lst q ws bs hq rq =>
      cases (show u = Value.none from rx)
      cases (show v = Value.ref q from ry)
      obtain ⟨its, r1, t1, _⟩ := I.list (SqL.of (K := X.K) hq)
      exact ⟨SeqAt.RcAt.none_list t1.isList hu, SeqAt.RcNeAt.none_list t1.isList hu⟩
  · cases e
    cases rb
    cases ra with
    | @lst q ws bs hq rq =>
      cases (show v = Value.none from ry)
      cases (show u = Value.ref q from rx)
      obtain ⟨its, r1, t1, _⟩ := I.list (SqL.of (K := X.K) hq)
      exact ⟨SeqAt.RcAt.list_none t1.isList hu, SeqAt.RcNeAt.list_none t1.isList hu⟩
  · split at e
    · rename_i hf
      cases e
      rw [Bool.and_eq_true] at hf
      exact rc_flat rx ry ra rb hf.1 hf.2
    · cases e
def rEqD (K : PySem.W.Frag) : R2 := fun x y H Q => ∃ a b c, Rep K H x a ∧ Rep K H y b ∧ gEqB a b = some c ∧ Q (.bl c) H
def rNeD (K : PySem.W.Frag) : R2 := fun x y H Q => ∃ a b c, Rep K H x a ∧ Rep K H y b ∧ gEqB a b = some c ∧ Q (.bl (!c)) H
theorem op_eqD {X : Cx} (hu : X.A.units < cLine) : OpR X (compareOp .Eq) (rEqD X.K) := by
  intro pins s σ H x y v u Q I rx ry h
  obtain ⟨a, b, c, ra, rb, e, q⟩ := h
  exact (rc_D I hu rx ry ra rb e).1 X.prog X.w _ _ ⟨.bl c, H, I, rfl, q⟩
theorem op_neD {X : Cx} (hu : X.A.units < cLine) : OpR X (compareOp .NotEq) (rNeD X.K) := by
  intro pins s σ H x y v u Q I rx ry h
  obtain ⟨a, b, c, ra, rb, e, q⟩ := h
  exact (rc_D I hu rx ry ra rb e).2 X.prog X.w _ _ ⟨.bl (!c), H, I, rfl, q⟩
theorem r2_eq {K : PySem.W.Frag} : R2D K (rEqD K) gEq := by
  intro x y H Q a b d ra rb e k
  unfold gEq at e
  obtain ⟨c, hc, e⟩ := Option.map_eq_some_iff.mp e
  cases e
  exact ⟨a, b, c, ra, rb, hc, k _ H (Same.refl H) (.bl _)⟩
theorem r2_ne {K : PySem.W.Frag} : R2D K (rNeD K) gNe := by
  intro x y H Q a b d ra rb e k
  unfold gNe at e
  obtain ⟨c, hc, e⟩ := Option.map_eq_some_iff.mp e
  cases e
  exact ⟨a, b, c, ra, rb, hc, k _ H (Same.refl H) (.bl _)⟩
section
variable {X : Cx} {a b e : Expr} {fa fb f : FD} {pos : Pos}
theorem pd_eq (hu : X.A.units < cLine) (ha : PD X a fa) (hb : PD X b fb) : PD X (.Compare a [.Eq] [b] pos) (f2 gEq fa fb) := pd_cmp (op_eqD hu) r2_eq ha hb (nomark _)
theorem ptd_eq (hu : X.A.units < cLine) (ha : PD X a fa) (hb : PD X b fb) : PTD X (.Compare a [.Eq] [b] pos) (fT (f2 gEq fa fb)) := ptd_cmp (op_eqD hu) r2_eq ha hb (nomark _)
theorem ptd_ne (hu : X.A.units < cLine) (ha : PD X a fa) (hb : PD X b fb) : PTD X (.Compare a [.NotEq] [b] pos) (fT (f2 gNe fa fb)) := ptd_cmp (op_neD hu) r2_ne ha hb (nomark _)
abbrev gLt : D → D → Option D := gI0 fun i j => .bl (decide (i < j))
abbrev gGt : D → D → Option D := gI0 fun i j => .bl (decide (j < i))
theorem pd_lt (ha : PD X a fa) (hb : PD X b fb) : PD X (.Compare a [.Lt] [b] pos) (f2 gLt fa fb) := pd_cmp op_lt (r2_I0 fun _ _ _ => .bl _) ha hb (nomark _)
theorem pd_gt (ha : PD X a fa) (hb : PD X b fb) : PD X (.Compare a [.Gt] [b] pos) (f2 gGt fa fb) := pd_cmp op_gt (r2_I0 fun _ _ _ => .bl _) ha hb (nomark _)
theorem ptd_lt (ha : PD X a fa) (hb : PD X b fb) : PTD X (.Compare a [.Lt] [b] pos) (fT (f2 gLt fa fb)) := ptd_cmp op_lt (r2_I0 fun _ _ _ => .bl _) ha hb (nomark _)
theorem ptd_gt (ha : PD X a fa) (hb : PD X b fb) : PTD X (.Compare a [.Gt] [b] pos) (fT (f2 gGt fa fb)) := ptd_cmp op_gt (r2_I0 fun _ _ _ => .bl _) ha hb (nomark _)
def isNon : D → Bool
  | .non => true
  | _ => false
def gIsN (a b : D) : Option D := match b with
  | .non => some (.bl (isNon a))
  | _ => none
def gNotN (a b : D) : Option D := match b with
  | .non => some (.bl (!isNon a))
  | _ => none
theorem isNon_of {K : PySem.W.Frag} {H : Hp} {x : V} {a : D} (r : Rep K H x a) : decide (x = .non) = isNon a := by
  cases r <;> rfl
theorem r2_isN {K : PySem.W.Frag} : R2D K (fun x y H Q => y = .non ∧ Q (.bl (decide (x = .non))) H) gIsN := by
  intro x y H Q a b d ra rb e k
  cases rb with
  | non => cases e; exact ⟨rfl, by rw [isNon_of ra]; exact k _ H (Same.refl H) (.bl _)⟩
  | _ => cases e
theorem r2_notN {K : PySem.W.Frag} : R2D K (fun x y H Q => y = .non ∧ Q (.bl (!decide (x = .non))) H) gNotN := by
  intro x y H Q a b d ra rb e k
  cases rb with
  | non => cases e; exact ⟨rfl, by rw [isNon_of ra]; exact k _ H (Same.refl H) (.bl _)⟩
  | _ => cases e
theorem ptd_isN (ha : PD X a fa) (hb : PD X b fb) : PTD X (.Compare a [.Is] [b] pos) (fT (f2 gIsN fa fb)) := ptd_cmp op_isN r2_isN ha hb (nomark _)
theorem ptd_notN (ha : PD X a fa) (hb : PD X b fb) : PTD X (.Compare a [.IsNot] [b] pos) (fT (f2 gNotN fa fb)) := ptd_cmp op_notN r2_notN ha hb (nomark _)
end
inductive Res where
  | nx (δ : DS)
  | rt (d : D)
  | bk (δ : DS)
  | ct (δ : DS)
  | ex (C : Addr) (δ : DS)
  | mk (C : Addr) (δ : DS)
abbrev SD := DS → Option Res
def RP (X : Cx) (E : Ends) (H : Hp) : Res → Prop
  | .nx δ => ∀ σ' H', Same H H' → RepS X.K H' σ' δ → E.nx σ' H'
  | .rt d => ∀ v H', Same H H' → Rep X.K H' v d → E.rt v H'
  | .bk δ => ∀ σ' H', Same H H' → RepS X.K H' σ' δ → E.bk σ' H'
  | .ct δ => ∀ σ' H', Same H H' → RepS X.K H' σ' δ → E.ct σ' H'
  | .ex C δ => ∀ σ' H', Same H H' → RepS X.K H' σ' δ → XFly X C σ' H'
  | .mk C δ => ∀ σ' H', Same H H' → RepS X.K H' σ' δ → XMade X C σ' H'
theorem RP.mono {X : Cx} {E : Ends} {H H1 : Hp} {r : Res} (s : Same H H1) (h : RP X E H r) : RP X E H1 r := by
  cases r with
  | nx δ => exact fun σ' H' s2 R => h σ' H' (s.trans s2) R
  | rt d => exact fun v H' s2 R => h v H' (s.trans s2) R
  | bk δ => exact fun σ' H' s2 R => h σ' H' (s.trans s2) R
  | ct δ => exact fun σ' H' s2 R => h σ' H' (s.trans s2) R
  | ex C δ => exact fun σ' H' s2 R => h σ' H' (s.trans s2) R
  | mk C δ => exact fun σ' H' s2 R => h σ' H' (s.trans s2) R
def upS (X : Cx) (s : SD) : TS := fun E σ H => ∃ δ r, RepS X.K H σ δ ∧ s δ = some r ∧ RP X E H r
def PSD (X : Cx) (st : Stmt) (s : SD) : Prop := PS X st (upS X s)
def PSsD (X : Cx) (sts : List Stmt) (s : SD) : Prop := PSs X sts (upS X s)
theorem impS {X : Cx} {st : Stmt} {t t' : TS} (h : PS X st t) (w : ∀ E σ H, t' E σ H → t E σ H) : PS X st t' := fun pins s σ H E I q => h pins s σ H E I (w E σ H q)
theorem impSs {X : Cx} {st : List Stmt} {t t' : TS} (h : PSs X st t) (w : ∀ E σ H, t' E σ H → t E σ H) : PSs X st t' := fun pins s σ H E I q => h pins s σ H E I (w E σ H q)
def sNil : SD := fun δ => some (.nx δ)
def sThen (u : SD) : Res → Option Res
  | .nx δ => u δ
  | r => some r
def sSeq (s u : SD) : SD := fun δ => (s δ).bind (sThen u)
def sRet (f : FD) : SD := fun δ => (f δ).bind fun d => some (.rt d)
def sDrop (f : FD) : SD := fun δ => (f δ).bind fun _ => some (.nx δ)
def sSet (i : Nat) (f : FD) : SD := fun δ => (f δ).bind fun d => some (.nx (δ.set i (some d)))
def sIf (c : FT) (s u : SD) : SD := fun δ => (c δ).bind fun b => match b with
  | true => s δ
  | false => u δ
def sNever : SD := fun _ => none
section
variable {X : Cx} {st : Stmt} {rest : List Stmt} {s u : SD} {e : Expr} {f : FD} {c : FT} {pos : Pos}
theorem psd_nil : PSsD X [] sNil := impSs pss_nil fun E σ H ⟨δ, r, R, e, k⟩ => by cases e; exact k σ H (Same.refl H) R
theorem psd_cons (h1 : PSD X st s) (h2 : PSsD X rest u) : PSsD X (st :: rest) (sSeq s u) := impSs (pss_cons h1 h2) fun E σ H ⟨δ, r, R, e, k⟩ => by
  unfold sSeq at e
  obtain ⟨r1, e1, e⟩ := Option.bind_eq_some_iff.mp e
  refine ⟨δ, r1, R, e1, ?_⟩
  cases r1 with
  | nx δ' => exact fun σ' H' s1 R1 => ⟨δ', r, R1, e, k.mono s1⟩
  | rt d => cases e; exact k
  | bk d => cases e; exact k
  | ct d => cases e; exact k
  | ex C d => cases e; exact k
  | mk C d => cases e; exact k
theorem psd_one (h : PSD X st s) : PSsD X [st] s := pss_one h
theorem psd_ret (he : PD X e f) : PSD X (.Return (some e) pos) (sRet f) := impS (ps_ret he) fun E σ H ⟨δ, r, R, q, k⟩ => by
  unfold sRet at q
  obtain ⟨d, ed, q⟩ := Option.bind_eq_some_iff.mp q
  cases q
  exact ⟨δ, d, R, ed, k⟩
theorem psd_set (i : Nat) {x : Str} {pos' : Pos} (hN : X.N.Nodup) (he : PD X e f) (hi : X.N[i]? = some x := by rfl) (hx : Loc X.env.scope x := by first | exact Or.inl rfl | exact Or.inr rfl) (hs : swapsWith e (some (.Name x pos')) pos.line X.env = pure false := by rfl) (hf : X.fn x = true ∨ X.env.scope.names.lookup x = some .local := by first | exact .inl rfl | exact .inr rfl | assumption) :
    PSD X (.Assign [.Name x pos'] e pos) (sSet i f) := impS (ps_set hN hi hx he hs hf) fun E σ H ⟨δ, r, R, q, k⟩ => by
  unfold sSet at q
  obtain ⟨d, ed, q⟩ := Option.bind_eq_some_iff.mp q
  cases q
  exact ⟨δ, d, R, ed, fun v H' s1 r1 => k (σ.set i (some v)) H' s1 ((R.mono s1).set i r1)⟩
theorem psd_if {cx : Expr} {a b : List Stmt} (hc : PTD X cx c) (ha : PSsD X a s) (hb : PSsD X b u) : PSD X (.If cx a b pos) (sIf c s u) := impS (ps_if hc ha hb) fun E σ H ⟨δ, r, R, q, k⟩ => by
  unfold sIf at q
  obtain ⟨d, ed, q⟩ := Option.bind_eq_some_iff.mp q
  refine ⟨δ, d, R, ed, fun H' s1 => ?_⟩
  cases d with
  | true => rw [if_pos rfl]; exact ⟨δ, r, R.mono s1, q, k.mono s1⟩
  | false => rw [if_neg Bool.false_ne_true]; exact ⟨δ, r, R.mono s1, q, k.mono s1⟩
theorem psd_never : PSD X st sNever := impS ps_never fun E σ H ⟨δ, r, R, e, k⟩ => by cases e
def sPar (i j : Nat) (g : FA) : SD := fun δ => (g δ).bind fun ds => match ds with
  | [a, b] => some (.nx ((δ.set i (some a)).set j (some b)))
  | _ => none
theorem psd_par (i j : Nat) {x y : Str} {a b : Expr} {g : FA} {px py pt : Pos} {kt k2 pt2} (hc : X.calm = true) (hN : X.N.Nodup) (ha : PAD X [a, b] g) (hi : X.N[i]? = some x := by rfl) (hj : X.N[j]? = some y := by rfl) (hij : i ≠ j := by decide)
    (hx : X.env.scope.names.lookup x = some .local := by rfl) (hy : X.env.scope.names.lookup y = some .local := by rfl)
    (hw : swappedStores [.Tuple [.Name x px, .Name y py] kt pt] (.Tuple [a, b] k2 pt2) X.env = pure (some [x, y]) := by rfl)
    (hs : swapsWithSole [.Tuple [.Name x px, .Name y py] kt pt] (.Tuple [a, b] k2 pt2) pos.line X.env = pure false := by rfl) :
    PSD X (.Assign [.Tuple [.Name x px, .Name y py] kt pt] (.Tuple [a, b] k2 pt2) pos) (sPar i j g) := impS (ps_par hc hN hi hj hij hx hy ha hw hs) fun E σ H ⟨δ, r, R, q, k⟩ => by
  unfold sPar at q
  obtain ⟨ds, ed, q⟩ := Option.bind_eq_some_iff.mp q
  split at q
  · rename_i d1 d2
    cases q
    refine ⟨δ, _, R, ed, fun vs H' s1 r1 _ => ?_⟩
    obtain ⟨v, w, rfl, rv, rw'⟩ := reps2 r1
    exact ⟨v, w, rfl, k _ H' s1 (((R.mono s1).set i rv).set j rw')⟩
  · cases q
def sUn2 (i j : Nat) (f : FD) : SD := fun δ => (f δ).bind fun d => match d with
  | .tup [a, b] => some (.nx ((δ.set i (some a)).set j (some b)))
  | _ => none
end
def sWhile : Nat → FT → SD → SD
  | 0, _, _ => fun _ => none
  | n + 1, c, s => fun δ => (c δ).bind fun b => match b with
    | true => (s δ).bind fun r => match r with
      | .nx δ' => sWhile n c s δ'
      | .ct δ' => sWhile n c s δ'
      | .bk δ' => some (.nx δ')
      | .rt d => some (.rt d)
      | .ex C δ' => some (.ex C δ')
      | .mk C δ' => some (.mk C δ')
    | false => some (.nx δ)
theorem psd_while {X : Cx} {cx : Expr} {body : List Stmt} {c : FT} {s : SD} {pos : Pos} (n : Nat) (hp : PassesOwn (model X.prog X.w) X.A X.env X.xe) (hc : PTD X cx c) (hb : PSsD X body s) : PSD X (.While cx body [] pos) (sWhile n c s) := impS (ps_while hp hc hb) fun E σ H ⟨δ, r, R, e, k⟩ => by
  refine ⟨fun m σ H => ∃ δ r, RepS X.K H σ δ ∧ sWhile m c s δ = some r ∧ RP X E H r, ⟨n, δ, r, R, e, k⟩, ?_⟩
  rintro m σ H ⟨δ, r, R, e, k⟩
  cases m with
  | zero => exact absurd e (by intro z; cases z)
  | succ m =>
    obtain ⟨b, eb, e⟩ := Option.bind_eq_some_iff.mp (show ((c δ).bind _) = some r from e)
    refine ⟨δ, b, R, eb, fun H1 s1 => ?_⟩
    cases b with
    | true =>
      rw [if_pos rfl]
      obtain ⟨r1, e1, e⟩ := Option.bind_eq_some_iff.mp (show ((s δ).bind _) = some r from e)
      refine ⟨fun σ' H' => ∃ m', m' < m + 1 ∧ ∃ δ r, RepS X.K H' σ' δ ∧ sWhile m' c s δ = some r ∧ RP X E H' r, fun _ _ z => z, ⟨δ, r1, R.mono s1, e1, ?_⟩⟩
      cases r1 with
      | nx δ' => exact fun σ' H' s2 R2 => ⟨m, Nat.lt_succ_self m, δ', r, R2, e, k.mono (s1.trans s2)⟩
      | ct δ' => exact fun σ' H' s2 R2 => ⟨m, Nat.lt_succ_self m, δ', r, R2, e, k.mono (s1.trans s2)⟩
      | bk δ' => cases e; exact fun σ' H' s2 R2 => k σ' H' (s1.trans s2) R2
      | rt d => cases e; exact fun v H' s2 R2 => k v H' (s1.trans s2) R2
      | ex C δ' => cases e; exact fun σ' H' s2 R2 => k σ' H' (s1.trans s2) R2
      | mk C δ' => cases e; exact fun σ' H' s2 R2 => k σ' H' (s1.trans s2) R2
    | false =>
      rw [if_neg Bool.false_ne_true]
      cases e
      exact k σ H1 s1 (R.mono s1)
def ItD (K : PySem.W.Frag) (J : It) (H1 : Hp) (ds : List D) : Prop := ∀ i H2, Same H1 H2 →
  (i < ds.length → J.go i H2 ∧ ∀ x H', J.yld i H2 x H' → Same H2 H' ∧ ∃ d, ds[i]? = some d ∧ Rep K H' x d) ∧ (ds.length ≤ i → J.stop i H2)
def upI (K : PySem.W.Frag) (src : FA) : TI := fun σ H R => ∃ δ ds, RepS K H σ δ ∧ src δ = some ds ∧ ∀ J H1, Same H H1 → ItD K J H1 ds → R J H1
def PID (X : Cx) (tg iter : Expr) (src : FA) : Prop := PI X tg iter (upI X.K src)
theorem impI {X : Cx} {tg iter : Expr} {t t' : TI} (h : PI X tg iter t) (w : ∀ σ H R, t' σ H R → t σ H R) : PI X tg iter t' := fun pins s σ H R I q => h pins s σ H R I (w σ H R q)
def asL : D → Option (List D)
  | .lst ds => some ds
  | .seq ds => some ds
  | _ => none
theorem it_list {K : PySem.W.Frag} {H1 : Hp} {a : Addr} {vs : List V} {ds : List D} (hq : SqL K H1 a vs) (r : Reps K H1 vs ds) : ItD K (Itl K a) H1 ds := by
  intro i H2 s
  have hq2 := s.seq hq
  have r2 := r.mono s
  have hl := r2.length
  refine ⟨fun hi => ⟨⟨vs, vs[i], hq2, by simp [show i < vs.length by omega]⟩, fun x H' y => ?_⟩, fun hi => ⟨vs, hq2, by omega⟩⟩
  obtain ⟨e, y⟩ := y
  subst e
  obtain ⟨d, h1, h2⟩ := r2.getV (y vs hq2)
  exact ⟨Same.refl _, d, h1, h2⟩
theorem pid_list {X : Cx} {tg l : Expr} {f : FD} (hl : PD X l f) : PID X tg l (fun δ => (f δ).bind asL) := impI (pi_list hl) fun σ H R ⟨δ, ds, R0, e, k⟩ => by
  obtain ⟨d, ed, e⟩ := Option.bind_eq_some_iff.mp e
  refine ⟨δ, d, R0, ed, fun v H1 s1 r1 => ?_⟩
  cases r1 with
  | @lst p vs es hp rp => cases e; exact ⟨p, rfl, ⟨vs, SqL.of hp⟩, k _ H1 s1 (it_list (SqL.of hp) rp)⟩
  | @seq p vs es hp rp => cases e; exact ⟨p, rfl, ⟨vs, hp⟩, k _ H1 s1 (it_list hp rp)⟩
  | _ => cases e
def upG (K : PySem.W.Frag) (g : D → DS → Option DS) : TG := fun v σ H Q => ∃ d δ δ', Rep K H v d ∧ RepS K H σ δ ∧ g d δ = some δ' ∧ ∀ σ', RepS K H σ' δ' → Q σ' H
def PGD (X : Cx) (tg : Expr) (g : D → DS → Option DS) : Prop := PG X tg (upG X.K g)
def gSet (i : Nat) : D → DS → Option DS := fun d δ => some (δ.set i (some d))
def forD (g : D → DS → Option DS) (s : SD) : List D → SD
  | [] => fun δ => some (.nx δ)
  | d :: ds => fun δ => (g d δ).bind fun δ1 => (s δ1).bind fun r => match r with
    | .nx δ' => forD g s ds δ'
    | .ct δ' => forD g s ds δ'
    | .bk δ' => some (.nx δ')
    | .rt d => some (.rt d)
    | .ex C δ' => some (.ex C δ')
    | .mk C δ' => some (.mk C δ')
def sFor (src : FA) (g : D → DS → Option DS) (s : SD) : SD := fun δ => (src δ).bind fun ds => forD g s ds δ
def retOf : Option Res → Option D
  | some (.rt d) => some d
  | some (.nx _) => some .non
  | _ => none
def start (n : Nat) (ds : List D) : DS := ds.map some ++ List.replicate (n - ds.length) none
section
variable {P : Program} {w : World} {K : PySem.W.Frag} {mg : Str → Option Value} {base : Heap}
theorem pure_ok {x qual : Str} {st : Stmt} {f : Addr} {fd : FuncData} {N ps : List Str} {k : Nat} {G : List D → Option D} (F : Fun K x qual st f fd) (S : FnScope N ps (defScope st))
    (hbody : ∀ (cdv : Value) (A : Around) (outer : List Env) (s : Shared) (H : Hp) (E : XK) (ds : List D) (d : D), Room k (A.deeper (envOfC qual (defScope st) s.heap.objs.size f cdv)) → G ds = some d → ds.length = ps.length →
      ∃ t, PSsD (cxOf CX0 P w K mg base N qual (defScope st) f cdv A outer s H E).nox (defBody st) t ∧ retOf (t (start N.length ds)) = some d) : FnOk P w K mg base CX0 (k + 1) f fd ps (pureSp K ps.length G) := by
  refine F.ok S (fun vs H Q E h => h.1) (fun cdv A outer s H vs Q E hr h => ?_)
  obtain ⟨hl, ds, d, r, e, q⟩ := h
  obtain ⟨t, ht, hq⟩ := hbody cdv A outer s H E ds d hr e (r.length.symm.trans hl)
  refine ⟨_, ht, start N.length ds, ?_⟩
  cases z : t (start N.length ds) with
  | none => rw [z] at hq; cases hq
  | some res =>
    rw [z] at hq
    refine ⟨res, RepS.start r, rfl, ?_⟩
    cases res with
    | rt d' => cases hq; exact q
    | nx δ => cases hq; exact fun σ' H' s1 _ => q _ H' s1 .non
    | bk δ => cases hq
    | ct δ => cases hq
    | ex C δ => cases hq
    | mk C δ => cases hq
structure Has (P : Program) (w : World) (K : PySem.W.Frag) (mg : Str → Option Value) (base : Heap) (k : Nat) (x : Str) (ps : List Str) (G : List D → Option D) : Prop where
  ex : ∃ f fd, FnOk P w K mg base CX0 k f fd ps (pureSp K ps.length G) ∧ mg x = some (.ref f) ∧ PySem.W.keepIn K (.ref f) = true ∧ Binds K fd ps []
end
theorem pd_callH {X : Cx} {e : Expr} {es : List Expr} {g : FA} {pos p : Pos} {k j : Nat} {x : Str} {ps : List Str} {G : List D → Option D} (F : Has X.prog X.w X.K X.mg X.base k x ps G) (hr : Room j X.A) (ha : PAD X (e :: es) g) (hk : k ≤ j := by decide) (hg : Gl X x := by rfl)
    (hn : (e :: es).length = ps.length := by rfl) (hdb : (x == ("__debug__" : Str)) = false := by decide) (he : starEach (e :: es) X.env = (false, eval e X.env) :: starEach es X.env := by rfl) (hpl : (backTo pos (starEach es X.env)).any (·.1) = false := by rfl) :
    PD X (.Call (.Name x p) (e :: es) [] pos) (fCall G g) := by
  obtain ⟨f, fd, F, hm, kp, hb⟩ := F.ex
  exact pd_call F (hr.mono hk) hg hm kp hb ha hn hdb he hpl
end Dl
namespace Dl
open PySem PySem.Spec PyProof.Rows L2
def spLaw (K : PySem.W.Frag) : Sp := fun vs H Q _ => ∃ (a : Addr) (ns : List Int), vs = [.ref a] ∧ SqL K H a (ns.map V.int) ∧ ns.length ≤ 63 ∧ ∀ H', Q (.bl true) H'
end Dl
namespace Dl
noncomputable def fn (S : List D → D → Prop) : List D → Option D := fun ds => by
  classical exact if h : ∃ d, S ds d then some h.choose else none
theorem fn_inv {S : List D → D → Prop} {ds : List D} {d : D} (h : fn S ds = some d) : S ds d := by
  unfold fn at h
  split at h
  · rename_i q
    have e := Option.some.inj h
    rw [← e]
    exact q.choose_spec
  · cases h
theorem fn_eq {S : List D → D → Prop} {ds : List D} {d : D} (u : ∀ d', S ds d' → d' = d) (h : S ds d) : fn S ds = some d := by
  unfold fn
  have q : ∃ d, S ds d := ⟨d, h⟩
  rw [dif_pos q]
  exact congrArg some (u _ q.choose_spec)
theorem gNe_int (a b : Int) : gNe (.int a) (.int b) = some (.bl (!(a == b))) := rfl
theorem gEq_int (a b : Int) : gEq (.int a) (.int b) = some (.bl (a == b)) := rfl
theorem gEq_bl (a b : Bool) : gEq (.bl a) (.bl b) = some (.bl (a == b)) := rfl
theorem gEq_tup2 (a b c d : Int) : gEq (.tup [.int a, .int b]) (.tup [.int c, .int d]) = some (.bl (a == c && b == d)) := by
  show some (D.bl (a == c && (b == d && true))) = _
  rw [Bool.and_true]
theorem gNe_tup2 (a b c d : Int) : gNe (.tup [.int a, .int b]) (.tup [.int c, .int d]) = some (.bl (!(a == c && b == d))) := by
  show some (D.bl (!(a == c && (b == d && true)))) = _
  rw [Bool.and_true]
theorem gAdd_int (a b : Int) : gAdd (.int a) (.int b) = some (.int (a + b)) := rfl
theorem gI_pos {C : Int → Int → Prop} [∀ i j, Decidable (C i j)] {g : Int → Int → D} {i j : Int} (h : C i j) : gI C g (.int i) (.int j) = some (g i j) := if_pos h
end Dl
namespace Dl
theorem gIsi_same (n : String) (p : D → Option Bool) (d : D) : gIsi n p [d, .ty n] = (p d).map D.bl := if_pos rfl
theorem gIx_t0 (a b : D) : gIx (.tup [a, b]) (.int 0) = some a := rfl
theorem gIx_t1 (a b : D) : gIx (.tup [a, b]) (.int 1) = some b := rfl
theorem gLen_t2 (a b : D) : gLen [.tup [a, b]] = some (.int 2) := rfl
theorem gLen_seq (ds : List D) : gLen [.seq ds] = some (.int ds.length) := rfl
theorem sWhile_t {n : Nat} {c : FT} {s : SD} {δ δ' : DS} (hc : c δ = some true) (hs : s δ = some (.nx δ')) : sWhile (n + 1) c s δ = sWhile n c s δ' := by
  simp only [sWhile, hc, hs, Option.bind_some]
theorem bd_le {x y : Int} (h0 : 0 ≤ x) (h : x ≤ y) (hy : Bd y) : Bd x := Nat.lt_of_le_of_lt (show x.natAbs ≤ y.natAbs by omega) hy
end Dl
namespace Dl
open PySem PySem.Spec PyProof.Rows L2
abbrev FO := DS → Option (Option Int)
def faN : FO := fun _ => some none
def asI : D → Option (Option Int)
  | .int i => some (some i)
  | _ => none
def faS (f : FD) : FO := fun δ => (f δ).bind asI
def sIxD (n d : Nat) : Option Int → Nat
  | none => d
  | some v => if v < 0 then (v + (n : Int)).toNat else min v.toNat n
def cutD (ds : List D) (lo hi : Option Int) : List D := (ds.drop (sIxD ds.length 0 lo)).take (sIxD ds.length ds.length hi - sIxD ds.length 0 lo)
def fSl (f : FD) (lo hi : FO) : FD := fun δ => (f δ).bind fun d => (asL d).bind fun ds => (lo δ).bind fun l => (hi δ).bind fun h => some (.lst (cutD ds l h))
def dfl (G : List D → Option D) (dv : List Int) : List D → Option D := fun ds => G (ds ++ dv.map D.int)
def mapO (g : D → Option D) : List D → Option (List D)
  | [] => some []
  | d :: ds => (g d).bind fun x => (mapO g ds).bind fun xs => some (x :: xs)
def slotsOf (js : List Nat) (δ : DS) : DS := js.map fun j => match δ[j]? with
  | some o => o
  | none => none
def fComp (src : FA) (js : List Nat) (elt : FD) : FD := fun δ => (src δ).bind fun ds => (mapO (fun d => elt (some d :: slotsOf js δ)) ds).bind fun xs => if xs.length ≤ 1000 then some (.lst xs) else none
def rangeD (a b c : Int) : List D := (List.range ((b - a + c - 1) / c).toNat).map fun i => .int (a + (i : Nat) * c)
def asR : List D → Option (List D)
  | [.int b] => if -(2 ^ 62) ≤ b ∧ b < 2 ^ 62 then some (rangeD 0 b 1) else none
  | [.int a, .int b] => if -(2 ^ 62) ≤ a ∧ a < 2 ^ 62 ∧ -(2 ^ 62) ≤ b ∧ b < 2 ^ 62 then some (rangeD a b 1) else none
  | [.int a, .int b, .int c] => if -(2 ^ 62) ≤ a ∧ a < 2 ^ 62 ∧ -(2 ^ 62) ≤ b ∧ b < 2 ^ 62 ∧ c = 2 then some (rangeD a b c) else none
  | _ => none
def srcR (g : FA) : FA := fun δ => (g δ).bind asR
end Dl
namespace Dl
theorem cutD_ints (ns : List Int) (lo hi : Option Int) : ∃ ms : List Int, cutD (ns.map D.int) lo hi = ms.map D.int := by
  unfold cutD
  exact ⟨_, by rw [← List.map_drop, ← List.map_take]⟩
end Dl
namespace Dl
open PySem PySem.Spec PyProof.Rows L2
structure FunD (K : PySem.W.Frag) (x qual : Str) (st : Stmt) (f : Addr) (fd : FuncData) (dV : Value) : Prop where
  ex : ∃ (oc : Value) (od : Option Addr) (kV doc pm : Value) (an : Option Addr) (cdv ct : Value) (osl : Array (Option Value)),
    fd = PySem.W.fnOf x qual (defArgs st) (defBody st) (defScope st) dV kV doc pm an cdv ct ∧ K.lookup f = some ⟨oc, od, .func fd, osl⟩ ∧ PySem.W.codeIn K cdv qual = true
  kp : PySem.W.keepIn K (.ref f) = true
section
variable {P : Program} {w : World} {K : PySem.W.Frag} {mg : Str → Option Value} {base : Heap}
theorem pure_okD {x qual : Str} {st : Stmt} {f : Addr} {fd : FuncData} {dV : Value} {N ps : List Str} {k : Nat} {G : List D → Option D} (F : FunD K x qual st f fd dV) (S : FnScope N ps (defScope st))
    (hbody : ∀ (cdv : Value) (A : Around) (outer : List Env) (s : Shared) (H : Hp) (E : XK) (ds : List D) (d : D), Room k (A.deeper (envOfC qual (defScope st) s.heap.objs.size f cdv)) → G ds = some d → ds.length = ps.length →
      ∃ t, PSsD (cxOf CX0 P w K mg base N qual (defScope st) f cdv A outer s H E).nox (defBody st) t ∧ retOf (t (start N.length ds)) = some d) : FnOk P w K mg base CX0 (k + 1) f fd ps (pureSp K ps.length G) := by
  obtain ⟨oc, od, kV, doc, pm, an, cdv, ct, osl, rfl, lk, hcd⟩ := F.ex
  refine fn_of lk hcd S (fun vs H Q E h => h.1) fun A outer s H vs Q E hr hsp => ?_
  obtain ⟨hl, ds, d, r, e, q⟩ := hsp
  obtain ⟨t, ht, hq⟩ := hbody cdv A outer s H E ds d hr e (r.length.symm.trans hl)
  refine ⟨_, ht.nox, start N.length ds, ?_⟩
  cases z : t (start N.length ds) with
  | none => rw [z] at hq; cases hq
  | some res =>
    rw [z] at hq
    refine ⟨res, RepS.start r, rfl, ?_⟩
    cases res with
    | rt d' => cases hq; exact q
    | nx δ => cases hq; exact fun σ' H' s1 _ => q _ H' s1 .non
    | bk δ => cases hq
    | ct δ => cases hq
    | ex C δ => cases hq
    | mk C δ => cases hq
theorem FunD.binds {x qual : Str} {st : Stmt} {f T : Addr} {fd : FuncData} {ps : List Str} {o : Obj} {items : Array Value} {n : Nat} {ds : List Value} (F : FunD K x qual st f fd (.ref T)) (ho : K.lookup T = some o) (hs : o.data = .seq items n)
    (h : ∀ (kV doc pm : Value) (an : Option Addr) (cdv ct : Value) (us : List Value), (us ++ ds).length = ps.length → ∃ k, bindArgs (PySem.W.fnOf x qual (defArgs st) (defBody st) (defScope st) (.ref T) kV doc pm an cdv ct) ⟨us, []⟩ = seqItems? (.ref T) >>= k ∧ k (some items) = pure (ps.zip (us ++ ds))) : Binds K fd ps ds := by
  obtain ⟨oc, od, kV, doc, pm, an, cdv, ct, osl, rfl, lk, hcd⟩ := F.ex
  intro s us KI hl
  obtain ⟨k, h1, h2⟩ := h kV doc pm an cdv ct us hl
  exact PySem.W.binds_K KI rfl ho hs h1 h2
theorem fun_mkD {x qual : Str} {st : Stmt} {f : Addr} {oc dV : Value} {od an : Option Addr} {osl : Array (Option Value)} {kV doc pm cdv ct : Value} (l : K.lookup f = some ⟨oc, od, .func (PySem.W.fnOf x qual (defArgs st) (defBody st) (defScope st) dV kV doc pm an cdv ct), osl⟩)
    (c : PySem.W.codeIn K cdv qual = true) (k : PySem.W.keepIn K (.ref f) = true) : FunD K x qual st f (PySem.W.fnOf x qual (defArgs st) (defBody st) (defScope st) dV kV doc pm an cdv ct) dV := ⟨⟨oc, od, kV, doc, pm, an, cdv, ct, osl, rfl, l, c⟩, k⟩
structure HasD (P : Program) (w : World) (K : PySem.W.Frag) (mg : Str → Option Value) (base : Heap) (k : Nat) (x : Str) (ps : List Str) (dv : List Int) (G : List D → Option D) : Prop where
  ex : ∃ f fd ds, FnOk P w K mg base CX0 k f fd ps (pureSp K ps.length G) ∧ mg x = some (.ref f) ∧ PySem.W.keepIn K (.ref f) = true ∧ Vals (dv.map V.int) ds ∧ Binds K fd ps ds
end
theorem pd_callD {X : Cx} {e : Expr} {es : List Expr} {g : FA} {pos p : Pos} {k j : Nat} {x : Str} {ps : List Str} {dv : List Int} {G : List D → Option D} (F : HasD X.prog X.w X.K X.mg X.base k x ps dv G) (hr : Room j X.A) (ha : PAD X (e :: es) g) (hk : k ≤ j := by decide) (hg : Gl X x := by rfl)
    (hn : (e :: es).length + dv.length = ps.length := by rfl) (hdb : (x == ("__debug__" : Str)) = false := by decide) (he : starEach (e :: es) X.env = (false, eval e X.env) :: starEach es X.env := by rfl) (hpl : (backTo pos (starEach es X.env)).any (·.1) = false := by rfl) :
    PD X (.Call (.Name x p) (e :: es) [] pos) (fCall (dfl G dv) g) := by
  obtain ⟨f, fd, ds, F, hm, kp, hv, hb⟩ := F.ex
  refine imp (pe_call F (hr.mono hk) hg hm kp hb hv pass0 ha hdb he hpl) fun σ H Q ⟨δ, d, R, q, k⟩ => ?_
  unfold fCall at q
  obtain ⟨ds, eds, q⟩ := Option.bind_eq_some_iff.mp q
  refine ⟨δ, ds, R, eds, fun vs H1 s1 r1 l => ?_⟩
  exact ⟨by rw [List.length_append, l, List.length_map]; exact hn, ds ++ dv.map D.int, d, r1.append (Reps.ints dv), q, fun v H' s => k v H' (s1.trans s)⟩
def upO (K : PySem.W.Frag) (f : FO) : TO := fun σ H Q => ∃ δ o, RepS K H σ δ ∧ f δ = some o ∧ ∀ H', Same H H' → Q o H'
def POD (X : Cx) (e : Option Expr) (f : FO) : Prop := PO X e (upO X.K f)
theorem sIxD_eq (n d : Nat) (o : Option Int) : sIxD n d o = HT.sIx n d o := by cases o <;> rfl
theorem cut_reps {K : PySem.W.Frag} {H : Hp} {vs : List V} {ds : List D} (r : Reps K H vs ds) (lo hi : Option Int) : Reps K H (cutV vs lo hi) (cutD ds lo hi) := by
  unfold cutV cutD
  rw [r.length, sIxD_eq, sIxD_eq]
  exact (r.drop _).take _
section
variable {X : Cx} {e : Expr} {f : FD} {lo hi : Option Expr} {fl fh : FO} {pos p2 : Pos}
theorem pod_none : POD X none faN := fun pins s σ H Q I ⟨δ, o, R, q, k⟩ => po_none pins s σ H Q I (by cases q; exact k H (Same.refl H))
theorem pod_some (h : PD X e f) : POD X (some e) (faS f) := fun pins s σ H Q I ⟨δ, o, R, q, k⟩ => po_some h pins s σ H Q I (by
  unfold faS at q
  obtain ⟨d, ed, q⟩ := Option.bind_eq_some_iff.mp q
  refine ⟨δ, d, R, ed, fun v H1 s1 r1 => ?_⟩
  cases r1 with
  | int i => cases q; exact ⟨i, rfl, k H1 s1⟩
  | _ => cases q)
theorem pd_slice (he : PD X e f) (hl : POD X lo fl) (hu : POD X hi fh) : PD X (.Subscript e (.Slice lo hi none p2) pos) (fSl f fl fh) := imp (pe_slice sl_list he hl hu) fun σ H Q ⟨δ, d, R, q, k⟩ => by
  unfold fSl at q
  obtain ⟨x, ex, q⟩ := Option.bind_eq_some_iff.mp q
  obtain ⟨ds, eds, q⟩ := Option.bind_eq_some_iff.mp q
  obtain ⟨l, el, q⟩ := Option.bind_eq_some_iff.mp q
  obtain ⟨h, eh, q⟩ := Option.bind_eq_some_iff.mp q
  cases q
  refine ⟨δ, x, R, ex, fun v H1 s1 r1 => ⟨δ, l, R.mono s1, el, fun H2 s2 => ⟨δ, h, (R.mono s1).mono s2, eh, fun H3 s3 => ?_⟩⟩⟩
  have r3 := (r1.mono s2).mono s3
  have fin : ∀ (a : Addr) (vs : List V), SqL X.K H3 a vs → Reps X.K H3 vs ds → rSlL X.K (.ref a) l h H3 Q := fun a vs hq rp => by
    refine ⟨a, vs, rfl, hq, fun p hp => ?_⟩
    have s := same_new hp (.lst (cutV vs l h))
    exact k _ _ (((s1.trans s2).trans s3).trans s) (.lst upd_same ((cut_reps rp l h).mono s))
  cases r3 with
  | @lst p vs es hp rp => cases eds; exact fin p vs (SqL.of hp) rp
  | @seq p vs es hp rp => cases eds; exact fin p vs hp rp
  | _ => cases eds
end
section
variable {prog : Program} {w : World} {A : Around} {E : Value → Shared → Prop}
end
theorem range_ints {K : PySem.W.Frag} {H : Hp} {lo : Int} {n : Nat} : ItD K (Itr lo n) H ((List.range n).map fun (i : Nat) => D.int (lo + (i : Int) * 1)) := by
  intro i H2 s
  refine ⟨fun hi => ?_, fun hi => (show n ≤ i by simpa using hi)⟩
  have hi' : i < n := by simpa using hi
  refine ⟨hi', fun x H' y => ?_⟩
  obtain ⟨e, y⟩ := y
  subst e y
  refine ⟨Same.refl _, .int (lo + (i : Int) * 1), ?_, by rw [Int.mul_one]; exact .int _⟩
  rw [List.getElem?_map, List.getElem?_range hi']
  rfl
theorem pid_range1 {X : Cx} {tg a : Expr} {g : FA} {p pos : Pos} (hg : Gl X "range") (hm : X.mg "range" = none) (ha : PAD X [a] g) (hs : starEach [a] X.env = [(false, eval a X.env)] := by rfl) : PID X tg (.Call (.Name "range" p) [a] [] pos) (srcR g) :=
  impI (pi_range1 hg hm ha hs) fun σ H R ⟨δ, ds, R0, e, k⟩ => by
  unfold srcR at e
  obtain ⟨xs, exs, e⟩ := Option.bind_eq_some_iff.mp e
  refine ⟨δ, xs, R0, exs, fun vs H1 s1 r1 l => ?_⟩
  match xs, r1, e with
  | [.int b], r1, e =>
    obtain ⟨v, rfl, rv⟩ := reps1 r1
    cases rv
    have e' : (if -(2 ^ 62) ≤ b ∧ b < 2 ^ 62 then some (rangeD 0 b 1) else none) = some ds := e
    by_cases hb : -(2 ^ 62) ≤ b ∧ b < 2 ^ 62
    · rw [if_pos hb] at e'
      have e2 : rangeD 0 b 1 = ds := Option.some.inj e'
      refine ⟨b, rfl, hb.1, hb.2, k _ H1 s1 ?_⟩
      have h := range_ints (K := X.K) (H := H1) (lo := 0) (n := b.toNat)
      have e3 : ((b - 0 + 1 - 1) / 1).toNat = b.toNat := by congr 1; omega
      unfold rangeD at e2
      rw [e3] at e2
      rw [← e2]
      exact h
    · rw [if_neg hb] at e'; cases e'
  | [], r1, e => cases r1; cases l
  | _ :: _ :: _, r1, e => 
    have := r1.length
    rw [l] at this
    cases this
  | [.non], r1, e => cases e
  | [.bl _], r1, e => cases e
  | [.str _], r1, e => cases e
  | [.tup _], r1, e => cases e
  | [.lst _], r1, e => cases e
  | [.seq _], r1, e => cases e
  | [.ty _], r1, e => cases e
  | [.dct], r1, e => cases e
  | [.exc _], r1, e => cases e
  | [.cls _], r1, e => cases e
  | [.ms _ _], r1, e => cases e
  | [.mf _ _], r1, e => cases e
  | [.md _ _], r1, e => cases e
end Dl
namespace Dl
open PySem PySem.Spec PyProof.Rows L2
structure CompOk (X : Cx) (scope : Scope) (cl : List (Str × Addr)) (x : Str) (N : List Str) (js : List Nat) : Prop where
  clos : closureFor scope X.env = pure cl
  nocell : ∀ y ∈ scope.names, y.2 ≠ .cell
  kind : scope.kind = .function
  names : ∀ y ∈ scope.names, y.2 = .local → scope.names.lookup y.1 = some .local
  hx : scope.names.lookup x = some .local
  nd : N.Nodup
  h0 : N[0]? = some x
  len : N.length = js.length + 1
  clx : cl.lookup x = none
  cls : ∀ y c, cl.lookup y = some c → X.env.cells.lookup y = some c
  has : ∀ y, ((relabel scope X.env).names.lookup y = some .cell ∨ (relabel scope X.env).names.lookup y = some .free) → ∃ c, cl.lookup y = some c
  fr : ∀ i y j, N[i + 1]? = some y → js[i]? = some j → X.N[j]? = some y ∧ X.env.scope.names.lookup y = some .cell ∧ (relabel scope X.env).names.lookup y = some .cell ∧ ∀ c, X.env.cells.lookup y = some c → cl.lookup y = some c
abbrev cxComp (X : Cx) (scope : Scope) (cl : List (Str × Addr)) (x : Str) (N : List Str) (C : Addr) (s₂ : Shared) (H₂ : Hp) (fp : List Addr) (pn : List (Addr × Obj)) : Cx :=
  { X with env := compEnvC scope cl C X.env, N := N, s₀ := s₂, H₀ := H₂, outer := X.stack, stack := X.stack, ex := fp, fn := fun y => y == x, calm := true, pn := pn, xe := fun _ _ => False }
section
variable {X : Cx} {pins : List (Addr × Obj)} {σ : L2.St} {H₂ : Hp} {s₂ : Shared} {scope : Scope} {cl : List (Str × Addr)} {x : Str} {N : List Str} {js : List Nat} {C : Addr} {fp : List Addr}
theorem compOk_cx (I : L2.Inv X pins σ H₂ s₂) (hcm : X.calm = true) (O : CompOk X scope cl x N js) (hC : s₂.heap.objs.size ≤ C) (hf : ∀ b ∈ fp, FpOk X pins H₂ b) (ho : ∀ b ∈ fp, ∃ o, s₂.heap.get? b = some o) : (cxComp X scope cl x N C s₂ H₂ fp (X.pn ++ pins)).Ok where
  mod := I.ok.mod
  kind := O.kind
  glob := I.ok.glob
  blt := I.ok.blt
  above := hC
  inj := fun y z c h1 h2 => I.ok.inj y z c (O.cls y c h1) (O.cls z c h2)
  has := fun y h => O.has y h
  cab := fun y c h1 h2 => by
    have e : y = x := by simpa using h1
    subst e
    have : cl.lookup y = some c := h2
    rw [O.clx] at this
    cases this
  hd := fun _ => I.ok.hd hcm
  frames := I.ok.frames
  stk := .inl rfl
  exf := fun b hb => by
    obtain ⟨o, e⟩ := ho b hb
    refine ⟨Nat.ne_of_lt (Nat.lt_of_lt_of_le (Heap.lt_size e) hC), fun y c h z => ?_⟩
    exact (hf b hb).2.2.2.2.1 y c (O.cls y c h) z
  bs := I.bs
  bsz := Nat.le_trans I.ok.bsz I.sz
  noex := fun b o e hb => by
    rcases (hf b hb).2.2.2.1 with z | z
    · exact I.ok.noex b o e z
    · exact absurd (Nat.lt_of_lt_of_le (Heap.lt_size e) (Nat.le_trans I.ok.bsz z)) (Nat.lt_irrefl _)
  exfs := fun b hb z => by
    rcases List.mem_cons.mp (I.stkSub b z) with e | e
    · exact (hf b hb).2.1 e
    · exact (hf b hb).2.2.1 e
  funs := I.stack
  frf := I.stkFree
end
theorem mapO_get {g : D → Option D} : ∀ {ds xs : List D}, mapO g ds = some xs → xs.length = ds.length ∧ ∀ (i : Nat) d, ds[i]? = some d → ∃ e, g d = some e ∧ xs[i]? = some e
  | [], xs, h => by
    cases h
    exact ⟨rfl, fun i d e => by simp at e⟩
  | d :: ds, xs, h => by
    obtain ⟨x, ex, h⟩ := Option.bind_eq_some_iff.mp (show ((g d).bind _) = some xs from h)
    obtain ⟨ys, ey, h⟩ := Option.bind_eq_some_iff.mp h
    cases h
    obtain ⟨h1, h2⟩ := mapO_get ey
    refine ⟨by simp [h1], fun i e he => ?_⟩
    cases i with
    | zero => simp at he; subst he; exact ⟨x, ex, rfl⟩
    | succ i =>
      obtain ⟨z, hz1, hz2⟩ := h2 i e (by simpa using he)
      exact ⟨z, hz1, by simpa using hz2⟩
def slotsV (js : List Nat) (σ : L2.St) : L2.St := js.map fun j => match σ[j]? with
  | some o => o
  | none => none
theorem slots_rep {K : PySem.W.Frag} {H : Hp} {σ : L2.St} {δ : DS} (R : RepS K H σ δ) (js : List Nat) : RepS K H (none :: slotsV js σ) (none :: slotsOf js δ) := by
  refine ⟨by simp [slotsV, slotsOf], fun i d q => ?_⟩
  cases i with
  | zero => simp at q
  | succ i =>
    have q' : (slotsOf js δ)[i]? = some (some d) := by simpa using q
    unfold slotsOf at q'
    rw [List.getElem?_map] at q'
    obtain ⟨j, h1, h2⟩ := Option.map_eq_some_iff.mp q'
    cases h3 : δ[j]? with
    | none => rw [h3] at h2; cases h2
    | some o =>
      rw [h3] at h2
      have h2' : o = some d := h2
      subst h2'
      obtain ⟨v, h4, h5⟩ := R.val j d h3
      refine ⟨v, ?_, h5⟩
      show (slotsV js σ)[i]? = some (some v)
      unfold slotsV
      rw [List.getElem?_map, h1]
      show some (match σ[j]? with | some o => o | none => none) = some (some v)
      rw [h4]
theorem bindF {α β:Type} {M:Model} {A:Around} {m:Sem α} {f:α->Sem β} {Q:α->Shared->Prop} {R:β->Shared->Prop} {E:Value->Shared->Prop} {s:Shared} (h:wpAny M A m Q (fun _ _=>False) s) (k:∀ a s',Q a s'->wpAny M A (f a) R E s'):wpAny M A (m>>=f) R E s:=wpAny_bind (wpAny_mono h k fun _ _=>False.elim)
theorem compLoop_own {prog : Program} {w : World} {A : Around} {R : Result → Shared → Prop} {s : Shared} {elt target iter : Expr} {scope : Scope} {pos : Pos} {it acc : Value} {env : Env} (J : Nat → Shared → Prop)
    (turn : ∀ n s, J n s → wpAny (model prog w) A (pyNext it) (fun r s₁ => match r with
      | none => R (.ok .next) s₁
      | some v => wpAny (model prog w) A (letOwnedTupleGo target it v) (fun _ s₂ => wpAny (model prog w) A (assign target env v) (fun _ s₃ => wpAny (model prog w) A (eval elt env) (fun y s₄ =>
          wpAny (model prog w) A (call (.builtin "list.append") [acc, y]) (fun _ s₅ => ∃ m, m < n ∧ J m s₅) (fun _ _ => False) s₄) (fun _ _ => False) s₃) (fun _ _ => False) s₂) (fun _ _ => False) s₁) (fun _ _ => False) s)
    (n : Nat) (h : J n s) : codeAny (model prog w) A (.compLoop (.ListComp elt [⟨target, iter, [], 0⟩] scope pos) 0 it acc env) R s := by
 refine codeAny_loop rfl J (fun n s j=>wpAny_noted (m:=compTurn (.ListComp elt [⟨target,iter,[],0⟩] scope pos) 0 it acc env) (compTurn_list1 elt target iter scope pos it acc env▸wpAny_bind (wpAny_standAt (bindF (turn n s j) fun r _ q=>?_)))) n h
 cases r with
 | none=>exact wpAny_pure q
 | some v=>
  exact bindF q fun _ _ q=>bindF q fun _ _ q=>wpAny_bind (bindF q fun _ _ q=>bindF q fun _ _ q=>wpAny_pure (wpAny_pure ⟨rfl,q⟩))
section
variable {X : Cx} {pins : List (Addr × Obj)} {σ : L2.St} {H₂ : Hp} {s₂ : Shared} {scope : Scope} {cl : List (Str × Addr)} {x : Str} {N : List Str} {js : List Nat} {C : Addr} {fp : List Addr}
theorem notIn_stack (I : L2.Inv X pins σ H₂ s₂) {a : Addr} (h : s₂.heap.objs.size ≤ a) : a ∉ frs X.stack := fun z => by
  rcases List.mem_cons.mp (I.stkSub a z) with e | e
  · exact absurd (Nat.lt_of_lt_of_le I.lt (by rw [← e]; exact h)) (Nat.lt_irrefl _)
  · exact I.nofs h e
theorem comp_start {h₁ : Heap} {m : Str → Option Value} {tk : Nat} (I : L2.Inv X pins σ H₂ s₂) (hcm : X.calm = true) (O : CompOk X scope cl x N js) (hC : s₂.heap.objs.size ≤ C) (hf : ∀ b ∈ fp, FpOk X pins H₂ b) (ho : ∀ b ∈ fp, ∃ o, s₂.heap.get? b = some o)
    (old : ∀ b o, s₂.heap.get? b = some o → h₁.get? b = some o) (hns : h₁.Ns C m) (hl : σ.length = X.N.length) : L2.Inv (cxComp X scope cl x N C s₂ H₂ fp (X.pn ++ pins)) [] (none :: slotsV js σ) H₂ { s₂ with heap := h₁, toks := tk } where
  ok := compOk_cx I hcm O hC hf ho
  os := rfl
  bare := I.bare
  base := Un.kept old
  loc := by
    refine ⟨m, hns, fun i y v h1 h2 h3 => ?_⟩
    cases i with
    | zero => simp at h2
    | succ i =>
      have h2' : (slotsV js σ)[i]? = some (some v) := by simpa using h2
      unfold slotsV at h2'
      rw [List.getElem?_map] at h2'
      obtain ⟨j, hj, h4⟩ := Option.map_eq_some_iff.mp h2'
      have h5 : σ[j]? = some (some v) := by
        cases q : σ[j]? with
        | none => rw [q] at h4; cases h4
        | some o => rw [q] at h4; exact congrArg some h4
      obtain ⟨f1, f2, f3, f4⟩ := O.fr i y j h1 hj
      obtain ⟨m', hn', hl'⟩ := I.loc
      obtain ⟨u, ru, lk⟩ := hl' j y v f1 h5 (.inr (.inl f2))
      refine ⟨u, ru, ?_⟩
      rcases lk with ⟨k1, _⟩ | ⟨_, c, hc, o, hco, hcd⟩
      · have : X.env.scope.names.lookup y = some .local := k1
        rw [f2] at this
        cases this
      · exact .inr ⟨.inl f3, c, f4 c hc, o, old c o hco, hcd⟩
  cell := fun y c e => by
    obtain ⟨v, o, h1, h2⟩ := I.cell y c (O.cls y c e)
    exact ⟨v, o, old c o h1, h2⟩
  free := I.hok.fresh hC
  freeC := fun y c e => I.freeC y c (O.cls y c e)
  pin := fun p hp => by
    have hp' : p ∈ X.pn ++ pins := by simpa using hp
    obtain ⟨h1, h2, h3, h4, h5⟩ := I.pin p hp'
    refine ⟨old _ _ h1, h2, Nat.ne_of_lt (Nat.lt_of_lt_of_le (Heap.lt_size h1) hC), fun z => ?_, h5⟩
    rcases List.mem_cons.mp (I.stkSub p.1 z) with e | e
    · exact h3 e
    · exact h4 e
  hok := I.hok.kept old
  len := by
    show (none :: slotsV js σ).length = N.length
    rw [O.len]
    simp [slotsV]
theorem comp_block {elt iter : Expr} {px pos : Pos} {it : Addr} {tn : Nat → Heap → Prop} {J : It} {ds xs : List D} {δ : DS} {felt : FD} {RR : Value → Addr → Result → Shared → Prop} {E : Value → Shared → Prop} (I : L2.Inv X pins σ H₂ s₂) (hcm : X.calm = true) (O : CompOk X scope cl x N js)
    (T : Turn X.prog X.w X.K (.Name x px) J fp it tn) (st : tn 0 s₂.heap) (hf : ∀ b ∈ fp, FpOk X pins H₂ b) (itd : ItD X.K J H₂ ds) (R : RepS X.K H₂ σ δ) (he : ∀ C s₂ H₂ fp pn, PD (cxComp X scope cl x N C s₂ H₂ fp pn) elt felt)
    (hm : mapO (fun d => felt (some d :: slotsOf js δ)) ds = some xs) (hz : xs.length ≤ 1000)
    (hRR : ∀ (D C : Addr) (s' : Shared) (Hend : Hp) (vs : List V), s₂.heap.objs.size ≤ C → L2.Inv X pins σ Hend s' → Same H₂ Hend → Hend D = some (.lst vs) → Reps X.K Hend vs xs → (∃ m, s'.heap.Ns C m) → Hend C = none → RR (.ref D) C (.ok .next) s') :
    wpAny (model X.prog X.w) X.A (newList []) (fun acc s₃ => wpAny (model X.prog X.w) X.A (newFunctionEnv scope X.env.globals cl [] X.env.qual none .none (some X.env)) (fun cenv s₄ =>
      codeAny (model X.prog X.w) X.A (.compStart (.ListComp elt [⟨.Name x px, iter, [], 0⟩] scope pos) 0 (.ref it) acc { cenv with scope := relabel scope X.env }) (RR acc cenv.locals) s₄) E s₃) E s₂ := by
  obtain ⟨ml, mg'⟩ := mapO_get hm
  have objs := T.obj 0 s₂.heap st
  have objs' : ∀ b ∈ fp, ∃ o, s₂.heap.get? b = some o := fun b hb => let ⟨o, h, _⟩ := objs b hb; ⟨o, h⟩
  refine wpAny_newObj_type (wpAny_newFunctionEnv O.nocell (by intro y hy; simp at hy) (fun h₁ hns₁ hsb₁ => ?_) O.kind)
  dsimp only at hns₁ hsb₁ ⊢
  generalize hP : s₂.heap.push { cls := .type "list", dict := none, data := .seq ([] : List Value).toArray } = P2 at hns₁ hsb₁ ⊢
  have hC : P2.objs.size = s₂.heap.objs.size + 1 := by rw [← hP, Heap.size_push]
  generalize hCC : P2.objs.size = C at *
  have hCle : s₂.heap.objs.size ≤ C := by omega
  have hDle : s₂.heap.objs.size ≤ s₂.heap.objs.size := by omega
  have hDC : s₂.heap.objs.size ≠ C := by omega
  have old : ∀ b o, s₂.heap.get? b = some o → h₁.get? b = some o := fun b o e => by
    refine hsb₁.extBut b o (Nat.ne_of_lt (Nat.lt_of_lt_of_le (Heap.lt_size e) hCle)) (Heap.get?_push_of_some _ ?_)
    rw [← hP]
    exact Heap.get?_push_of_some _ e
  have hacc : h₁.get? s₂.heap.objs.size = some { cls := .type "list", data := .seq ([] : List Value).toArray } := by
    refine hsb₁.extBut s₂.heap.objs.size _ hDC (Heap.get?_push_of_some _ ?_)
    rw [← hP]
    exact Heap.get?_push_size _ rfl
  have I0 := fun tk => comp_start (C := C) (tk := tk) I hcm O hCle hf objs' old hns₁ I.len
  have dstk : s₂.heap.objs.size ∉ frs X.stack := notIn_stack I hDle
  have fne : ∀ b ∈ fp, b ≠ s₂.heap.objs.size := fun b hb e => by
    obtain ⟨o, h⟩ := objs' b hb
    exact absurd (Heap.lt_size h) (by rw [e]; exact Nat.lt_irrefl _)
  have cne : ∀ y c, cl.lookup y = some c → c ≠ s₂.heap.objs.size := fun y c e z => by
    obtain ⟨v, o, h1, _⟩ := I.cell y c (O.cls y c e)
    exact absurd (Heap.lt_size h1) (by rw [z]; exact Nat.lt_irrefl _)
  have pne : ∀ p ∈ X.pn ++ pins, p.1 ≠ s₂.heap.objs.size := fun p hp e => by
    exact absurd (Heap.lt_size (I.pin p hp).1) (by rw [e]; exact Nat.lt_irrefl _)
  have stat : ∀ {H' : Hp} {pl : List (Addr × Obj)}, (∀ b ∈ fp, H' b = none) → (∀ p ∈ pl, ∀ b ∈ fp, p.1 ≠ b) → ∀ b ∈ fp, FpOk (cxComp X scope cl x N C s₂ H₂ fp (X.pn ++ pins)) pl H' b := fun {H' pl} hn hpl b hb => by
    obtain ⟨o, h⟩ := objs' b hb
    refine ⟨hn b hb, Nat.ne_of_lt (Nat.lt_of_lt_of_le (Heap.lt_size h) hCle), fun z => ?_, .inl hb, fun y c e => (hf b hb).2.2.2.2.1 y c (O.cls y c e), fun p hp => ?_⟩
    · rcases List.mem_cons.mp (I.stkSub b z) with e | e
      · exact (hf b hb).2.1 e
      · exact (hf b hb).2.2.1 e
    · rcases List.mem_append.mp hp with q | q
      · exact (hf b hb).2.2.2.2.2 p q
      · exact hpl p q b hb
  have loop : ∀ s₃ : Shared, s₃ = { s₂ with heap := h₁, toks := s₂.toks + ([] : List (Str × Value)).length } →
      codeAny (model X.prog X.w) X.A (.compLoop (.ListComp elt [⟨.Name x px, iter, [], 0⟩] scope pos) 0 (.ref it) (.ref s₂.heap.objs.size) (compEnvC scope cl C X.env)) (RR (.ref s₂.heap.objs.size) C) s₃ := by
    rintro s₃ rfl
    refine compLoop_own (fun n s => ∃ (i : Nat) (σ' : L2.St) (H' : Hp) (vs : List V) (o : Option D), n = ds.length - i ∧ i ≤ ds.length ∧ L2.Inv (cxComp X scope cl x N C s₂ H₂ fp (X.pn ++ pins)) [] σ' H' s ∧ Same H₂ H' ∧ RepS X.K H' σ' (o :: slotsOf js δ) ∧ tn i s.heap ∧ (∀ b ∈ fp, H' b = none) ∧
      (∃ (its : List Value) (k : Nat), Vals vs its ∧ s.heap.get? s₂.heap.objs.size = some { cls := .type "list", data := .seq its.toArray k }) ∧ H' s₂.heap.objs.size = none ∧ Reps X.K H' vs (xs.take i) ∧ vs.length = i) ?_ ds.length
      ⟨0, _, H₂, [], none, rfl, Nat.zero_le _, I0 _, Same.refl _, slots_rep R js, T.keep 0 _ _ st (fun b hb o e => old b o e), fun b hb => (hf b hb).1, ⟨[], 0, .nil, hacc⟩, I.hok.fresh hDle, .nil, rfl⟩
    rintro n s ⟨i, σ', H', vs, o, rfl, hi, I', sm, R', st', fr', ⟨its, k, rv, hD⟩, fD, rr, hl⟩
    by_cases hlt : i < ds.length
    · -- one more
      obtain ⟨go, yl⟩ := (itd i H' sm).1 hlt
      have hd0 : ds[i]? = some ds[i] := by simp [hlt]
      obtain ⟨e, ge, xe⟩ := mg' i _ hd0
      have I1 : L2.Inv (cxComp X scope cl x N C s₂ H₂ fp (X.pn ++ pins)) [(s₂.heap.objs.size, { cls := .type "list", data := .seq its.toArray k })] σ' H' s := I'.pins_of fun p hp => by
        have : p = (s₂.heap.objs.size, { cls := .type "list", data := .seq its.toArray k }) := by simpa using hp
        subst this
        exact ⟨hD, fD, hDC, dstk, fun v z => by cases z⟩
      refine thn (T.item (cxComp X scope cl x N C s₂ H₂ fp (X.pn ++ pins)) rfl rfl rfl rfl i _ s σ' H' (fun _ _ => False) I1 (stat fr' fun p hp b hb => by
        have : p = (s₂.heap.objs.size, { cls := .type "list", data := .seq its.toArray k }) := by simpa using hp
        subst this
        exact (fne b hb).symm) st' go) fun r s1 ⟨u, hr, h4⟩ => ?_
      subst hr
      refine thn h4 fun _ s2 ⟨y, H'', I2, ru, yy, st2, fr2⟩ => ?_
      obtain ⟨s3, d, hd, rd⟩ := yl y H'' yy
      have hd' : d = ds[i] := by rw [hd0] at hd; exact (Option.some.inj hd).symm
      subst hd'
      have I3 := I2.pinned (stat fr2 fun p hp b hb => by
        have : p = (s₂.heap.objs.size, { cls := .type "list", data := .seq its.toArray k }) := by simpa using hp
        subst this
        exact (fne b hb).symm) (T.obj _ _ st2)
      refine thn (pg_name (X := cxComp X scope cl x N C s₂ H₂ fp (X.pn ++ pins)) (i := 0) O.nd O.h0 (.inl (lookup_relabel_local O.hx)) (.inl (by simp)) _ s2 σ' H'' y u (fun σ4 H4 => σ4 = σ'.set 0 (some y) ∧ H4 = H'') I3 ru ⟨rfl, rfl⟩) fun _ s4 ⟨σ4, H4, I4, e1, e2⟩ => ?_
      subst e1 e2
      have R4 : RepS X.K H4 (σ'.set 0 (some y)) (some ds[i] :: slotsOf js δ) := (R'.mono s3).set 0 rd
      refine thn (he C s₂ H₂ fp (X.pn ++ pins) _ s4 (σ'.set 0 (some y)) H4 (fun v H5 => Same H4 H5 ∧ Rep X.K H5 v e) I4 ⟨_, e, R4, ge, fun v H5 s5 r5 => ⟨s5, r5⟩⟩) fun wv s5 ⟨v, H5, I5, rw5, s45, r5⟩ => ?_
      have hD5 : s5.heap.get? s₂.heap.objs.size = some { cls := .type "list", data := .seq its.toArray k } := (I5.pin (s₂.heap.objs.size, { cls := .type "list", data := .seq its.toArray k }) (by simp)).1
      have fD5 : H5 s₂.heap.objs.size = none := (I5.pin (s₂.heap.objs.size, { cls := .type "list", data := .seq its.toArray k }) (by simp)).2.1
      have pf : ∀ b ∈ fp, ∀ ob, s2.heap.get? b = some ob → s5.heap.get? b = some ob ∧ H5 b = none := fun b hb ob hob => by
        have := I5.pin (b, ob) (List.mem_append_right _ (List.mem_append_right _ (mem_pinsAt hb hob)))
        exact ⟨this.1, this.2.1⟩
      have lz : its.length ≤ 1000 := by
        have := rv.length
        omega
      refine call_meets F.slot_list_append ⟨_, hD5, rfl⟩ F.entry_list_append (F.args_list_append_2 _ _) (PySem.list_append s₂.heap.objs.size its.toArray k wv (by rw [List.size_toArray]; exact le_line lz)) ⟨hD5, ?_⟩
      have q := PySem.IsL.update hD5 (fun a => a.push wv)
      have I6 : L2.Inv (cxComp X scope cl x N C s₂ H₂ fp (X.pn ++ pins)) [] (σ'.set 0 (some y)) H5 { s5 with heap := s5.heap.update s₂.heap.objs.size (Obj.mapSeq fun a => a.push wv), toks := s5.toks } :=
        (I5.pins_of (pins' := []) fun p hp => by simp at hp).turned (it := s₂.heap.objs.size) (t' := s5.toks) (fun b ob hb hu => (Heap.get?_update_other s5.heap _ (Ne.symm hb)).trans hu) fD5 hDC (.inr hDle) cne (fun p hp => by
          rcases List.mem_append.mp hp with z | z
          · exact pne p z
          · simp at z)
      refine ⟨ds.length - (i + 1), by omega, i + 1, σ'.set 0 (some y), H5, vs ++ [v], some ds[i], rfl, hlt, I6, (sm.trans s3).trans s45, R4.mono s45, ?_, ?_, ?_, fD5, ?_, by simp [hl]⟩
      · refine T.keep _ _ _ st2 fun b hb ob hob => ?_
        exact (Heap.get?_update_other s5.heap _ (Ne.symm (fne b hb))).trans (pf b hb ob hob).1
      · intro b hb
        obtain ⟨ob, hob, _⟩ := T.obj _ _ st2 b hb
        exact (pf b hb ob hob).2
      · have hf7 : its.toArray.push wv = (its ++ [wv]).toArray := by simp
        rw [hf7] at q
        exact ⟨its ++ [wv], _, rv.append (.cons rw5 .nil), q⟩
      · have e8 : xs.take (i + 1) = xs.take i ++ [e] := by
          rw [List.take_add_one, xe]; rfl
        rw [e8]
        exact ((rr.mono s3).mono s45).append (.cons r5 .nil)
    · -- the end
      have hie : i = ds.length := by omega
      refine thn (T.done (cxComp X scope cl x N C s₂ H₂ fp (X.pn ++ pins)) rfl rfl rfl rfl i [(s₂.heap.objs.size, { cls := .type "list", data := .seq its.toArray k })] s σ' H' (fun _ _ => False) (I'.pins_of fun p hp => by
        have : p = (s₂.heap.objs.size, { cls := .type "list", data := .seq its.toArray k }) := by simpa using hp
        subst this
        exact ⟨hD, fD, hDC, dstk, fun v z => by cases z⟩) (stat fr' fun p hp b hb => by
        have : p = (s₂.heap.objs.size, { cls := .type "list", data := .seq its.toArray k }) := by simpa using hp
        subst this
        exact (fne b hb).symm) st' ((itd i H' sm).2 (by omega))) fun r s1 ⟨hr, I8⟩ => ?_
      subst hr
      have hD8 : s1.heap.get? s₂.heap.objs.size = some { cls := .type "list", data := .seq its.toArray k } := (I8.pin (s₂.heap.objs.size, { cls := .type "list", data := .seq its.toArray k }) (by simp)).1
      have hxs : xs.take i = xs := List.take_of_length_le (by omega)
      rw [hxs] at rr
      have sn := same_new fD (.lst vs)
      have dn : ∀ b, ∀ u, H' b = some u → b ≠ s₂.heap.objs.size := fun b u z => ne_of_none z fD
      have un : Un (frs X.stack) fp H₂ (upd H' s₂.heap.objs.size (.lst vs)) s₂.heap s1.heap := by
        have b0 := I8.base
        refine ⟨fun b ob e n1 n2 n3 => b0.keep b ob e n1 n2 n3, fun b ob e n1 n2 n3 => b0.slot b ob e n1 n2 n3, fun b ob e n1 n3 => ?_, fun b ob e n3 => b0.there b ob e n3, fun b zs e => ?_, fun b ob u e => ?_, fun b ps e => ?_⟩
        · rw [upd_ne (Nat.ne_of_lt (Heap.lt_size e))]
          exact b0.free b ob e n1 n3
        · have z := b0.tups b zs e
          rw [upd_ne (dn _ _ z)]
          exact z
        · have z := b0.frzs b ob u e
          rw [upd_ne (dn _ _ z)]
          exact z
        · obtain ⟨more, z⟩ := b0.tbls b ps e
          exact ⟨more, by rw [upd_ne (dn _ _ z)]; exact z⟩
      have hok : HOk X.prog X.w (upd H' s₂.heap.objs.size (.lst vs)) s1.heap := fun b u z => by
        by_cases hb : b = s₂.heap.objs.size
        · rw [hb] at z ⊢
          rw [upd_same] at z
          cases z
          exact ⟨le_line (by omega), its, k, rv, hD8⟩
        · rw [upd_ne hb] at z
          exact (I8.hok b u z).stay (fun _ _ _ q => q) (fun c q => by rw [upd_ne (dn _ _ q)]; exact q) fun c ys q => by rw [upd_ne (dn _ _ q)]; exact q
      have IX : L2.Inv X pins σ (upd H' s₂.heap.objs.size (.lst vs)) s1 := I.call' I8.os un hok I8.bare fun b hb => ⟨(hf b hb).2.2.2.1, (hf b hb).2.1, (hf b hb).2.2.2.2.1, (hf b hb).2.2.2.2.2⟩
      obtain ⟨m8, hn8, _⟩ := I8.loc
      refine hRR s₂.heap.objs.size C s1 _ vs hCle IX (sm.trans sn) upd_same (rr.mono sn) ⟨m8, hn8⟩ ?_
      rw [upd_ne (Ne.symm hDC)]
      exact I8.free
  exact codeAny_compStart_list (loop _ rfl) (T.self X.A 0 _ _ _ (T.keep 0 _ _ st (fun b hb o e => old b o e)) (loop _ rfl))
theorem inv_letgo {C : Addr} {h' : Heap} {s' : Shared} {Hend : Hp} (I : L2.Inv X pins σ Hend s') (I0 : L2.Inv X pins σ H₂ s₂) (hC : s₂.heap.objs.size ≤ C) (fC : Hend C = none) (hs : Heap.SameBut C s'.heap h') : L2.Inv X pins σ Hend { s' with heap := h' } :=
  I.turned (it := C) (t' := s'.toks) (fun b o hb e => (hs.2 b hb).trans e) fC (Nat.ne_of_gt (Nat.lt_of_lt_of_le I0.lt hC)) (.inr (Nat.le_trans I0.sz hC))
    (fun y c e z => by
      obtain ⟨v, o, h1, _⟩ := I0.cell y c e
      exact absurd (Nat.lt_of_lt_of_le (Heap.lt_size h1) (by rw [z]; exact hC)) (Nat.lt_irrefl _))
    (fun p hp z => absurd (Nat.lt_of_lt_of_le (Heap.lt_size (I0.pin p hp).1) (by rw [z]; exact hC)) (Nat.lt_irrefl _))
theorem pd_comp {elt iter : Expr} {px pos : Pos} {src : FA} {felt : FD} (hi : PID X (.Name x px) iter src) {N : List Str} {js : List Nat} (he : ∀ C s₂ H₂ fp pn, PD (cxComp X scope cl x N C s₂ H₂ fp pn) elt felt) (O : CompOk X scope cl x N js) (hcm : X.calm = true := by rfl)
    (hs : ∀ v, foldedSetIterable iter X.env v = pure v := by intro _; rfl) : PD X (.ListComp elt [⟨.Name x px, iter, [], 0⟩] scope pos) (fComp src js felt) := by
  intro pins s σ H Q I ⟨δ, d, R, q, k⟩
  unfold fComp at q
  obtain ⟨ds, eds, q⟩ := Option.bind_eq_some_iff.mp q
  obtain ⟨xs, exs, q⟩ := Option.bind_eq_some_iff.mp q
  by_cases hz : xs.length ≤ 1000
  · rw [if_pos hz] at q
    cases q
    rw [eval_ListComp]
    refine wpAny_comprehension_free (use := none) rfl hs O.clos O.kind O.names ?_
    refine wpAny_mono (hi pins s σ H (fun J H1 => Same H H1 ∧ ItD X.K J H1 ds) I ⟨δ, ds, R, eds, fun J H1 s1 itd => ⟨s1, itd⟩⟩) (fun v s1 h1 => wpAny_mono h1 (fun itv s2 h2 => ?_) fun _ _ z => z) fun _ _ z => z
    obtain ⟨it, fp, tn, J, H2, rfl, I2, T, st, hf, s1, itd⟩ := h2
    refine comp_block (RR := fun acc C => compPost (model X.prog X.w) X.A X.xe none (EP X pins σ Q) acc C) I2 hcm O T st hf itd (R.mono s1) he exs hz ?_
    intro D C s' Hend vs hC IX sm hD rr ⟨m, hn⟩ fC
    exact ⟨m, hn, fun h' hs' => ⟨.ref D, Hend, inv_letgo IX I2 hC fC hs', rfl, k _ _ (s1.trans sm) (.lst hD rr)⟩⟩
  · rw [if_neg hz] at q; cases q
end
end Dl
namespace Dl
open PySem PySem.Spec PyProof.Rows L2
theorem CompOk.one {X : Cx} {scope : Scope} {c : Addr} {x z : Str} {j : Nat} (clos : closureFor scope X.env = pure [(z, c)] := by rfl) (nocell : ∀ y ∈ scope.names, y.2 ≠ .cell := by decide +kernel) (kind : scope.kind = .function := by rfl)
    (names : ∀ y ∈ scope.names, y.2 = .local → scope.names.lookup y.1 = some .local := by decide +kernel) (hx : scope.names.lookup x = some .local := by rfl) (hne : x ≠ z := by decide +kernel) (hcell : X.env.cells.lookup z = some c := by rfl)
    (hfr : ∀ p ∈ scope.names, p.2 = .free → p.1 = z := by decide +kernel) (hj : X.N[j]? = some z := by rfl) (hk : X.env.scope.names.lookup z = some .cell := by rfl) (hk' : (relabel scope X.env).names.lookup z = some .cell := by rfl) : CompOk X scope [(z, c)] x [x, z] [j] where
  clos := clos
  nocell := nocell
  kind := kind
  names := names
  hx := hx
  nd := by simp [hne]
  h0 := rfl
  len := rfl
  clx := by
    show List.lookup x [(z, c)] = none
    have q : (x == z) = false := beq_eq_false_iff_ne.mpr hne
    rw [List.lookup_cons, q]
    rfl
  cls := fun y a h => by
    have h' : List.lookup y [(z, c)] = some a := h
    by_cases hy : y = z
    · subst hy
      simp at h'
      subst h'
      exact hcell
    · have q : (y == z) = false := beq_eq_false_iff_ne.mpr hy
      rw [List.lookup_cons, q] at h'
      cases h'
  has := fun y h => by
    have key : ∀ k, (k = NameKind.cell ∨ k = NameKind.free) → (relabel scope X.env).names.lookup y = some k → y = z := fun k hk h => by
      have m := PySem.mem_of_lookup h
      unfold relabel at m
      obtain ⟨⟨n, k'⟩, m1, m2⟩ := List.mem_map.mp m
      dsimp only at m2
      have hk1 : k' = NameKind.free := by
        split at m2
        · rename_i hc
          rw [Bool.and_eq_true, Bool.and_eq_true] at hc
          exact beq_iff_eq.mp hc.1.1
        · have e : k' = k := congrArg Prod.snd m2
          rcases hk with z1 | z1
          · exact absurd (e.trans z1) (nocell _ m1)
          · exact e.trans z1
      have hn : n = y := by split at m2 <;> exact congrArg Prod.fst m2
      rw [← hn]
      exact hfr _ m1 hk1
    have e : y = z := by
      rcases h with h | h
      · exact key _ (.inl rfl) h
      · exact key _ (.inr rfl) h
    subst e
    exact ⟨c, by simp⟩
  fr := fun i y k h1 h2 => by
    cases i with
    | zero =>
      have e1 : z = y := Option.some.inj h1
      have e2 : j = k := Option.some.inj h2
      subst e1 e2
      refine ⟨hj, hk, hk', fun a ha => ?_⟩
      rw [hcell] at ha
      cases ha
      simp
    | succ i => cases h2
end Dl
namespace Dl
open PySem PySem.Spec PyProof.Rows L2
end Dl
namespace Dl
open PySem PySem.Spec PyProof.Rows L2
section
variable {P : Program} {w : World} {K : PySem.W.Frag} {mg : Str → Option Value} {base : Heap}
end
section
variable {X : Cx} {a b : Expr} {fa fb : FD} {pos : Pos}
end
end Dl
namespace Dl
open PySem PySem.Spec PyProof.Rows L2
section
variable {X : Cx} {pins : List (Addr × Obj)} {σ : L2.St} {H H₀ H' : Hp} {s s' : Shared} {B : Heap} {x C t : Addr}
end
section
variable {X : Cx} {pins : List (Addr × Obj)} {σ : L2.St} {H : Hp} {s : Shared} {h' : Heap}
end
abbrev Cx.within (X : Cx) (x : Addr) : Cx := { X with A := X.A.mark (some (.ref x)), calm := false, xe := fun _ _ => False }
abbrev Cx.tried (X : Cx) (W : Value → Shared → Prop) (pn : List (Addr × Obj)) : Cx := { X with xe := W, pn := pn }
end Dl
namespace Dl
open PySem PySem.Spec PyProof.Rows L2
mutual
def imm : D → Bool
  | .tup ds => imms ds
  | .lst _ => false
  | .seq _ => false
  | .ms _ _ => false
  | .mf _ _ => false
  | .md _ _ => false
  | _ => true
def imms : List D → Bool
  | [] => true
  | d :: ds => imm d && imms ds
end
mutual
def own : D → Bool
  | .tup ds => owns ds
  | .lst ds => owns ds
  | .seq _ => false
  | .ms _ _ => false
  | .mf _ _ => false
  | _ => true
def owns : List D → Bool
  | [] => true
  | d :: ds => own d && owns ds
end
mutual
def sh : D → D
  | .tup ds => .tup (shs ds)
  | .lst ds => .seq (shs ds)
  | .seq ds => .seq (shs ds)
  | .ms ks ds => .ms ks (shs ds)
  | .mf ks ds => .mf ks (shs ds)
  | .md ks ds => .ms ks (shs ds)
  | d => d
def shs : List D → List D
  | [] => []
  | d :: ds => sh d :: shs ds
end
theorem shs_map : ∀ (ds : List D), shs ds = ds.map sh
  | [] => rfl
  | d :: ds => by rw [shs, shs_map ds]; rfl
mutual
theorem sh_sh : ∀ (d : D), sh (sh d) = sh d
  | .non => rfl
  | .bl _ => rfl
  | .int _ => rfl
  | .str _ => rfl
  | .ty _ => rfl
  | .dct => rfl
  | .exc _ => rfl
  | .cls _ => rfl
  | .ms ks ds => by rw [sh, sh, shs_shs ds]
  | .mf ks ds => by rw [sh, sh, shs_shs ds]
  | .md ks ds => by rw [sh, sh, shs_shs ds]
  | .tup ds => by rw [sh, sh, shs_shs ds]
  | .lst ds => by rw [sh, sh, shs_shs ds]
  | .seq ds => by rw [sh, sh, shs_shs ds]
theorem shs_shs : ∀ (ds : List D), shs (shs ds) = shs ds
  | [] => rfl
  | d :: ds => by rw [shs, shs, sh_sh d, shs_shs ds]
end
def mtb : HO → Bool
  | .lst _ => true
  | .dK _ => true
  | .frz _ (.dK _) => true
  | _ => false
abbrev MO := {u : HO // mtb u = true}
def KeepI (H H' : Hp) : Prop := ∀ a u, H a = some u → mtb u = false → H' a = some u
theorem same_keepI {H H' : Hp} (s : Same H H') : KeepI H H' := fun a u e _ => s a u e
theorem keep_updM {H : Hp} {a : Addr} {u : HO} {o : HO} (h : H a = some u) (m : mtb u = true) : KeepI H (upd H a o) := fun b w e n => by
  by_cases hb : b = a
  · subst hb; rw [h] at e; cases e; rw [m] at n; cases n
  · rw [upd_ne hb]; exact e
theorem keep_upd {H : Hp} {a : Addr} {vs : List V} {o : HO} (h : H a = some (.lst vs)) : KeepI H (upd H a o) := keep_updM h rfl
theorem sqT_keep {K : PySem.W.Frag} {H H' : Hp} {a : Addr} {xs : List V} (k : KeepI H H') (h : SqT K H a xs) : SqT K H' a xs := by
  rcases h with (h | ⟨o, h⟩) | h
  · exact .inl (.inl (k _ _ h rfl))
  · exact .inl (.inr ⟨o, k _ _ h rfl⟩)
  · exact .inr h
mutual
theorem rep_keep {K : PySem.W.Frag} {H H' : Hp} (k : KeepI H H') : ∀ {v : V} {d : D}, Rep K H v d → imm d = true → Rep K H' v d
  | _, _, .non, _ => .non
  | _, _, .bl b, _ => .bl b
  | _, _, .int i, _ => .int i
  | _, _, .str x, _ => .str x
  | _, _, .ty n, _ => .ty n
  | _, _, .tup h r, i => .tup (sqT_keep k h) (reps_keep k r (by rw [imm] at i; exact i))
  | _, _, .lst h r, i => by rw [imm] at i; cases i
  | _, _, .seq h r, i => by rw [imm] at i; cases i
  | _, _, .dct h, _ => .dct (k _ _ h rfl)
  | _, _, .exc h, _ => .exc (k _ _ h rfl)
  | _, _, .cls C, _ => .cls C
  | _, _, .ms h l r, i => by rw [imm] at i; cases i
  | _, _, .mf h l r, i => by rw [imm] at i; cases i
  | _, _, .md h l r, i => by rw [imm] at i; cases i
theorem reps_keep {K : PySem.W.Frag} {H H' : Hp} (k : KeepI H H') : ∀ {vs : List V} {ds : List D}, Reps K H vs ds → imms ds = true → Reps K H' vs ds
  | _, _, .nil, _ => .nil
  | _, _, .cons r t, i => by
    rw [imms, Bool.and_eq_true] at i
    exact .cons (rep_keep k r i.1) (reps_keep k t i.2)
end
mutual
theorem rep_sh {K : PySem.W.Frag} {H : Hp} : ∀ {v : V} {d : D}, Rep K H v d → Rep K H v (sh d)
  | _, _, .non => .non
  | _, _, .bl b => .bl b
  | _, _, .int i => .int i
  | _, _, .str x => .str x
  | _, _, .ty n => .ty n
  | _, _, .tup h r => by rw [sh]; exact .tup h (reps_sh r)
  | _, _, .lst h r => by rw [sh]; exact .seq (SqL.of h) (reps_sh r)
  | _, _, .seq h r => by rw [sh]; exact .seq h (reps_sh r)
  | _, _, .dct h => .dct h
  | _, _, .exc h => .exc h
  | _, _, .cls C => .cls C
  | _, _, .ms h l r => by rw [sh]; exact .ms h (by rw [shs_map, List.length_map]; exact l) (reps_sh r)
  | _, _, .mf h l r => by rw [sh]; exact .mf h (by rw [shs_map, List.length_map]; exact l) (reps_sh r)
  | _, _, .md h l r => by rw [sh]; exact .ms (.inl h) (by rw [shs_map, List.length_map]; exact l) (reps_sh r)
theorem reps_sh {K : PySem.W.Frag} {H : Hp} : ∀ {vs : List V} {ds : List D}, Reps K H vs ds → Reps K H vs (shs ds)
  | _, _, .nil => .nil
  | _, _, .cons r t => by rw [shs]; exact .cons (rep_sh r) (reps_sh t)
end
mutual
inductive RepO (K : PySem.W.Frag) (F H : Hp) : V → D → List Addr → Prop
  | imm {v : V} {d : D} (i : imm d = true) (h : Rep K H v d) : RepO K F H v d []
  | shr {v : V} {ds : List D} (h : Rep K F v (.seq ds)) : RepO K F H v (.seq ds) []
  | shm {v : V} {ks : List Int} {ds : List D} (h : Rep K F v (.ms ks ds)) : RepO K F H v (.ms ks ds) []
  | shf {v : V} {ks : List Int} {ds : List D} (h : Rep K F v (.mf ks ds)) : RepO K F H v (.mf ks ds) []
  | tup {a : Addr} {vs : List V} {ds : List D} {A : List Addr} (h : SqT K H a vs) (r : RepOs K F H vs ds A) : RepO K F H (.ref a) (.tup ds) A
  | lst {a : Addr} {vs : List V} {ds : List D} {A : List Addr} (h : H a = some (.lst vs)) (n : F a = none) (r : RepOs K F H vs ds A) : RepO K F H (.ref a) (.lst ds) (a :: A)
  | md {a : Addr} {ks : List Int} {vs : List V} {ds : List D} (h : H a = some (.dK ((ks.map Sum.inl).zip vs))) (n : F a = none) (l : ks.length = ds.length) (i : imms ds = true) (r : Reps K H vs ds) : RepO K F H (.ref a) (.md ks ds) [a]
inductive RepOs (K : PySem.W.Frag) (F H : Hp) : List V → List D → List Addr → Prop
  | nil : RepOs K F H [] [] []
  | cons {v : V} {d : D} {vs : List V} {ds : List D} {A B C : List Addr} (r : RepO K F H v d A) (t : RepOs K F H vs ds B) (e : C = A ++ B) : RepOs K F H (v :: vs) (d :: ds) C
end
section
variable {K : PySem.W.Frag} {F H F' H' : Hp}
mutual
theorem RepO.rep (s : Same F H) : ∀ {v : V} {d : D} {A : List Addr}, RepO K F H v d A → Rep K H v d
  | _, _, _, .imm _ h => h
  | _, _, _, .shr h => h.mono s
  | _, _, _, .shm h => h.mono s
  | _, _, _, .shf h => h.mono s
  | _, _, _, .tup h r => .tup h (RepOs.reps s r)
  | _, _, _, .lst h _ r => .lst h (RepOs.reps s r)
  | _, _, _, .md h _ l _ r => .md h l r
theorem RepOs.reps (s : Same F H) : ∀ {vs : List V} {ds : List D} {A : List Addr}, RepOs K F H vs ds A → Reps K H vs ds
  | _, _, _, .nil => .nil
  | _, _, _, .cons r t _ => .cons (RepO.rep s r) (RepOs.reps s t)
end
mutual
theorem RepO.dom : ∀ {v : V} {d : D} {A : List Addr}, RepO K F H v d A → ∀ a ∈ A, (∃ u : MO, H a = some u.1) ∧ F a = none
  | _, _, _, .imm _ _, _, m => nomatch m
  | _, _, _, .shr _, _, m => nomatch m
  | _, _, _, .shm _, _, m => nomatch m
  | _, _, _, .shf _, _, m => nomatch m
  | _, _, _, .tup _ r, a, m => RepOs.dom r a m
  | _, _, _, .lst h n r, a, m => by
    rcases List.mem_cons.mp m with e | e
    · subst e; exact ⟨⟨⟨_, rfl⟩, h⟩, n⟩
    · exact RepOs.dom r a e
  | _, _, _, .md h n _ _ _, a, m => by
    rcases List.mem_singleton.mp m with rfl
    exact ⟨⟨⟨_, rfl⟩, h⟩, n⟩
theorem RepOs.dom : ∀ {vs : List V} {ds : List D} {A : List Addr}, RepOs K F H vs ds A → ∀ a ∈ A, (∃ u : MO, H a = some u.1) ∧ F a = none
  | _, _, _, .nil, _, m => nomatch m
  | _, _, _, .cons r t e, a, m => by
    subst e
    rcases List.mem_append.mp m with z | z
    · exact RepO.dom r a z
    · exact RepOs.dom t a z
end
mutual
theorem RepO.frame (k : KeepI H H') : ∀ {v : V} {d : D} {A : List Addr}, RepO K F H v d A → (∀ a ∈ A, H' a = H a) → RepO K F H' v d A
  | _, _, _, .imm i h, _ => .imm i (rep_keep k h i)
  | _, _, _, .shr h, _ => .shr h
  | _, _, _, .shm h, _ => .shm h
  | _, _, _, .shf h, _ => .shf h
  | _, _, _, .tup h r, e => .tup (sqT_keep k h) (RepOs.frame k r e)
  | _, _, _, .lst h n r, e => .lst ((e _ List.mem_cons_self).trans h) n (RepOs.frame k r fun a m => e a (List.mem_cons_of_mem _ m))
  | _, _, _, .md h n l i r, e => .md ((e _ List.mem_cons_self).trans h) n l i (reps_keep k r i)
theorem RepOs.frame (k : KeepI H H') : ∀ {vs : List V} {ds : List D} {A : List Addr}, RepOs K F H vs ds A → (∀ a ∈ A, H' a = H a) → RepOs K F H' vs ds A
  | _, _, _, .nil, _ => .nil
  | _, _, _, .cons r t e, q => by
    subst e
    exact .cons (RepO.frame k r fun a m => q a (List.mem_append_left _ m)) (RepOs.frame k t fun a m => q a (List.mem_append_right _ m)) rfl
end
mutual
theorem RepO.froz (s : Same F F') : ∀ {v : V} {d : D} {A : List Addr}, RepO K F H v d A → (∀ a ∈ A, F' a = none) → RepO K F' H v d A
  | _, _, _, .imm i h, _ => .imm i h
  | _, _, _, .shr h, _ => .shr (h.mono s)
  | _, _, _, .shm h, _ => .shm (h.mono s)
  | _, _, _, .shf h, _ => .shf (h.mono s)
  | _, _, _, .tup h r, e => .tup h (RepOs.froz s r e)
  | _, _, _, .lst h n r, e => .lst h (e _ List.mem_cons_self) (RepOs.froz s r fun a m => e a (List.mem_cons_of_mem _ m))
  | _, _, _, .md h n l i r, e => .md h (e _ List.mem_cons_self) l i r
theorem RepOs.froz (s : Same F F') : ∀ {vs : List V} {ds : List D} {A : List Addr}, RepOs K F H vs ds A → (∀ a ∈ A, F' a = none) → RepOs K F' H vs ds A
  | _, _, _, .nil, _ => .nil
  | _, _, _, .cons r t e, q => by
    subst e
    exact .cons (RepO.froz s r fun a m => q a (List.mem_append_left _ m)) (RepOs.froz s t fun a m => q a (List.mem_append_right _ m)) rfl
end
mutual
theorem RepO.thaw (s : Same F' F) : ∀ {v : V} {d : D} {A : List Addr}, RepO K F H v d A → own d = true → RepO K F' H v d A
  | _, _, _, .imm i h, _ => .imm i h
  | _, _, _, .shr h, o => by rw [own] at o; cases o
  | _, _, _, .shm h, o => by rw [own] at o; cases o
  | _, _, _, .shf h, o => by rw [own] at o; cases o
  | _, _, _, .tup h r, o => .tup h (RepOs.thaw s r (by rw [own] at o; exact o))
  | _, _, _, .lst (a := a) h n r, o => .lst h (by
      cases q : F' a with
      | none => rfl
      | some u => rw [s a u q] at n; cases n) (RepOs.thaw s r (by rw [own] at o; exact o))
  | _, _, _, .md (a := a) h n l i r, o => .md h (by
      cases q : F' a with
      | none => rfl
      | some u => rw [s a u q] at n; cases n) l i r
theorem RepOs.thaw (s : Same F' F) : ∀ {vs : List V} {ds : List D} {A : List Addr}, RepOs K F H vs ds A → owns ds = true → RepOs K F' H vs ds A
  | _, _, _, .nil, _ => .nil
  | _, _, _, .cons r t e, o => by
    rw [owns, Bool.and_eq_true] at o
    exact .cons (RepO.thaw s r o.1) (RepOs.thaw s t o.2) e
end
mutual
theorem RepO.none_of : ∀ {v : V} {d : D} {A : List Addr}, RepO K F H v d A → imm d = true → A = []
  | _, _, _, .imm _ _, _ => rfl
  | _, _, _, .shr _, _ => rfl
  | _, _, _, .shm _, _ => rfl
  | _, _, _, .shf _, _ => rfl
  | _, _, _, .tup _ r, i => RepOs.none_of r (by rw [imm] at i; exact i)
  | _, _, _, .lst _ _ _, i => by rw [imm] at i; cases i
  | _, _, _, .md _ _ _ _ _, i => by rw [imm] at i; cases i
theorem RepOs.none_of : ∀ {vs : List V} {ds : List D} {A : List Addr}, RepOs K F H vs ds A → imms ds = true → A = []
  | _, _, _, .nil, _ => rfl
  | _, _, _, .cons r t e, i => by
    rw [imms, Bool.and_eq_true] at i
    rw [e, RepO.none_of r i.1, RepOs.none_of t i.2]
    rfl
end
theorem RepO.seq_nil {v : V} {ds : List D} : ∀ {d : D} {A : List Addr}, RepO K F H v d A → d = .seq ds → A = []
  | _, _, .imm i _, e => rfl
  | _, _, .shr _, _ => rfl
  | _, _, .shm _, _ => rfl
  | _, _, .shf _, _ => rfl
  | _, _, .tup _ _, e => nomatch e
  | _, _, .lst _ _ _, e => nomatch e
  | _, _, .md _ _ _ _ _, e => nomatch e
noncomputable def frz (F H : Hp) (A : List Addr) : Hp := fun a => match H a with
  | some u => if mtb u = true then (if (F a).isSome = true ∨ a ∈ A then some u else none) else some u
  | none => none
theorem frz_lst {A : List Addr} {a : Addr} {u : HO} (h : H a = some u) (m : a ∈ A) : frz F H A a = some u := by
  unfold frz; rw [h]
  show (if mtb u = true then (if (F a).isSome = true ∨ a ∈ A then some u else none) else some u) = some u
  rw [if_pos (show (F a).isSome = true ∨ a ∈ A from .inr m)]
  split <;> rfl
theorem frz_keep {A : List Addr} : KeepI H (frz F H A) := fun a u e n => by
  unfold frz
  rw [e]
  exact if_neg (by rw [n]; exact fun z => nomatch z)
theorem frz_same {A : List Addr} (s : Same F H) : Same F (frz F H A) := fun a u e => by
  have h := s a u e
  unfold frz; rw [h]
  show (if mtb u = true then (if (F a).isSome = true ∨ a ∈ A then some u else none) else some u) = some u
  rw [if_pos (show (F a).isSome = true ∨ a ∈ A from .inl (by rw [e]; rfl))]
  split <;> rfl
theorem frz_in {A : List Addr} : Same (frz F H A) H := fun a u e => by
  unfold frz at e
  split at e
  · rename_i w h
    rw [h]
    split at e
    · split at e
      · exact e
      · cases e
    · exact e
  · cases e
theorem frz_out {A : List Addr} {a : Addr} {u : MO} (h : H a = some u.1) (n : F a = none) (m : a ∉ A) : frz F H A a = none := by
  unfold frz; rw [h]
  show (if mtb u.1 = true then (if (F a).isSome = true ∨ a ∈ A then some u.1 else none) else some u.1) = none
  rw [if_pos u.2]
  refine if_neg fun z => ?_
  rcases z with z | z
  · rw [n] at z; cases z
  · exact m z
mutual
theorem RepO.freeze (s : Same F F') (k : KeepI H F') : ∀ {v : V} {d : D} {A : List Addr}, RepO K F H v d A → (∀ a u, a ∈ A → H a = some u → F' a = some u) → Rep K F' v (sh d)
  | _, _, _, .imm i h, _ => rep_sh (rep_keep k h i)
  | _, _, _, .shr h, _ => rep_sh (h.mono s)
  | _, _, _, .shm h, _ => rep_sh (h.mono s)
  | _, _, _, .shf h, _ => rep_sh (h.mono s)
  | _, _, _, .tup h r, e => by rw [sh]; exact .tup (sqT_keep k h) (RepOs.freeze s k r e)
  | _, _, _, .lst h _ r, e => by rw [sh]; exact .seq (SqL.of (e _ _ List.mem_cons_self h)) (RepOs.freeze s k r fun a vs m => e a vs (List.mem_cons_of_mem _ m))
  | _, _, _, .md h _ l i r, e => by rw [sh]; exact .ms (.inl (e _ _ List.mem_cons_self h)) (by rw [shs_map, List.length_map]; exact l) (reps_sh (reps_keep k r i))
theorem RepOs.freeze (s : Same F F') (k : KeepI H F') : ∀ {vs : List V} {ds : List D} {A : List Addr}, RepOs K F H vs ds A → (∀ a u, a ∈ A → H a = some u → F' a = some u) → Reps K F' vs (shs ds)
  | _, _, _, .nil, _ => .nil
  | _, _, _, .cons r t e, q => by
    subst e
    rw [shs]
    exact .cons (RepO.freeze s k r fun a vs m => q a vs (List.mem_append_left _ m)) (RepOs.freeze s k t fun a vs m => q a vs (List.mem_append_right _ m))
end
mutual
theorem RepO.of_sh (s : Same F H) : ∀ {v : V} {d : D}, Rep K F v d → RepO K F H v (sh d) []
  | _, _, .non => .imm rfl .non
  | _, _, .bl b => .imm rfl (.bl b)
  | _, _, .int i => .imm rfl (.int i)
  | _, _, .str x => .imm rfl (.str x)
  | _, _, .ty n => .imm rfl (.ty n)
  | _, _, .tup h r => by rw [sh]; exact .tup (sqT_same s h) (RepOs.of_sh s r)
  | _, _, .lst h r => by rw [sh]; exact .shr (.seq (SqL.of h) (reps_sh r))
  | _, _, .seq h r => by rw [sh]; exact .shr (.seq h (reps_sh r))
  | _, _, .dct h => .imm rfl (.dct (s _ _ h))
  | _, _, .exc h => .imm rfl (.exc (s _ _ h))
  | _, _, .cls C => .imm rfl (.cls C)
  | _, _, .ms h l r => by rw [sh]; exact .shm (.ms h (by rw [shs_map, List.length_map]; exact l) (reps_sh r))
  | _, _, .mf h l r => by rw [sh]; exact .shf (.mf h (by rw [shs_map, List.length_map]; exact l) (reps_sh r))
  | _, _, .md h l r => by rw [sh]; exact .shm (.ms (.inl h) (by rw [shs_map, List.length_map]; exact l) (reps_sh r))
theorem RepOs.of_sh (s : Same F H) : ∀ {vs : List V} {ds : List D}, Reps K F vs ds → RepOs K F H vs (shs ds) []
  | _, _, .nil => .nil
  | _, _, .cons r t => by rw [shs]; exact .cons (RepO.of_sh s r) (RepOs.of_sh s t) rfl
end
theorem RepOs.length : ∀ {vs : List V} {ds : List D} {A : List Addr}, RepOs K F H vs ds A → vs.length = ds.length
  | _, _, _, .nil => rfl
  | _, _, _, .cons _ t _ => congrArg (· + 1) (RepOs.length t)
theorem RepOs.snoc : ∀ {vs : List V} {ds : List D} {A B : List Addr} {v : V} {d : D}, RepOs K F H vs ds A → RepO K F H v d B → RepOs K F H (vs ++ [v]) (ds ++ [d]) (A ++ B)
  | _, _, _, _, _, _, .nil, r => .cons r .nil (by simp)
  | _, _, _, _, _, _, .cons q t e, r => .cons q (RepOs.snoc t r) (by rw [e, List.append_assoc])
theorem RepOs.pick : ∀ {vs : List V} {ds : List D} {A : List Addr} {i : Nat} {d : D}, RepOs K F H vs ds A → ds[i]? = some d → ∃ v A1 B A2, vs[i]? = some v ∧ RepO K F H v d B ∧ A = A1 ++ (B ++ A2) ∧
    ∀ {H' : Hp} {v' : V} {d' : D} {B' : List Addr}, KeepI H H' → (∀ a, a ∈ A1 ∨ a ∈ A2 → H' a = H a) → RepO K F H' v' d' B' → RepOs K F H' (vs.set i v') (ds.set i d') (A1 ++ (B' ++ A2))
  | _, _, _, _, _, .nil, e => by simp at e
  | _, _, _, 0, _, .cons (A := A) (B := B) r t e, q => by
    simp at q
    subst q
    refine ⟨_, [], A, B, rfl, r, by simpa using e, fun k h r' => ?_⟩
    exact .cons r' (t.frame k fun a m => h a (.inr m)) (by simp)
  | _, _, _, i + 1, d, .cons (A := A0) (B := B0) r t e, q => by
    obtain ⟨v, A1, B, A2, h1, h2, h3, h4⟩ := RepOs.pick (i := i) (d := d) t (by simpa using q)
    refine ⟨v, A0 ++ A1, B, A2, by simpa using h1, h2, by rw [e, h3, List.append_assoc], fun k h r' => ?_⟩
    refine .cons (r.frame k fun a m => h a (.inl (List.mem_append_left _ m))) (h4 k (fun a m => h a ?_) r') (by rw [List.append_assoc])
    rcases m with m | m
    · exact .inl (List.mem_append_right _ m)
    · exact .inr m
end
end Dl
namespace Dl
open PySem PySem.Spec PyProof.Rows L2
structure RepA (K : PySem.W.Frag) (F H : Hp) (σ : L2.St) (δ : DS) (As : Nat → List Addr) : Prop where
  fz : Same F H
  len : σ.length = δ.length
  val : ∀ (i : Nat) (d : D), δ[i]? = some (some d) → ∃ v, σ[i]? = some (some v) ∧ RepO K F H v d (As i)
  non : ∀ (i : Nat), (∀ d, δ[i]? ≠ some (some d)) → As i = []
  nd : ∀ i, (As i).Nodup
  dj : ∀ i j a, i ≠ j → a ∈ As i → a ∉ As j
def RepM (K : PySem.W.Frag) (F H : Hp) (σ : L2.St) (δ : DS) : Prop := ∃ As, RepA K F H σ δ As
section
variable {K : PySem.W.Frag} {F H F' H' : Hp} {σ : L2.St} {δ : DS} {As : Nat → List Addr}
theorem RepA.toS (R : RepA K F H σ δ As) : RepS K H σ δ := ⟨R.len, fun i d q => let ⟨v, h1, h2⟩ := R.val i d q; ⟨v, h1, h2.rep R.fz⟩⟩
theorem RepA.dom (R : RepA K F H σ δ As) {i : Nat} {a : Addr} (m : a ∈ As i) : (∃ u : MO, H a = some u.1) ∧ F a = none := by
  by_cases h : ∃ d, δ[i]? = some (some d)
  · obtain ⟨d, h⟩ := h
    obtain ⟨v, _, h2⟩ := R.val i d h
    exact h2.dom a m
  · rw [R.non i fun d z => h ⟨d, z⟩] at m; cases m
theorem RepA.grow (R : RepA K F H σ δ As) (s : Same H H') : RepA K F H' σ δ As :=
  ⟨R.fz.trans s, R.len, fun i d q => by
    obtain ⟨v, h1, h2⟩ := R.val i d q
    refine ⟨v, h1, h2.frame (same_keepI s) fun a m => ?_⟩
    obtain ⟨⟨vs, e⟩, _⟩ := h2.dom a m
    rw [e]; exact s a _ e, R.non, R.nd, R.dj⟩
theorem RepA.froz (R : RepA K F H σ δ As) (s : Same F F') (s' : Same F' H) (n : ∀ i a, a ∈ As i → F' a = none) : RepA K F' H σ δ As :=
  ⟨s', R.len, fun i d q => let ⟨v, h1, h2⟩ := R.val i d q; ⟨v, h1, h2.froz s (n i)⟩, R.non, R.nd, R.dj⟩
def asSet (As : Nat → List Addr) (i : Nat) (A : List Addr) : Nat → List Addr := fun j => if j = i then A else As j
theorem asSet_same {i : Nat} {A : List Addr} : asSet As i A i = A := if_pos rfl
theorem asSet_ne {i j : Nat} {A : List Addr} (h : j ≠ i) : asSet As i A j = As j := if_neg h
theorem RepA.set {v : V} {d : D} {A : List Addr} (R : RepA K F H σ δ As) (i : Nat) (hi : i < δ.length) (r : RepO K F H v d A) (nd : A.Nodup) (dj : ∀ j a, j ≠ i → a ∈ As j → a ∉ A) : RepA K F H (σ.set i (some v)) (δ.set i (some d)) (asSet As i A) := by
  have hl := R.len
  refine ⟨R.fz, by rw [List.length_set, List.length_set]; exact hl, fun j e q => ?_, fun j h => ?_, fun j => ?_, fun j k a hjk m => ?_⟩
  · rw [List.getElem?_set] at q ⊢
    by_cases hj : i = j
    · subst hj
      rw [if_pos rfl, if_pos hi] at q
      rw [if_pos rfl, if_pos (by omega), asSet_same]
      have : d = e := by simpa using q
      subst this
      exact ⟨v, rfl, r⟩
    · rw [if_neg hj] at q ⊢
      rw [asSet_ne (Ne.symm hj)]
      exact R.val j e q
  · by_cases hj : j = i
    · subst hj
      exact absurd (by rw [List.getElem?_set, if_pos rfl, if_pos hi]) (h d)
    · rw [asSet_ne hj]
      refine R.non j fun e z => h e ?_
      rw [List.getElem?_set_ne (Ne.symm hj)]
      exact z
  · by_cases hj : j = i
    · subst hj; rw [asSet_same]; exact nd
    · rw [asSet_ne hj]; exact R.nd j
  · by_cases hj : j = i
    · subst hj
      rw [asSet_same] at m
      rw [asSet_ne (Ne.symm hjk)]
      exact fun z => dj k a (Ne.symm hjk) z m
    · rw [asSet_ne hj] at m
      by_cases hk : k = i
      · subst hk; rw [asSet_same]; exact dj j a hj m
      · rw [asSet_ne hk]; exact R.dj j k a hjk m
theorem RepA.drop (R : RepA K F H σ δ As) (i : Nat) : RepA K F H σ (δ.set i none) (asSet As i []) := by
  refine ⟨R.fz, by rw [List.length_set]; exact R.len, fun j e q => ?_, fun j h => ?_, fun j => ?_, fun j k a hjk m => ?_⟩
  · rw [List.getElem?_set] at q
    by_cases hj : i = j
    · subst hj; rw [if_pos rfl] at q; split at q <;> cases q
    · rw [if_neg hj] at q
      rw [asSet_ne (Ne.symm hj)]
      exact R.val j e q
  · by_cases hj : j = i
    · subst hj; rw [asSet_same]
    · rw [asSet_ne hj]
      refine R.non j fun e z => h e ?_
      rw [List.getElem?_set_ne (Ne.symm hj)]
      exact z
  · by_cases hj : j = i
    · subst hj; rw [asSet_same]; exact List.nodup_nil
    · rw [asSet_ne hj]; exact R.nd j
  · by_cases hj : j = i
    · subst hj; rw [asSet_same] at m; cases m
    · rw [asSet_ne hj] at m
      by_cases hk : k = i
      · subst hk; rw [asSet_same]; exact fun z => nomatch z
      · rw [asSet_ne hk]; exact R.dj j k a hjk m
theorem RepA.write {v : V} {d : D} {A : List Addr} {i : Nat} (R : RepA K F H σ δ As) (hi : i < δ.length) (hσ : σ[i]? = some (some v)) (k : KeepI H H') (fz : Same F H') (e : ∀ j a, j ≠ i → a ∈ As j → H' a = H a) (r : RepO K F H' v d A) (nd : A.Nodup) (dj : ∀ j a, j ≠ i → a ∈ As j → a ∉ A) :
    RepA K F H' σ (δ.set i (some d)) (asSet As i A) := by
  refine ⟨fz, by rw [List.length_set]; exact R.len, fun j e' q => ?_, fun j h => ?_, fun j => ?_, fun j k a hjk m => ?_⟩
  · rw [List.getElem?_set] at q
    by_cases hj : i = j
    · subst hj
      rw [if_pos rfl, if_pos hi] at q
      have : d = e' := by simpa using q
      subst this
      rw [asSet_same]
      exact ⟨v, hσ, r⟩
    · rw [if_neg hj] at q
      rw [asSet_ne (Ne.symm hj)]
      obtain ⟨w, h1, h2⟩ := R.val j e' q
      exact ⟨w, h1, h2.frame k (fun a m => e j a (Ne.symm hj) m)⟩
  · by_cases hj : j = i
    · subst hj
      exact absurd (by rw [List.getElem?_set, if_pos rfl, if_pos hi]) (h d)
    · rw [asSet_ne hj]
      refine R.non j fun e z => h e ?_
      rw [List.getElem?_set_ne (Ne.symm hj)]
      exact z
  · by_cases hj : j = i
    · subst hj; rw [asSet_same]; exact nd
    · rw [asSet_ne hj]; exact R.nd j
  · by_cases hj : j = i
    · subst hj
      rw [asSet_same] at m
      rw [asSet_ne (Ne.symm hjk)]
      exact fun z => dj k a (Ne.symm hjk) z m
    · rw [asSet_ne hj] at m
      by_cases hk : k = i
      · subst hk; rw [asSet_same]; exact dj j a hj m
      · rw [asSet_ne hk]; exact R.dj j k a hjk m
end
abbrev FM := DS → Option (D × DS)
abbrev FMA := DS → Option (List D × DS)
structure Ev (F H : Hp) (As : Nat → List Addr) (F' H' : Hp) (As' : Nat → List Addr) (A : List Addr) : Prop where
  fs : Same F F'
  hs : Same H H'
  nf : ∀ a (u : MO), H a = some u.1 → F a = none → (∀ i, a ∉ As i) → F' a = none
  fa : ∀ i a, a ∈ As' i → (∃ j, a ∈ As j) ∨ H a = none
  fA : ∀ a, a ∈ A → (∃ j, a ∈ As j) ∨ H a = none
  nd : A.Nodup
  dj : ∀ i a, a ∈ As' i → a ∉ A
theorem Ev.pure {F H H' : Hp} {As : Nat → List Addr} (s : Same H H') : Ev F H As F H' As [] :=
  ⟨Same.refl F, s, fun _ _ _ n _ => n, fun i _ m => .inl ⟨i, m⟩, fun _ m => (nomatch m), List.nodup_nil, fun _ _ _ z => (nomatch z)⟩
theorem Ev.fresh {F H H' : Hp} {As : Nat → List Addr} {A : List Addr} (s : Same H H') (h : ∀ a ∈ A, H a = none) (nd : A.Nodup) (dom : ∀ i a, a ∈ As i → ∃ u : MO, H a = some u.1) : Ev F H As F H' As A :=
  ⟨Same.refl F, s, fun _ _ _ n _ => n, fun i _ m => .inl ⟨i, m⟩, fun a m => .inr (h a m), nd, fun i a m z => by
    obtain ⟨vs, e⟩ := dom i a m
    rw [h a z] at e; cases e⟩
theorem Ev.seq {F H F1 H1 F2 H2 : Hp} {As As1 As2 : Nat → List Addr} {A B : List Addr} (a : Ev F H As F1 H1 As1 A) (b : Ev F1 H1 As1 F2 H2 As2 B) (dA : ∀ x ∈ A, ∃ u : MO, H1 x = some u.1) : Ev F H As F2 H2 As2 (A ++ B) where
  fs := a.fs.trans b.fs
  hs := a.hs.trans b.hs
  nf := fun x vs e n h => b.nf x vs (a.hs x _ e) (a.nf x vs e n h) fun i m => by
    rcases a.fa i x m with ⟨j, z⟩ | z
    · exact h j z
    · rw [e] at z; cases z
  fa := fun i x m => by
    rcases b.fa i x m with ⟨j, z⟩ | z
    · exact a.fa j x z
    · refine .inr ?_
      cases q : H x with
      | none => rfl
      | some u => rw [a.hs x u q] at z; cases z
  fA := fun x m => by
    rcases List.mem_append.mp m with z | z
    · exact a.fA x z
    · rcases b.fA x z with ⟨j, y⟩ | y
      · exact a.fa j x y
      · refine .inr ?_
        cases q : H x with
        | none => rfl
        | some u => rw [a.hs x u q] at y; cases y
  nd := by
    refine List.nodup_append.mpr ⟨a.nd, b.nd, fun x hx y hy e => ?_⟩
    subst e
    rcases b.fA x hy with ⟨j, z⟩ | z
    · exact a.dj j x z hx
    · obtain ⟨vs, e⟩ := dA x hx
      rw [z] at e; cases e
  dj := fun i x m z => by
    rcases List.mem_append.mp z with z | z
    · rcases b.fa i x m with ⟨j, y⟩ | y
      · exact a.dj j x y z
      · obtain ⟨vs, e⟩ := dA x z
        rw [y] at e; cases e
    · exact b.dj i x m z
theorem Ev.stays {K : PySem.W.Frag} {F1 H1 F2 H2 : Hp} {As1 As2 : Nat → List Addr} {A B : List Addr} {v : V} {d : D} (b : Ev F1 H1 As1 F2 H2 As2 B) (r : RepO K F1 H1 v d A) (dj : ∀ i a, a ∈ As1 i → a ∉ A) : RepO K F2 H2 v d A := by
  have h1 : RepO K F1 H2 v d A := r.frame (same_keepI b.hs) fun a m => by
    obtain ⟨⟨vs, e⟩, _⟩ := r.dom a m
    rw [e]; exact b.hs a _ e
  refine h1.froz b.fs fun a m => ?_
  obtain ⟨⟨vs, e⟩, n⟩ := r.dom a m
  exact b.nf a vs e n fun i z => dj i a z m
def upV (K : PySem.W.Frag) (f : FM) : TE := fun σ H Q => ∃ F δ As d δ', RepA K F H σ δ As ∧ f δ = some (d, δ') ∧ ∀ v F' H' A As', Ev F H As F' H' As' A → RepA K F' H' σ δ' As' → RepO K F' H' v d A → Q v H'
def upVA (K : PySem.W.Frag) (n : Nat) (f : FMA) : TA := fun σ H Q => ∃ F δ As ds δ', RepA K F H σ δ As ∧ f δ = some (ds, δ') ∧ ∀ vs F' H' A As', Ev F H As F' H' As' A → RepA K F' H' σ δ' As' → RepOs K F' H' vs ds A → vs.length = n → Q vs H'
def PV (X : Cx) (e : Expr) (f : FM) : Prop := PE X e (upV X.K f)
def PVA (X : Cx) (es : List Expr) (f : FMA) : Prop := PA X es (upVA X.K es.length f)
def vI (f : FD) : FM := fun δ => (f δ).bind fun d => if imm d then some (d, δ) else none
def vName (i : Nat) : FM := fun δ => match δ[i]? with
  | some (some (.seq ds)) => some (.seq ds, δ)
  | some (some d) => if imm d then some (d, δ) else some (d, δ.set i none)
  | _ => none
def vShare (i : Nat) : FM := fun δ => match δ[i]? with
  | some (some d) => some (sh d, δ.set i (some (sh d)))
  | _ => none
def vNil : FMA := fun δ => some ([], δ)
def vCons (f : FM) (g : FMA) : FMA := fun δ => (f δ).bind fun p => (g p.2).bind fun q => some (p.1 :: q.1, q.2)
def vLst (g : FMA) : FM := fun δ => (g δ).bind fun p => some (.lst p.1, p.2)
def vTup (g : FMA) : FM := fun δ => (g δ).bind fun p => some (.tup p.1, p.2)
def vCall (G : List D → Option D) (g : FA) : FM := fun δ => (g δ).bind fun ds => (G ds).bind fun d => if own d then some (d, δ) else none
def freshSp (K : PySem.W.Frag) (n : Nat) (G : List D → Option D) : Sp := fun vs H Q _ => vs.length = n ∧ ∃ ds d, Reps K H vs ds ∧ G ds = some d ∧ ∀ v H' A, Same H H' → RepO K H H' v d A → A.Nodup → Q v H'
section
variable {X : Cx} {e : Expr} {es : List Expr} {f : FD} {fm : FM} {g : FMA} {ga : FA} {pos p : Pos}
theorem pv_imm (h : PD X e f) : PV X e (vI f) := imp h fun σ H Q ⟨F, δ, As, d, δ', R, q, k⟩ => by
  unfold vI at q
  obtain ⟨d0, ed, q⟩ := Option.bind_eq_some_iff.mp q
  split at q
  · rename_i hi
    cases q
    exact ⟨δ, d, R.toS, ed, fun v H' s r => k v F H' [] As (.pure s) (R.grow s) (.imm hi r)⟩
  · cases q
theorem pv_name (i : Nat) {x : Str} (hN : X.N[i]? = some x := by rfl) (hv : Vis X.env.scope x := by first | exact Or.inl rfl | exact Or.inr (Or.inl rfl) | exact Or.inr (Or.inr rfl)) (hd : (x == ("__debug__" : Str)) = false := by decide)
    (hcd : (x == ("__classdict__" : Str)) = false := by decide) : PV X (.Name x pos) (vName i) :=
  imp (pe_var hN hv hd hcd) fun σ H Q ⟨F, δ, As, d, δ', R, q, k⟩ => by
    unfold vName at q
    split at q
    · rename_i ds h
      cases q
      obtain ⟨v, h1, h2⟩ := R.val i _ h
      rw [h2.seq_nil rfl] at h2
      exact ⟨v, h1, k v F H [] As (.pure (Same.refl H)) R h2⟩
    · rename_i d0 _ h
      obtain ⟨v, h1, h2⟩ := R.val i _ h
      split at q
      · rename_i hi
        cases q
        have z := h2.none_of hi
        rw [z] at h2
        exact ⟨v, h1, k v F H [] As (.pure (Same.refl H)) R h2⟩
      · cases q
        refine ⟨v, h1, k v F H (As i) (asSet As i []) ⟨Same.refl F, Same.refl H, fun _ _ _ n _ => n, fun j a m => ?_, fun a m => .inl ⟨i, m⟩, R.nd i, fun j a m => ?_⟩ (R.drop i) h2⟩
        · by_cases hj : j = i
          · subst hj; rw [asSet_same] at m; cases m
          · rw [asSet_ne hj] at m; exact .inl ⟨j, m⟩
        · by_cases hj : j = i
          · subst hj; rw [asSet_same] at m; cases m
          · rw [asSet_ne hj] at m; exact R.dj j i a hj m
    · cases q
theorem pv_share (i : Nat) {x : Str} (hN : X.N[i]? = some x := by rfl) (hv : Vis X.env.scope x := by first | exact Or.inl rfl | exact Or.inr (Or.inl rfl) | exact Or.inr (Or.inr rfl)) (hd : (x == ("__debug__" : Str)) = false := by decide)
    (hcd : (x == ("__classdict__" : Str)) = false := by decide) : PV X (.Name x pos) (vShare i) :=
  imp (pe_var hN hv hd hcd) fun σ H Q ⟨F, δ, As, d, δ', R, q, k⟩ => by
    unfold vShare at q
    split at q
    · rename_i d0 h
      cases q
      obtain ⟨v, h1, h2⟩ := R.val i _ h
      have hi : i < δ.length := (List.getElem?_eq_some_iff.mp h).1
      have s1 := frz_same (A := As i) R.fz
      have s2 : Same (frz F H (As i)) H := frz_in
      have z : Rep X.K (frz F H (As i)) v (sh d0) := h2.freeze s1 frz_keep fun a vs m e => frz_lst e m
      have z2 : RepO X.K (frz F H (As i)) H v (sh (sh d0)) [] := RepO.of_sh s2 z
      rw [sh_sh d0] at z2
      have R1 := (R.drop i).froz s1 s2 (fun j a m => by
        by_cases hj : j = i
        · subst hj; rw [asSet_same] at m; cases m
        · rw [asSet_ne hj] at m
          obtain ⟨⟨vs, e⟩, n⟩ := R.dom m
          exact frz_out e n (R.dj j i a hj m))
      have R2 := R1.set i (by rw [List.length_set]; exact hi) z2 List.nodup_nil fun _ _ _ _ z => nomatch z
      have hσ : σ.set i (some v) = σ := by
        refine List.ext_getElem? fun j => ?_
        rw [List.getElem?_set]
        split
        · rename_i hj; subst hj
          rw [h1, if_pos (by rw [R.len]; exact hi)]
        · rfl
      rw [hσ, List.set_set] at R2
      refine ⟨v, h1, k v _ H [] _ ⟨s1, Same.refl H, fun a vs e n h => frz_out e n (h i), fun j a m => ?_, fun _ m => (nomatch m), List.nodup_nil, fun _ _ _ z => (nomatch z)⟩ R2 z2⟩
      by_cases hj : j = i
      · subst hj; rw [asSet_same] at m; cases m
      · rw [asSet_ne hj, asSet_ne hj] at m; exact .inl ⟨j, m⟩
    · cases q
theorem pva_nil : PVA X [] vNil := impA pa_nil fun σ H Q ⟨F, δ, As, ds, δ', R, q, k⟩ => by
  cases q
  exact k [] F H [] As (.pure (Same.refl H)) R .nil rfl
theorem pva_cons (ha : PV X e fm) (hr : PVA X es g) (hs : starEach (e :: es) X.env = (false, eval e X.env) :: starEach es X.env := by rfl) : PVA X (e :: es) (vCons fm g) := impA (pa_cons ha hr hs) fun σ H Q ⟨F, δ, As, ds, δ', R, q, k⟩ => by
  unfold vCons at q
  obtain ⟨⟨d1, δ1⟩, e1, q⟩ := Option.bind_eq_some_iff.mp q
  obtain ⟨⟨ds2, δ2⟩, e2, q⟩ := Option.bind_eq_some_iff.mp q
  cases q
  refine ⟨F, δ, As, d1, δ1, R, e1, fun v F1 H1 A As1 ev1 R1 r1 => ⟨F1, δ1, As1, ds2, δ2, R1, e2, fun vs F2 H2 B As2 ev2 R2 r2 l => ?_⟩⟩
  exact k (v :: vs) F2 H2 (A ++ B) As2 (ev1.seq ev2 fun x m => (r1.dom x m).1) R2 (.cons (ev2.stays r1 ev1.dj) r2 rfl) (congrArg (· + 1) l)
theorem pv_tup {x1} (h : PVA X es g) (hz : es.length ≤ 1000 := by decide) : PV X (.Tuple es x1 pos) (vTup g) := imp (pe_tup h) fun σ H Q ⟨F, δ, As, d, δ', R, q, k⟩ => by
  unfold vTup at q
  obtain ⟨⟨ds, δ1⟩, e1, q⟩ := Option.bind_eq_some_iff.mp q
  cases q
  refine ⟨F, δ, As, ds, _, R, e1, fun vs F1 H1 A As1 ev R1 r1 l => ⟨le_line (by rw [l]; exact hz), fun p hp => ?_⟩⟩
  have s := same_new hp (.tup vs)
  have ev' : Ev F H As F1 (upd H1 p (.tup vs)) As1 A := ⟨ev.fs, ev.hs.trans s, ev.nf, ev.fa, ev.fA, ev.nd, ev.dj⟩
  refine k _ F1 _ A As1 ev' (R1.grow s) (.tup (SqT.of upd_same) (r1.frame (same_keepI s) fun a m => ?_))
  obtain ⟨⟨ws, e⟩, _⟩ := r1.dom a m
  rw [e]; exact s a _ e
theorem pv_lst (h : PVA X es g) (hz : es.length ≤ 1000 := by decide) : PV X (.List es pos) (vLst g) := imp (pe_lst h) fun σ H Q ⟨F, δ, As, d, δ', R, q, k⟩ => by
  unfold vLst at q
  obtain ⟨⟨ds, δ1⟩, e1, q⟩ := Option.bind_eq_some_iff.mp q
  cases q
  refine ⟨F, δ, As, ds, _, R, e1, fun vs F1 H1 A As1 ev R1 r1 l => ⟨le_line (by rw [l]; exact hz), fun p hp => ?_⟩⟩
  have s := same_new hp (.lst vs)
  have np : ∀ {u : Hp}, Same u H1 → u p = none := fun {u} su => by
    cases q : u p with
    | none => rfl
    | some o => rw [su p o q] at hp; cases hp
  have ev' : Ev F H As F1 (upd H1 p (.lst vs)) As1 (p :: A) := ⟨ev.fs, ev.hs.trans s, ev.nf, ev.fa, fun a m => by
    rcases List.mem_cons.mp m with z | z
    · subst z; exact .inr (np ev.hs)
    · exact ev.fA a z, List.nodup_cons.mpr ⟨fun m => (by
      obtain ⟨⟨ws, e⟩, _⟩ := r1.dom p m
      rw [hp] at e; cases e), ev.nd⟩, fun i a m z => by
    rcases List.mem_cons.mp z with z | z
    · subst z
      obtain ⟨⟨ws, e⟩, _⟩ := R1.dom m
      rw [hp] at e; cases e
    · exact ev.dj i a m z⟩
  refine k _ F1 _ (p :: A) As1 ev' (R1.grow s) (.lst upd_same (np R1.fz) (r1.frame (same_keepI s) fun a m => ?_))
  obtain ⟨⟨ws, e⟩, _⟩ := r1.dom a m
  rw [e]; exact s a _ e
end
end Dl
namespace Dl
open PySem PySem.Spec PyProof.Rows L2
def RPM (X : Cx) (E : Ends) (F : Hp) : Res → Prop
  | .nx δ => ∀ σ' F' H', Same F F' → RepM X.K F' H' σ' δ → E.nx σ' H'
  | .rt d => ∀ v F' H' A, Same F F' → Same F' H' → RepO X.K F' H' v d A → A.Nodup → E.rt v H'
  | .bk δ => ∀ σ' F' H', Same F F' → RepM X.K F' H' σ' δ → E.bk σ' H'
  | .ct δ => ∀ σ' F' H', Same F F' → RepM X.K F' H' σ' δ → E.ct σ' H'
  | .ex C δ => ∀ σ' F' H', Same F F' → RepM X.K F' H' σ' δ → XFly X C σ' H'
  | .mk C δ => ∀ σ' F' H', Same F F' → RepM X.K F' H' σ' δ → XMade X C σ' H'
theorem RPM.mono {X : Cx} {E : Ends} {F F1 : Hp} {r : Res} (s : Same F F1) (h : RPM X E F r) : RPM X E F1 r := by
  cases r with
  | nx δ => exact fun σ' F' H' s2 R => h σ' F' H' (s.trans s2) R
  | rt d => exact fun v F' H' A s2 => h v F' H' A (s.trans s2)
  | bk δ => exact fun σ' F' H' s2 R => h σ' F' H' (s.trans s2) R
  | ct δ => exact fun σ' F' H' s2 R => h σ' F' H' (s.trans s2) R
  | ex C δ => exact fun σ' F' H' s2 R => h σ' F' H' (s.trans s2) R
  | mk C δ => exact fun σ' F' H' s2 R => h σ' F' H' (s.trans s2) R
def upM (X : Cx) (s : SD) : TS := fun E σ H => ∃ F δ r, RepM X.K F H σ δ ∧ s δ = some r ∧ RPM X E F r
def PMD (X : Cx) (st : Stmt) (s : SD) : Prop := PS X st (upM X s)
def PMs (X : Cx) (sts : List Stmt) (s : SD) : Prop := PSs X sts (upM X s)
section
variable {K : PySem.W.Frag} {F H : Hp} {σ : L2.St} {δ : DS} {As : Nat → List Addr}
theorem RepA.setM {v : V} {d : D} {A : List Addr} (R : RepA K F H σ δ As) (i : Nat) (r : RepO K F H v d A) (nd : A.Nodup) (dj : ∀ j a, a ∈ As j → a ∉ A) : RepM K F H (σ.set i (some v)) (δ.set i (some d)) := by
  by_cases hi : i < δ.length
  · exact ⟨_, R.set i hi r nd fun j a _ m => dj j a m⟩
  · have hl := R.len
    rw [List.set_eq_of_length_le (by omega), List.set_eq_of_length_le (by omega)]
    exact ⟨As, R⟩
end
section
variable {X : Cx} {st : Stmt} {rest : List Stmt} {s u : SD} {e : Expr} {f : FD} {fm : FM} {c : FT} {pos : Pos}
theorem pm_nil : PMs X [] sNil := impSs pss_nil fun E σ H ⟨F, δ, r, R, e, k⟩ => by cases e; exact k σ F H (Same.refl F) R
theorem pm_cons (h1 : PMD X st s) (h2 : PMs X rest u) : PMs X (st :: rest) (sSeq s u) := impSs (pss_cons h1 h2) fun E σ H ⟨F, δ, r, R, e, k⟩ => by
  unfold sSeq at e
  obtain ⟨r1, e1, e⟩ := Option.bind_eq_some_iff.mp e
  refine ⟨F, δ, r1, R, e1, ?_⟩
  cases r1 with
  | nx δ' => exact fun σ' F' H' s1 R1 => ⟨F', δ', r, R1, e, k.mono s1⟩
  | rt d => cases e; exact k
  | bk d => cases e; exact k
  | ct d => cases e; exact k
  | ex C d => cases e; exact k
  | mk C d => cases e; exact k
theorem pm_one (h : PMD X st s) : PMs X [st] s := pss_one h
theorem pm_if {cx : Expr} {a b : List Stmt} (hc : PTD X cx c) (ha : PMs X a s) (hb : PMs X b u) : PMD X (.If cx a b pos) (sIf c s u) := impS (ps_if hc ha hb) fun E σ H ⟨F, δ, r, ⟨As, R⟩, q, k⟩ => by
  unfold sIf at q
  obtain ⟨d, ed, q⟩ := Option.bind_eq_some_iff.mp q
  refine ⟨δ, d, R.toS, ed, fun H' s1 => ?_⟩
  cases d with
  | true => rw [if_pos rfl]; exact ⟨F, δ, r, ⟨As, R.grow s1⟩, q, k⟩
  | false => rw [if_neg Bool.false_ne_true]; exact ⟨F, δ, r, ⟨As, R.grow s1⟩, q, k⟩
def sSetM (i : Nat) (f : FM) : SD := fun δ => (f δ).bind fun p => some (.nx (p.2.set i (some p.1)))
def sRetM (f : FM) : SD := fun δ => (f δ).bind fun p => some (.rt p.1)
def sDropM (f : FM) : SD := fun δ => (f δ).bind fun p => some (.nx p.2)
theorem pm_set (i : Nat) {x : Str} {pos' : Pos} (hN : X.N.Nodup) (he : PV X e fm) (hi : X.N[i]? = some x := by rfl) (hx : Loc X.env.scope x := by first | exact Or.inl rfl | exact Or.inr rfl) (hs : swapsWith e (some (.Name x pos')) pos.line X.env = pure false := by rfl) (hf : X.fn x = true ∨ X.env.scope.names.lookup x = some .local := by first | exact .inl rfl | exact .inr rfl | assumption) :
    PMD X (.Assign [.Name x pos'] e pos) (sSetM i fm) := impS (ps_set hN hi hx he hs hf) fun E σ H ⟨F, δ, r, ⟨As, R⟩, q, k⟩ => by
  unfold sSetM at q
  obtain ⟨⟨d, δ'⟩, ed, q⟩ := Option.bind_eq_some_iff.mp q
  cases q
  exact ⟨F, δ, As, d, δ', R, ed, fun v F' H' A As' ev R' r' => k (σ.set i (some v)) F' H' ev.fs (R'.setM i r' ev.nd ev.dj)⟩
theorem pm_ret (he : PV X e fm) : PMD X (.Return (some e) pos) (sRetM fm) := impS (ps_ret he) fun E σ H ⟨F, δ, r, ⟨As, R⟩, q, k⟩ => by
  unfold sRetM at q
  obtain ⟨⟨d, δ'⟩, ed, q⟩ := Option.bind_eq_some_iff.mp q
  cases q
  exact ⟨F, δ, As, d, δ', R, ed, fun v F' H' A As' ev R' r' => k v F' H' A ev.fs R'.fz r' ev.nd⟩
end
def ItF (K : PySem.W.Frag) (J : It) (F : Hp) (ds : List D) : Prop := ∀ i H2, Same F H2 →
  (i < ds.length → J.go i H2 ∧ ∀ x H', J.yld i H2 x H' → H' = H2 ∧ ∃ d, ds[i]? = some d ∧ Rep K F x d) ∧ (ds.length ≤ i → J.stop i H2)
def upIM (K : PySem.W.Frag) (src : FMA) : TI := fun σ H R => ∃ F δ As ds δ', RepA K F H σ δ As ∧ src δ = some (ds, δ') ∧ ∀ J F' H1 As', Same F F' → RepA K F' H1 σ δ' As' → ItF K J F' ds → R J H1
def PIM (X : Cx) (tg iter : Expr) (src : FMA) : Prop := PI X tg iter (upIM X.K src)
theorem itf_list {K : PySem.W.Frag} {F : Hp} {a : Addr} {vs : List V} {ds : List D} (hq : SqL K F a vs) (r : Reps K F vs ds) : ItF K (Itl K a) F ds := by
  intro i H2 s
  have hq2 := s.seq hq
  have hl := r.length
  refine ⟨fun hi => ⟨⟨vs, vs[i], hq2, by simp [show i < vs.length by omega]⟩, fun x H' y => ?_⟩, fun hi => ⟨vs, hq2, by omega⟩⟩
  obtain ⟨e, y⟩ := y
  subst e
  obtain ⟨d, h1, h2⟩ := r.getV (y vs hq2)
  exact ⟨rfl, d, h1, h2⟩
def vWalk (f : FM) : FMA := fun δ => (f δ).bind fun p => match sh p.1 with
  | .seq ds => some (ds, p.2)
  | _ => none
theorem pim_list {X : Cx} {tg l : Expr} {fm : FM} (hl : PV X l fm) : PIM X tg l (vWalk fm) := impI (pi_list hl) fun σ H R ⟨F, δ, As, ds, δ', R0, e, k⟩ => by
  unfold vWalk at e
  obtain ⟨⟨d, δ1⟩, ed, e⟩ := Option.bind_eq_some_iff.mp e
  dsimp only at e
  split at e
  · rename_i es hs
    cases e
    refine ⟨F, δ, As, d, _, R0, ed, fun v F1 H1 A As1 ev R1 r1 => ?_⟩
    have s1 := frz_same (A := A) R1.fz
    have s2 : Same (frz F1 H1 A) H1 := frz_in
    have z : Rep X.K (frz F1 H1 A) v (sh d) := r1.freeze s1 frz_keep fun a vs m e => frz_lst e m
    rw [hs] at z
    have R2 := R1.froz s1 s2 (fun j a m => by
      obtain ⟨⟨vs, e⟩, n⟩ := R1.dom m
      exact frz_out e n (ev.dj j a m))
    cases z with
    | @seq p vs _ hp rp => exact ⟨p, rfl, ⟨vs, s2.seq hp⟩, k _ _ H1 As1 (ev.fs.trans s1) R2 (itf_list hp rp)⟩
  · cases e
theorem itf_range {K : PySem.W.Frag} {F : Hp} {lo : Int} {n : Nat} : ItF K (Itr lo n) F ((List.range n).map fun (i : Nat) => D.int (lo + (i : Int) * 1)) := by
  intro i H2 s
  refine ⟨fun hi => ?_, fun hi => (show n ≤ i by simpa using hi)⟩
  have hi' : i < n := by simpa using hi
  refine ⟨hi', fun x H' y => ?_⟩
  obtain ⟨e, y⟩ := y
  subst e y
  refine ⟨rfl, .int (lo + (i : Int) * 1), ?_, by rw [Int.mul_one]; exact .int _⟩
  rw [List.getElem?_map, List.getElem?_range hi']
  rfl
def vRange (g : FA) : FMA := fun δ => (g δ).bind fun ds => (asR ds).bind fun rs => if ds.length ≤ 2 then some (rs, δ) else none
theorem pim_range1 {X : Cx} {tg a : Expr} {g : FA} {p pos : Pos} (hg : Gl X "range") (hm : X.mg "range" = none) (ha : PAD X [a] g) (hs : starEach [a] X.env = [(false, eval a X.env)] := by rfl) : PIM X tg (.Call (.Name "range" p) [a] [] pos) (vRange g) :=
  impI (pi_range1 hg hm ha hs) fun σ H R ⟨F, δ, As, ds, δ', R0, e, k⟩ => by
  unfold vRange at e
  obtain ⟨xs, exs, e⟩ := Option.bind_eq_some_iff.mp e
  obtain ⟨rs, ers, e⟩ := Option.bind_eq_some_iff.mp e
  split at e
  · cases e
    refine ⟨δ, xs, R0.toS, exs, fun vs H1 s1 r1 l => ?_⟩
    match xs, r1, ers with
    | [.int b], r1, e =>
      obtain ⟨v, rfl, rv⟩ := reps1 r1
      cases rv
      have e' : (if -(2 ^ 62) ≤ b ∧ b < 2 ^ 62 then some (rangeD 0 b 1) else none) = some ds := e
      by_cases hb : -(2 ^ 62) ≤ b ∧ b < 2 ^ 62
      · rw [if_pos hb] at e'
        have e2 : rangeD 0 b 1 = ds := Option.some.inj e'
        refine ⟨b, rfl, hb.1, hb.2, k _ F H1 As (Same.refl F) (R0.grow s1) ?_⟩
        have h := itf_range (K := X.K) (F := F) (lo := 0) (n := b.toNat)
        have e3 : ((b - 0 + 1 - 1) / 1).toNat = b.toNat := by congr 1; omega
        unfold rangeD at e2
        rw [e3] at e2
        rw [← e2]
        exact h
      · rw [if_neg hb] at e'; cases e'
    | [], r1, e => cases r1; cases l
    | _ :: _ :: _, r1, e =>
      have := r1.length
      rw [l] at this
      cases this
    | [.non], r1, e => cases e
    | [.bl _], r1, e => cases e
    | [.str _], r1, e => cases e
    | [.tup _], r1, e => cases e
    | [.lst _], r1, e => cases e
    | [.seq _], r1, e => cases e
    | [.ty _], r1, e => cases e
    | [.dct], r1, e => cases e
    | [.exc _], r1, e => cases e
    | [.cls _], r1, e => cases e
    | [.ms _ _], r1, e => cases e
    | [.mf _ _], r1, e => cases e
    | [.md _ _], r1, e => cases e
  · cases e
def forM (i : Nat) (s : SD) : List D → SD
  | [] => fun δ => some (.nx δ)
  | d :: ds => fun δ => (s (δ.set i (some (sh d)))).bind fun r => match r with
    | .nx δ' => forM i s ds δ'
    | .ct δ' => forM i s ds δ'
    | .bk δ' => some (.nx δ')
    | .rt d => some (.rt d)
    | .ex C δ' => some (.ex C δ')
    | .mk C δ' => some (.mk C δ')
def sForM (src : FMA) (i : Nat) (s : SD) : SD := fun δ => (src δ).bind fun p => forM i s p.1 p.2
theorem pm_for {X : Cx} {iter : Expr} {body : List Stmt} {src : FMA} {s : SD} {x : Str} {px pos : Pos} (i : Nat) (hN : X.N.Nodup) (hp : PassesOwn (model X.prog X.w) X.A X.env X.xe) (hc : X.calm = true) (hi : PIM X (.Name x px) iter src) (hb : PMs X body s)
    (hx : X.N[i]? = some x := by rfl) (hl : Loc X.env.scope x := by first | exact Or.inl rfl | exact Or.inr rfl) (hf : X.fn x = true ∨ X.env.scope.names.lookup x = some .local := by first | exact .inl rfl | exact .inr rfl | assumption)
    (hs : ∀ x, foldedSetIterable iter X.env x = pure x := by intro _; rfl) : PMD X (.For (.Name x px) iter body [] pos) (sForM src i s) := impS (ps_for hp hc hi (pg_name hN hx hl hf) hb hs) fun E σ H ⟨F, δ, r, ⟨As, R⟩, e, k⟩ => by
  unfold sForM at e
  obtain ⟨⟨ds, δ1⟩, eds, e⟩ := Option.bind_eq_some_iff.mp e
  refine ⟨F, δ, As, ds, δ1, R, eds, fun J F1 H1 As1 s1 R1 it => ?_⟩
  refine ⟨fun j m σ H => m = ds.length - j ∧ j ≤ ds.length ∧ ∃ F2 δ, Same F1 F2 ∧ RepM X.K F2 H σ δ ∧ forM i s (ds.drop j) δ = some r ∧ RPM X E F2 r, ⟨ds.length, rfl, Nat.zero_le _, F1, δ1, Same.refl _, ⟨As1, R1⟩, e, k.mono s1⟩, ?_⟩
  rintro j m σ H2 ⟨rfl, hjl, F2, δ2, s2, ⟨As2, R2⟩, e2, k2⟩
  by_cases hlt : j < ds.length
  · obtain ⟨go, yl⟩ := (it j H2 (s2.trans R2.fz)).1 hlt
    rw [List.drop_eq_getElem_cons hlt] at e2
    obtain ⟨r4, e4, e2⟩ := Option.bind_eq_some_iff.mp (show ((s (δ2.set i (some (sh ds[j])))).bind _) = some r from e2)
    refine .inr ⟨go, fun σ' H' => ∃ F3 δ, Same F1 F3 ∧ RepM X.K F3 H' σ' δ ∧ forM i s (ds.drop (j + 1)) δ = some r ∧ RPM X E F3 r, fun σ' H' z => ⟨ds.length - (j + 1), by omega, rfl, hlt, z⟩, fun y H' yy => ?_⟩
    obtain ⟨eH, d, hd, rx⟩ := yl y H' yy
    subst eH
    have hd' : d = ds[j] := by
      rw [List.getElem?_eq_getElem hlt] at hd
      exact (Option.some.inj hd).symm
    subst hd'
    have R3 := R2.setM i (RepO.of_sh R2.fz (rx.mono s2)) List.nodup_nil fun _ _ _ z => nomatch z
    refine ⟨F2, δ2.set i (some (sh ds[j])), r4, R3, e4, ?_⟩
    cases r4 with
    | nx δ' => exact fun σ' F' H'' s4 R4 => ⟨F', δ', s2.trans s4, R4, e2, k2.mono s4⟩
    | ct δ' => exact fun σ' F' H'' s4 R4 => ⟨F', δ', s2.trans s4, R4, e2, k2.mono s4⟩
    | bk δ' => cases e2; exact k2
    | rt d => cases e2; exact k2
    | ex C δ' => cases e2; exact k2
    | mk C δ' => cases e2; exact k2
  · have e : j = ds.length := by omega
    subst e
    rw [List.drop_length] at e2
    cases e2
    exact .inl ⟨(it _ H2 (s2.trans R2.fz)).2 (Nat.le_refl _), k2 σ F2 H2 (Same.refl _) ⟨As2, R2⟩⟩
def startM (n : Nat) (ds : List D) : DS := (shs ds).map some ++ List.replicate (n - ds.length) none
theorem repM_start {K : PySem.W.Frag} {H : Hp} {N : List Str} {vs : List V} {ds : List D} (r : Reps K H vs ds) : RepM K H H (L2.start N vs) (startM N.length ds) := by
  have l2 : (shs ds).length = ds.length := by rw [shs_map, List.length_map]
  refine ⟨fun _ => [], Same.refl H, by unfold L2.start startM; simp [r.length, l2], fun i d q => ?_, fun _ _ => rfl, fun _ => List.nodup_nil, fun _ _ _ _ m => nomatch m⟩
  unfold startM at q
  unfold L2.start
  have hi : i < ds.length := by
    by_cases hi : i < ds.length
    · exact hi
    · rw [List.getElem?_append_right (by simpa [l2] using hi), List.getElem?_replicate] at q
      split at q <;> cases q
  rw [List.getElem?_append_left (by simpa [l2] using hi), List.getElem?_map] at q
  obtain ⟨e, h1, h2⟩ := Option.map_eq_some_iff.mp q
  cases h2
  rw [shs_map, List.getElem?_map] at h1
  obtain ⟨d0, h3, h4⟩ := Option.map_eq_some_iff.mp h1
  subst h4
  obtain ⟨v, h5, h6⟩ := r.get h3
  have hv : i < vs.length := by rw [r.length]; exact hi
  exact ⟨v, by rw [List.getElem?_append_left (by simpa using hv), List.getElem?_map, h5]; rfl, RepO.of_sh (Same.refl H) h6⟩
section
variable {P : Program} {w : World} {K : PySem.W.Frag} {mg : Str → Option Value} {base : Heap}
theorem fresh_ok {x qual : Str} {st : Stmt} {f : Addr} {fd : FuncData} {N ps : List Str} {k : Nat} {G : List D → Option D} (F : Fun K x qual st f fd) (S : FnScope N ps (defScope st))
    (hbody : ∀ (cdv : Value) (A : Around) (outer : List Env) (s : Shared) (H : Hp) (E : XK) (ds : List D) (d : D), Room k (A.deeper (envOfC qual (defScope st) s.heap.objs.size f cdv)) → G ds = some d → ds.length = ps.length →
      ∃ t, PMs (cxOf CX0 P w K mg base N qual (defScope st) f cdv A outer s H E).nox (defBody st) t ∧ retOf (t (startM N.length ds)) = some d ∧ own d = true) : FnOk P w K mg base CX0 (k + 1) f fd ps (freshSp K ps.length G) := by
  refine F.ok S (fun vs H Q E h => h.1) (fun cdv A outer s H vs Q E hr h => ?_)
  obtain ⟨hl, ds, d, r, e, q⟩ := h
  obtain ⟨t, ht, hq, ho⟩ := hbody cdv A outer s H E ds d hr e (r.length.symm.trans hl)
  refine ⟨_, ht, H, startM N.length ds, ?_⟩
  cases z : t (startM N.length ds) with
  | none => rw [z] at hq; cases hq
  | some res =>
    rw [z] at hq
    refine ⟨res, repM_start r, rfl, ?_⟩
    cases res with
    | rt d' => cases hq; exact fun v F' H' A s1 s2 r1 nd => q v H' A (s1.trans s2) (r1.thaw s1 ho) nd
    | nx δ => cases hq; exact fun σ' F' H' s1 ⟨As, R⟩ => q _ H' [] (s1.trans R.fz) (.imm rfl .non) List.nodup_nil
    | bk δ => cases hq
    | ct δ => cases hq
    | ex C δ => cases hq
    | mk C δ => cases hq
structure HasF (P : Program) (w : World) (K : PySem.W.Frag) (mg : Str → Option Value) (base : Heap) (k : Nat) (x : Str) (ps : List Str) (G : List D → Option D) : Prop where
  ex : ∃ f fd, FnOk P w K mg base CX0 k f fd ps (freshSp K ps.length G) ∧ mg x = some (.ref f) ∧ PySem.W.keepIn K (.ref f) = true ∧ Binds K fd ps []
theorem HasF.has {k : Nat} {x : Str} {ps : List Str} {G : List D → Option D} (h : HasF P w K mg base k x ps G) : Has P w K mg base k x ps G := by
  obtain ⟨f, fd, F, h1, h2, h3⟩ := h.ex
  refine ⟨f, fd, F.imp fun vs H Q E ⟨l, ds, d, r, e, q⟩ => ⟨l, ds, d, r, e, fun v H' A s r1 _ => q v H' s (r1.rep s)⟩, h1, h2, h3⟩
theorem law_okM {x qual q : Str} {st : Stmt} {f : Addr} {fd : FuncData} {N : List Str} {k : Nat} (F : Fun K x qual st f fd) (S : FnScope N [q] (defScope st))
    (hbody : ∀ (cdv : Value) (A : Around) (outer : List Env) (s : Shared) (H : Hp) (E : XK) (ns : List Int), Room k (A.deeper (envOfC qual (defScope st) s.heap.objs.size f cdv)) → ns.length ≤ 63 →
      ∃ t, PMs (cxOf CX0 P w K mg base N qual (defScope st) f cdv A outer s H E).nox (defBody st) t ∧ retOf (t (startM N.length [.seq (ns.map D.int)])) = some (.bl true)) : FnOk P w K mg base CX0 (k + 1) f fd [q] (spLaw K) := by
  refine F.ok S (fun vs H Q E h => ?_) (fun cdv A outer s H vs Q E hr h => ?_)
  · obtain ⟨a, ns, rfl, _⟩ := h
    rfl
  obtain ⟨a, ns, rfl, hS, hl, q⟩ := h
  obtain ⟨t, ht, hq⟩ := hbody cdv A outer s H E ns hr hl
  refine ⟨_, ht, H, startM N.length [.seq (ns.map D.int)], ?_⟩
  cases z : t (startM N.length [.seq (ns.map D.int)]) with
  | none => rw [z] at hq; cases hq
  | some res =>
    rw [z] at hq
    refine ⟨res, repM_start (.cons (.seq hS (Reps.ints ns)) .nil), rfl, ?_⟩
    cases res with
    | rt d' =>
      cases hq
      intro v F' H' A s1 s2 r1 nd
      cases r1.rep s2
      exact q H'
    | nx δ => cases hq
    | bk δ => cases hq
    | ct δ => cases hq
    | ex C δ => cases hq
    | mk C δ => cases hq
end
theorem pv_call {X : Cx} {e : Expr} {es : List Expr} {g : FA} {pos p : Pos} {k j : Nat} {x : Str} {ps : List Str} {G : List D → Option D} (F : HasF X.prog X.w X.K X.mg X.base k x ps G) (hr : Room j X.A) (ha : PAD X (e :: es) g) (hk : k ≤ j := by decide) (hg : Gl X x := by rfl)
    (hn : (e :: es).length = ps.length := by rfl) (hdb : (x == ("__debug__" : Str)) = false := by decide) (he : starEach (e :: es) X.env = (false, eval e X.env) :: starEach es X.env := by rfl) (hpl : (backTo pos (starEach es X.env)).any (·.1) = false := by rfl) :
    PV X (.Call (.Name x p) (e :: es) [] pos) (vCall G g) := by
  obtain ⟨f, fd, F, hm, kp, hb⟩ := F.ex
  refine imp (pe_call F (hr.mono hk) hg hm kp hb .nil pass0 ha hdb he hpl) fun σ H Q ⟨F0, δ, As, d, δ', R, q, k⟩ => ?_
  unfold vCall at q
  obtain ⟨ds, eds, q⟩ := Option.bind_eq_some_iff.mp q
  obtain ⟨d0, ed, q⟩ := Option.bind_eq_some_iff.mp q
  split at q
  · rename_i ho
    cases q
    refine ⟨δ, ds, R.toS, eds, fun vs H1 s1 r1 l => ?_⟩
    show freshSp X.K ps.length G (vs ++ []) H1 Q E0
    rw [List.append_nil]
    refine ⟨l.trans hn, ds, d, r1, ed, fun v H' A s2 r2 nd => ?_⟩
    have nA : ∀ a ∈ A, H a = none := fun a m => by
      cases z : H a with
      | none => rfl
      | some u => have := (r2.dom a m).2; rw [s1 a u z] at this; cases this
    exact k v F0 H' A As (.fresh (s1.trans s2) nA nd fun i a m => (R.dom m).1) (R.grow (s1.trans s2)) (r2.thaw (R.fz.trans s1) ho)
  · cases q
end Dl
namespace Dl
open PySem PySem.Spec PyProof.Rows L2
section
variable {K : PySem.W.Frag} {F H : Hp} {σ : L2.St} {δ : DS} {As : Nat → List Addr}
theorem RepO.lst_inv {ds : List D} : ∀ {v : V} {d : D} {A : List Addr}, RepO K F H v d A → d = .lst ds → ∃ a vs A0, v = .ref a ∧ A = a :: A0 ∧ H a = some (.lst vs) ∧ F a = none ∧ RepOs K F H vs ds A0
  | _, _, _, .imm i _, e => by subst e; rw [Dl.imm] at i; cases i
  | _, _, _, .shr _, e => nomatch e
  | _, _, _, .tup _ _, e => nomatch e
  | _, _, _, .lst h n r, e => by cases e; exact ⟨_, _, _, rfl, rfl, h, n, r⟩
theorem RepA.lst {i : Nat} {ds : List D} (R : RepA K F H σ δ As) (h : δ[i]? = some (some (.lst ds))) : ∃ a vs A0, σ[i]? = some (some (.ref a)) ∧ As i = a :: A0 ∧ H a = some (.lst vs) ∧ F a = none ∧ RepOs K F H vs ds A0 := by
  obtain ⟨v, h1, h2⟩ := R.val i _ h
  obtain ⟨a, vs, A0, rfl, e, h3, h4, h5⟩ := h2.lst_inv rfl
  exact ⟨a, vs, A0, h1, e, h3, h4, h5⟩
theorem same_upd {a : Addr} {o : HO} (s : Same F H) (n : F a = none) : Same F (upd H a o) := fun b u e => by
  have : b ≠ a := fun z => by rw [z, n] at e; cases e
  rw [upd_ne this]; exact s b u e
theorem RepA.wr {i : Nat} {a : Addr} {vs vs' : List V} {ds ds' : List D} {A0 A' : List Addr} (R : RepA K F H σ δ As) (h : δ[i]? = some (some (.lst ds))) (hσ : σ[i]? = some (some (.ref a))) (hA : As i = a :: A0) (ha : H a = some (.lst vs)) (hF : F a = none)
    (r : RepOs K F H vs' ds' A') (na : a ∉ A') (nd : A'.Nodup) (dj : ∀ j x, j ≠ i → x ∈ As j → x ∉ A') : RepM K F (upd H a (.lst vs')) σ (δ.set i (some (.lst ds'))) := by
  have hi : i < δ.length := (List.getElem?_eq_some_iff.mp h).1
  have nj : ∀ j x, j ≠ i → x ∈ As j → x ≠ a := fun j x hj m z => R.dj j i x hj m (by rw [hA, z]; exact List.mem_cons_self)
  refine ⟨_, R.write hi hσ (keep_upd ha) (same_upd R.fz hF) (fun j x hj m => upd_ne (nj j x hj m)) (.lst upd_same hF (r.frame (keep_upd ha) fun x m => upd_ne fun z => na (z ▸ m))) (List.nodup_cons.mpr ⟨na, nd⟩) fun j x hj m z => ?_⟩
  rcases List.mem_cons.mp z with z | z
  · exact nj j x hj m z
  · exact dj j x hj m z
theorem RepA.row {i j : Nat} {ds row : List D} (R : RepA K F H σ δ As) (h : δ[i]? = some (some (.lst ds))) (hj : ds[j]? = some (.lst row)) : ∃ (a : Addr) (vs : List V) (b : Addr) (ws : List V) (B0 O : List Addr), σ[i]? = some (some (.ref a)) ∧ H a = some (.lst vs) ∧ vs[j]? = some (.ref b) ∧ H b = some (.lst ws) ∧ RepOs K F H ws row B0 ∧ (b :: B0).Nodup ∧ (∀ x, x ∈ b :: B0 → x ∈ As i) ∧
    (∀ x, x ∈ O → x ∈ As i) ∧ a ∈ O ∧ (∀ x, x ∈ b :: B0 → x ∉ O) ∧
    ∀ {ws' : List V} {row' : List D} {B' : List Addr}, RepOs K F H ws' row' B' → b ∉ B' → B'.Nodup → (∀ x, x ∈ B' → x ∉ O) → (∀ k x, k ≠ i → x ∈ As k → x ∉ B') → RepM K F (upd H b (.lst ws')) σ (δ.set i (some (.lst (ds.set j (.lst row'))))) := by
  obtain ⟨a, vs, A0, s1, eA, g1, n1, ro⟩ := R.lst h
  obtain ⟨v0, A1, B, A3, hv, rB, e0, pk⟩ := ro.pick hj
  obtain ⟨b, ws, B0, rfl, eB, g2, n2, rr⟩ := rB.lst_inv rfl
  subst eB
  have nd0 := R.nd i
  rw [eA, e0] at nd0
  have nd1 := List.nodup_cons.mp nd0
  have nd2 := List.nodup_append.mp nd1.2
  have nd3 := List.nodup_append.mp nd2.2.1
  have inB : ∀ x, x ∈ b :: B0 → x ∈ As i := fun x m => by rw [eA, e0]; exact List.mem_cons_of_mem _ (List.mem_append_right _ (List.mem_append_left _ m))
  have inO : ∀ x, x ∈ a :: (A1 ++ A3) → x ∈ As i := fun x m => by
    rw [eA, e0]
    rcases List.mem_cons.mp m with z | z
    · rw [z]; exact List.mem_cons_self
    · refine List.mem_cons_of_mem _ ?_
      rcases List.mem_append.mp z with z | z
      · exact List.mem_append_left _ z
      · exact List.mem_append_right _ (List.mem_append_right _ z)
  have sep : ∀ x, x ∈ b :: B0 → x ∉ a :: (A1 ++ A3) := fun x m z => by
    rcases List.mem_cons.mp z with z | z
    · rw [z] at m; exact nd1.1 (List.mem_append_right _ (List.mem_append_left _ m))
    · rcases List.mem_append.mp z with z | z
      · exact nd2.2.2 x z x (List.mem_append_left _ m) rfl
      · exact nd3.2.2 x m x z rfl
  refine ⟨a, vs, b, ws, B0, a :: (A1 ++ A3), s1, g1, hv, g2, rr, nd3.1, inB, inO, List.mem_cons_self, sep, fun {ws' row' B'} r' nb nd' sO sK => ?_⟩
  have hi : i < δ.length := (List.getElem?_eq_some_iff.mp h).1
  have hab : a ≠ b := fun z => sep b List.mem_cons_self (by rw [z]; exact List.mem_cons_self)
  have nO : ∀ x, x ∈ a :: (A1 ++ A3) → x ≠ b := fun x m z => sep b List.mem_cons_self (z ▸ m)
  have rowN : RepO K F (upd H b (.lst ws')) (.ref b) (.lst row') (b :: B') := .lst upd_same n2 (r'.frame (keep_upd g2) fun x m => upd_ne fun z => nb (z ▸ m))
  have tree := pk (keep_upd (o := .lst ws') g2) (fun x m => upd_ne (nO x (List.mem_cons_of_mem _ (by
    rcases m with m | m
    · exact List.mem_append_left _ m
    · exact List.mem_append_right _ m)))) rowN
  have hset : vs.set j (.ref b) = vs := by
    refine List.ext_getElem? fun k => ?_
    rw [List.getElem?_set]
    split
    · rename_i hk; subst hk
      rw [hv, if_pos (List.getElem?_eq_some_iff.mp hv).1]
    · rfl
  rw [hset] at tree
  have nj : ∀ k x, k ≠ i → x ∈ As k → x ≠ b := fun k x hk m z => R.dj k i x hk m (z ▸ inB b List.mem_cons_self)
  refine ⟨_, R.write hi s1 (keep_upd g2) (same_upd R.fz n2) (fun k x hk m => upd_ne (nj k x hk m)) (.lst (by rw [upd_ne hab]; exact g1) n1 tree) ?_ fun k x hk m z => ?_⟩
  · refine List.nodup_cons.mpr ⟨fun z => ?_, List.nodup_append.mpr ⟨nd2.1, List.nodup_append.mpr ⟨List.nodup_cons.mpr ⟨nb, nd'⟩, nd3.2.1, fun x hx y hy e => ?_⟩, fun x hx y hy e => ?_⟩⟩
    · rcases List.mem_append.mp z with z | z
      · exact nd1.1 (List.mem_append_left _ z)
      · rcases List.mem_append.mp z with z | z
        · rcases List.mem_cons.mp z with z | z
          · exact hab z
          · exact sO a z List.mem_cons_self
        · exact nd1.1 (List.mem_append_right _ (List.mem_append_right _ z))
    · subst e
      rcases List.mem_cons.mp hx with z | z
      · exact nO x (List.mem_cons_of_mem _ (List.mem_append_right _ hy)) z
      · exact sO x z (List.mem_cons_of_mem _ (List.mem_append_right _ hy))
    · subst e
      rcases List.mem_append.mp hy with z | z
      · rcases List.mem_cons.mp z with z | z
        · exact nO x (List.mem_cons_of_mem _ (List.mem_append_left _ hx)) z
        · exact sO x z (List.mem_cons_of_mem _ (List.mem_append_left _ hx))
      · exact nd2.2.2 x hx x (List.mem_append_right _ z) rfl
  · rcases List.mem_cons.mp z with z | z
    · exact R.dj k i x hk m (inO x (by rw [z]; exact List.mem_cons_self))
    · rcases List.mem_append.mp z with z | z
      · exact R.dj k i x hk m (inO x (List.mem_cons_of_mem _ (List.mem_append_left _ z)))
      · rcases List.mem_append.mp z with z | z
        · rcases List.mem_cons.mp z with z | z
          · exact nj k x hk m z
          · exact sK k x hk m z
        · exact R.dj k i x hk m (inO x (List.mem_cons_of_mem _ (List.mem_append_right _ z)))
end
def sApp (i : Nat) (fm : FM) : SD := fun δ => match δ[i]? with
  | some (some (.lst _)) => (fm δ).bind fun p => match p.2[i]? with
    | some (some (.lst ds)) => if ds.length ≤ 999 then some (.nx (p.2.set i (some (.lst (ds ++ [p.1]))))) else none
    | _ => none
  | _ => none
section
variable {X : Cx} {e ei : Expr} {fk : FD} {fm : FM} {pos p1 p2 p3 p4 : Pos}
theorem pm_app (i : Nat) {c : Expr} (hc : PE X c (tBM X.K "list" rAppend (tVar i) (tCons (upV X.K fm) tNil))) (hs : swapsWith c none pos.line X.env = pure false := by rfl) : PMD X (.Expr c pos) (sApp i fm) := impS (ps_expr hc hs) fun E σ H ⟨F, δ, r, ⟨As, R⟩, q, k⟩ => by
  unfold sApp at q
  split at q
  · rename_i ds0 h0
    obtain ⟨⟨d, δ'⟩, ed, q⟩ := Option.bind_eq_some_iff.mp q
    dsimp only at q
    split at q
    · rename_i ds h1
      split at q
      · rename_i hz
        cases q
        obtain ⟨a, vs0, A00, s0, _, g0, _, _⟩ := R.lst h0
        refine ⟨.ref a, s0, .inl ⟨rfl, _, SqL.of g0⟩, F, δ, As, d, δ', R, ed, fun v F' H' A As' ev R' r' => ?_⟩
        obtain ⟨a1, vs, A0, s1, eA, g1, n1, ro⟩ := R'.lst h1
        have ea : a1 = a := by rw [s0] at s1; cases s1; rfl
        subst ea
        refine ⟨a1, vs, v, rfl, rfl, g1, Nat.lt_of_le_of_lt (by rw [ro.length]; exact hz) (small1000 (show 999 ≤ 1000 by decide)), ?_⟩
        have nd0 := R'.nd i
        rw [eA] at nd0
        have nd1 := List.nodup_cons.mp nd0
        have ai : a1 ∈ As' i := by rw [eA]; exact List.mem_cons_self
        refine k σ F' _ ev.fs (R'.wr h1 s1 eA g1 n1 (ro.snoc r') (fun z => ?_) (List.nodup_append.mpr ⟨nd1.2, ev.nd, fun x hx y hy e => ?_⟩) fun j x hj m z => ?_)
        · rcases List.mem_append.mp z with z | z
          · exact nd1.1 z
          · exact ev.dj i a1 ai z
        · subst e
          exact ev.dj i x (by rw [eA]; exact List.mem_cons_of_mem _ hx) hy
        · rcases List.mem_append.mp z with z | z
          · exact R'.dj j i x hj m (by rw [eA]; exact List.mem_cons_of_mem _ z)
          · exact ev.dj j x m z
      · cases q
    · cases q
  · cases q
def sApp2 (i : Nat) (fk : FD) (fm : FM) : SD := fun δ => match δ[i]? with
  | some (some (.lst ds)) => (fk δ).bind fun kd => match kd with
    | .int k => (ixN ds.length k).bind fun j => match ds[j]? with
      | some (.lst _) => (fm δ).bind fun p => match p.2[i]? with
        | some (some (.lst es)) => match es[j]? with
          | some (.lst row) => if row.length ≤ 999 ∧ es.length = ds.length then some (.nx (p.2.set i (some (.lst (es.set j (.lst (row ++ [p.1]))))))) else none
          | _ => none
        | _ => none
      | _ => none
    | _ => none
  | _ => none
theorem pm_app2 (i : Nat) {c : Expr} (hc : PE X c (tBM X.K "list" rAppend (tOp (rIxL X.K) (tVar i) (up X.K fk)) (tCons (upV X.K fm) tNil))) (hs : swapsWith c none pos.line X.env = pure false := by rfl) : PMD X (.Expr c pos) (sApp2 i fk fm) := impS (ps_expr hc hs) fun E σ H ⟨F, δ, r, ⟨As, R⟩, q, k⟩ => by
  unfold sApp2 at q
  split at q
  · rename_i ds h0
    obtain ⟨kd, ek, q⟩ := Option.bind_eq_some_iff.mp q
    split at q
    · rename_i kk
      obtain ⟨j, hj, q⟩ := Option.bind_eq_some_iff.mp q
      split at q
      · rename_i row0 hrow0
        obtain ⟨⟨d, δ'⟩, ed, q⟩ := Option.bind_eq_some_iff.mp q
        dsimp only at q
        split at q
        · rename_i es h1
          split at q
          · rename_i row hrow
            split at q
            · rename_i hz
              cases q
              obtain ⟨a, vs, b, ws, B0, O, s0, g0, hv0, gb, rr0, _, _, _, _, _⟩ := R.row h0 hrow0
              have ro0 := (R.lst h0)
              obtain ⟨a', vs', A0', s0', _, g0', _, rl⟩ := ro0
              have ea : a' = a := by rw [s0] at s0'; cases s0'; rfl
              subst ea
              have ev' : vs' = vs := by rw [g0] at g0'; cases g0'; rfl
              subst ev'
              refine ⟨.ref a', s0, δ, .int kk, R.toS, ek, fun iv H1 s1 ri => ?_⟩
              cases ri
              refine ⟨a', vs', kk, .ref b, rfl, rfl, SqL.of (s1 _ _ g0), ?_, .inl ⟨rfl, ws, SqL.of (s1 _ _ gb)⟩, ?_⟩
              · unfold L2.atI; rw [rl.length, hj]; exact hv0
              refine ⟨F, δ, As, d, δ', R.grow s1, ed, fun v F' H' A As' ev R' r' => ?_⟩
              obtain ⟨a1, vs1, b1, ws1, B1, O1, t0, u0, hv1, ub, rr1, ndB, inB, inO, aO, sep, fin⟩ := R'.row h1 hrow
              have ea : a1 = a' := by rw [s0] at t0; cases t0; rfl
              subst ea
              have es1 : vs1 = vs' := by
                have := (ev.hs _ _ (s1 _ _ g0))
                rw [u0] at this; cases this; rfl
              subst es1
              have eb : b1 = b := by rw [hv0] at hv1; cases hv1; rfl
              subst eb
              have nB := List.nodup_cons.mp ndB
              refine ⟨b1, ws1, v, rfl, rfl, ub, Nat.lt_of_le_of_lt (by rw [rr1.length]; exact hz.1) (small1000 (show 999 ≤ 1000 by decide)), ?_⟩
              refine k σ F' _ ev.fs (fin (rr1.snoc r') (fun z => ?_) (List.nodup_append.mpr ⟨nB.2, ev.nd, fun x hx y hy e => ?_⟩) (fun x m z => ?_) fun kx x hk m z => ?_)
              · rcases List.mem_append.mp z with z | z
                · exact nB.1 z
                · exact ev.dj i b1 (inB b1 List.mem_cons_self) z
              · subst e; exact ev.dj i x (inB x (List.mem_cons_of_mem _ hx)) hy
              · rcases List.mem_append.mp m with m | m
                · exact sep x (List.mem_cons_of_mem _ m) z
                · exact ev.dj i x (inO x z) m
              · rcases List.mem_append.mp z with z | z
                · exact R'.dj kx i x hk m (inB x (List.mem_cons_of_mem _ z))
                · exact ev.dj kx x m z
            · cases q
          · cases q
        · cases q
      · cases q
    · cases q
  · cases q
def sPut2 (i : Nat) (fk fl : FD) (fm : FM) : SD := fun δ => (fm δ).bind fun p => if imm p.1 then match p.2[i]? with
  | some (some (.lst ds)) => (fk p.2).bind fun kd => match kd with
    | .int k => (ixN ds.length k).bind fun j => match ds[j]? with
      | some (.lst row) => (fl p.2).bind fun ld => match ld with
        | .int l => (ixN row.length l).bind fun m => some (.nx (p.2.set i (some (.lst (ds.set j (.lst (row.set m p.1)))))))
        | _ => none
      | _ => none
    | _ => none
  | _ => none else none
theorem pm_put2 (i : Nat) {tg : Expr} {fl : FD} (he : PV X e fm) (hg : PG X tg (gSub (tOp (rIxL X.K) (tVar i) (up X.K fk)) (up X.K fl) rSetL)) (hs : swapsWithSole [tg] e pos.line X.env = pure false := by rfl) (hw : swappedStores [tg] e X.env = pure none := by rfl)
    (h1 : (assignEach [tg] X.env).map (·.2) = [assign tg X.env] := by rfl) : PMD X (.Assign [tg] e pos) (sPut2 i fk fl fm) := impS (ps_asg he hg hs hw h1) fun E σ H ⟨F, δ, r, ⟨As, R⟩, q, k⟩ => by
  unfold sPut2 at q
  obtain ⟨⟨d, δ'⟩, ed, q⟩ := Option.bind_eq_some_iff.mp q
  dsimp only at q
  split at q
  · rename_i hi
    split at q
    · rename_i ds h1
      obtain ⟨kd, ek, q⟩ := Option.bind_eq_some_iff.mp q
      split at q
      · rename_i kk
        obtain ⟨j, hj, q⟩ := Option.bind_eq_some_iff.mp q
        split at q
        · rename_i row hrow
          obtain ⟨ld, el, q⟩ := Option.bind_eq_some_iff.mp q
          split at q
          · rename_i ll
            obtain ⟨m, hm, q⟩ := Option.bind_eq_some_iff.mp q
            cases q
            refine ⟨F, δ, As, d, δ', R, ed, fun v F' H' A As' ev R' r' => ?_⟩
            have eA : A = [] := r'.none_of hi
            subst eA
            obtain ⟨a, vs, A0, s0, _, g0, _, rl⟩ := R'.lst h1
            refine ⟨.ref a, s0, δ', .int kk, R'.toS, ek, fun iv H1 s1 ri => ?_⟩
            cases ri
            have R1 := R'.grow s1
            obtain ⟨a1, vs1, b, ws, B0, O, t0, u0, hv1, ub, rr1, ndB, inB, inO, aO, sep, _⟩ := R1.row h1 hrow
            have ea : a1 = a := by rw [s0] at t0; cases t0; rfl
            subst ea
            have es1 : vs1 = vs := by
              have := s1 _ _ g0
              rw [u0] at this; cases this; rfl
            subst es1
            refine ⟨a1, vs1, kk, .ref b, rfl, rfl, SqL.of u0, by unfold L2.atI; rw [rl.length, hj]; exact hv1, ?_⟩
            refine ⟨δ', .int ll, R1.toS, el, fun iv2 H2 s2 ri2 => ?_⟩
            cases ri2
            have R2 := R1.grow s2
            obtain ⟨a2, vs2, b2, ws2, B2, O2, t2, u2, hv2, ub2, rr2, ndB2, inB2, inO2, aO2, sep2, fin⟩ := R2.row h1 hrow
            have ea : a2 = a1 := by rw [s0] at t2; cases t2; rfl
            subst ea
            have es2 : vs2 = vs1 := by
              have := s2 _ _ u0
              rw [u2] at this; cases this; rfl
            subst es2
            have eb : b2 = b := by rw [hv1] at hv2; cases hv2; rfl
            subst eb
            refine ⟨b2, ws2, ll, m, rfl, rfl, ub2, by rw [rr2.length]; exact hm, ?_⟩
            have ml : m < row.length := (ixN_seq hm).2.1
            obtain ⟨v0, C1, C, C3, _, _, eC, pk⟩ := rr2.pick (i := m) (d := row[m]) (List.getElem?_eq_getElem ml)
            have rv : RepO X.K F' H2 v d [] := r'.frame (same_keepI (s1.trans s2)) fun x mm => nomatch mm
            have rn := pk (H' := H2) (fun _ _ e _ => e) (fun _ _ => rfl) rv
            have nB := List.nodup_cons.mp ndB2
            have nB2 := nB.2
            rw [eC] at nB2
            have n1 := List.nodup_append.mp nB2
            have n2 := List.nodup_append.mp n1.2.1
            have inC : ∀ x, x ∈ C1 ++ ([] ++ C3) → x ∈ B2 := fun x mm => by
              rw [eC]
              rcases List.mem_append.mp mm with z | z
              · exact List.mem_append_left _ z
              · exact List.mem_append_right _ (List.mem_append_right _ (by simpa using z))
            refine k σ F' _ ev.fs (fin rn (fun z => nB.1 (inC _ z)) (List.nodup_append.mpr ⟨n1.1, by simpa using n2.2.1, fun x hx y hy e => ?_⟩) (fun x mm => sep2 x (List.mem_cons_of_mem _ (inC x mm))) fun kx x hk mm z => R2.dj kx i x hk mm (inB2 x (List.mem_cons_of_mem _ (inC x z))))
            subst e
            exact n1.2.2 x hx x (List.mem_append_right _ (by simpa using hy)) rfl
          · cases q
        · cases q
      · cases q
    · cases q
  · cases q
end
end Dl
namespace Dl
open PySem PySem.Spec PyProof.Rows L2
def shO (δ : DS) : DS := δ.map (Option.map sh)
def ownOf (f : FM) (δ : DS) : Option D := (f δ).bind fun p => if own p.1 then some p.1 else none
theorem RepS.toA {K : PySem.W.Frag} {H : Hp} {σ : L2.St} {δ : DS} (R : RepS K H σ δ) : RepA K H H σ (shO δ) (fun _ => []) := by
  refine ⟨Same.refl H, by unfold shO; rw [List.length_map]; exact R.len, fun i d q => ?_, fun _ _ => rfl, fun _ => List.nodup_nil, fun _ _ _ _ m => nomatch m⟩
  unfold shO at q
  rw [List.getElem?_map] at q
  obtain ⟨o, h1, h2⟩ := Option.map_eq_some_iff.mp q
  cases o with
  | none => cases h2
  | some d0 =>
    cases h2
    obtain ⟨v, h3, h4⟩ := R.val i d0 h1
    exact ⟨v, h3, RepO.of_sh (Same.refl H) h4⟩
theorem ownUp {K : PySem.W.Frag} {H₂ H4 : Hp} {σ : L2.St} {δ : DS} {f : FM} {e : D} (h : ownOf f (shO δ) = some e) (R : RepS K H4 σ δ) (s : Same H₂ H4) : upV K f σ H4 fun v H5 => Same H4 H5 ∧ ∃ A, RepO K H₂ H5 v e A ∧ A.Nodup ∧ ∀ a ∈ A, H4 a = none := by
  unfold ownOf at h
  obtain ⟨⟨d, δ'⟩, e1, h⟩ := Option.bind_eq_some_iff.mp h
  split at h
  · rename_i ho
    cases h
    refine ⟨H4, shO δ, fun _ => [], d, δ', R.toA, e1, fun v F' H' A As' ev R' r' => ⟨ev.hs, A, (r'.thaw ev.fs ho).thaw s ho, ev.nd, fun a m => ?_⟩⟩
    rcases ev.fA a m with ⟨j, z⟩ | z
    · cases z
    · exact z
  · cases h
theorem none_before {H H' : Hp} {a : Addr} (s : Same H H') (h : H' a = none) : H a = none := by
  cases q : H a with
  | none => rfl
  | some u => rw [s a u q] at h; cases h
theorem accStep {K : PySem.W.Frag} {F H H' : Hp} {vs : List V} {ds : List D} {Acc A : List Addr} {v : V} {e : D} (r : RepOs K F H vs ds Acc) (nd : Acc.Nodup) (s : Same H H') (r' : RepO K F H' v e A) (nd' : A.Nodup) (fr : ∀ a ∈ A, H a = none) : ∃ Acc', RepOs K F H' (vs ++ [v]) (ds ++ [e]) Acc' ∧ Acc'.Nodup := by
  refine ⟨Acc ++ A, (r.frame (same_keepI s) fun a m => ?_).snoc r', List.nodup_append.mpr ⟨nd, nd', fun x hx y hy q => ?_⟩⟩
  · obtain ⟨⟨ws, e⟩, _⟩ := r.dom a m
    rw [e]; exact s a _ e
  · subst q
    obtain ⟨⟨ws, e⟩, _⟩ := r.dom x hx
    rw [fr x hy] at e; cases e
section
variable {X : Cx} {pins : List (Addr × Obj)} {σ : L2.St} {H₂ : Hp} {s₂ : Shared} {scope : Scope} {cl : List (Str × Addr)} {x : Str} {N : List Str} {js : List Nat} {C : Addr} {fp : List Addr}
theorem comp_blockF {elt iter : Expr} {px pos : Pos} {it : Addr} {tn : Nat → Heap → Prop} {J : It} {ds xs : List D} {δ : DS} {felt : FM} {RR : Value → Addr → Result → Shared → Prop} {E : Value → Shared → Prop} (I : L2.Inv X pins σ H₂ s₂) (hcm : X.calm = true) (O : CompOk X scope cl x N js)
    (T : Turn X.prog X.w X.K (.Name x px) J fp it tn) (st : tn 0 s₂.heap) (hf : ∀ b ∈ fp, FpOk X pins H₂ b) (itd : ItD X.K J H₂ ds) (R : RepS X.K H₂ σ δ) (he : ∀ C s₂ H₂ fp pn, PV (cxComp X scope cl x N C s₂ H₂ fp pn) elt felt)
    (hm : mapO (fun d => ownOf felt (shO (some d :: slotsOf js δ))) ds = some xs) (hz : xs.length ≤ 1000)
    (hRR : ∀ (D C : Addr) (s' : Shared) (Hend : Hp) (vs : List V), s₂.heap.objs.size ≤ C → L2.Inv X pins σ Hend s' → Same H₂ Hend → Hend D = some (.lst vs) → (∃ Acc, RepOs X.K H₂ Hend vs xs Acc ∧ Acc.Nodup ∧ D ∉ Acc ∧ H₂ D = none) → (∃ m, s'.heap.Ns C m) → Hend C = none → RR (.ref D) C (.ok .next) s') :
    wpAny (model X.prog X.w) X.A (newList []) (fun acc s₃ => wpAny (model X.prog X.w) X.A (newFunctionEnv scope X.env.globals cl [] X.env.qual none .none (some X.env)) (fun cenv s₄ =>
      codeAny (model X.prog X.w) X.A (.compStart (.ListComp elt [⟨.Name x px, iter, [], 0⟩] scope pos) 0 (.ref it) acc { cenv with scope := relabel scope X.env }) (RR acc cenv.locals) s₄) E s₃) E s₂ := by
  obtain ⟨ml, mg'⟩ := mapO_get hm
  have objs := T.obj 0 s₂.heap st
  have objs' : ∀ b ∈ fp, ∃ o, s₂.heap.get? b = some o := fun b hb => let ⟨o, h, _⟩ := objs b hb; ⟨o, h⟩
  refine wpAny_newObj_type (wpAny_newFunctionEnv O.nocell (by intro y hy; simp at hy) (fun h₁ hns₁ hsb₁ => ?_) O.kind)
  dsimp only at hns₁ hsb₁ ⊢
  generalize hP : s₂.heap.push { cls := .type "list", dict := none, data := .seq ([] : List Value).toArray } = P2 at hns₁ hsb₁ ⊢
  have hC : P2.objs.size = s₂.heap.objs.size + 1 := by rw [← hP, Heap.size_push]
  generalize hCC : P2.objs.size = C at *
  have hCle : s₂.heap.objs.size ≤ C := by omega
  have hDle : s₂.heap.objs.size ≤ s₂.heap.objs.size := by omega
  have hDC : s₂.heap.objs.size ≠ C := by omega
  have old : ∀ b o, s₂.heap.get? b = some o → h₁.get? b = some o := fun b o e => by
    refine hsb₁.extBut b o (Nat.ne_of_lt (Nat.lt_of_lt_of_le (Heap.lt_size e) hCle)) (Heap.get?_push_of_some _ ?_)
    rw [← hP]
    exact Heap.get?_push_of_some _ e
  have hacc : h₁.get? s₂.heap.objs.size = some { cls := .type "list", data := .seq ([] : List Value).toArray } := by
    refine hsb₁.extBut s₂.heap.objs.size _ hDC (Heap.get?_push_of_some _ ?_)
    rw [← hP]
    exact Heap.get?_push_size _ rfl
  have I0 := fun tk => comp_start (C := C) (tk := tk) I hcm O hCle hf objs' old hns₁ I.len
  have dstk : s₂.heap.objs.size ∉ frs X.stack := notIn_stack I hDle
  have fne : ∀ b ∈ fp, b ≠ s₂.heap.objs.size := fun b hb e => by
    obtain ⟨o, h⟩ := objs' b hb
    exact absurd (Heap.lt_size h) (by rw [e]; exact Nat.lt_irrefl _)
  have cne : ∀ y c, cl.lookup y = some c → c ≠ s₂.heap.objs.size := fun y c e z => by
    obtain ⟨v, o, h1, _⟩ := I.cell y c (O.cls y c e)
    exact absurd (Heap.lt_size h1) (by rw [z]; exact Nat.lt_irrefl _)
  have pne : ∀ p ∈ X.pn ++ pins, p.1 ≠ s₂.heap.objs.size := fun p hp e => by
    exact absurd (Heap.lt_size (I.pin p hp).1) (by rw [e]; exact Nat.lt_irrefl _)
  have stat : ∀ {H' : Hp} {pl : List (Addr × Obj)}, (∀ b ∈ fp, H' b = none) → (∀ p ∈ pl, ∀ b ∈ fp, p.1 ≠ b) → ∀ b ∈ fp, FpOk (cxComp X scope cl x N C s₂ H₂ fp (X.pn ++ pins)) pl H' b := fun {H' pl} hn hpl b hb => by
    obtain ⟨o, h⟩ := objs' b hb
    refine ⟨hn b hb, Nat.ne_of_lt (Nat.lt_of_lt_of_le (Heap.lt_size h) hCle), fun z => ?_, .inl hb, fun y c e => (hf b hb).2.2.2.2.1 y c (O.cls y c e), fun p hp => ?_⟩
    · rcases List.mem_cons.mp (I.stkSub b z) with e | e
      · exact (hf b hb).2.1 e
      · exact (hf b hb).2.2.1 e
    · rcases List.mem_append.mp hp with q | q
      · exact (hf b hb).2.2.2.2.2 p q
      · exact hpl p q b hb
  have loop : ∀ s₃ : Shared, s₃ = { s₂ with heap := h₁, toks := s₂.toks + ([] : List (Str × Value)).length } →
      codeAny (model X.prog X.w) X.A (.compLoop (.ListComp elt [⟨.Name x px, iter, [], 0⟩] scope pos) 0 (.ref it) (.ref s₂.heap.objs.size) (compEnvC scope cl C X.env)) (RR (.ref s₂.heap.objs.size) C) s₃ := by
    rintro s₃ rfl
    refine compLoop_own (fun n s => ∃ (i : Nat) (σ' : L2.St) (H' : Hp) (vs : List V) (o : Option D), n = ds.length - i ∧ i ≤ ds.length ∧ L2.Inv (cxComp X scope cl x N C s₂ H₂ fp (X.pn ++ pins)) [] σ' H' s ∧ Same H₂ H' ∧ RepS X.K H' σ' (o :: slotsOf js δ) ∧ tn i s.heap ∧ (∀ b ∈ fp, H' b = none) ∧
      (∃ (its : List Value) (k : Nat), Vals vs its ∧ s.heap.get? s₂.heap.objs.size = some { cls := .type "list", data := .seq its.toArray k }) ∧ H' s₂.heap.objs.size = none ∧ (∃ Acc, RepOs X.K H₂ H' vs (xs.take i) Acc ∧ Acc.Nodup) ∧ vs.length = i) ?_ ds.length
      ⟨0, _, H₂, [], none, rfl, Nat.zero_le _, I0 _, Same.refl _, slots_rep R js, T.keep 0 _ _ st (fun b hb o e => old b o e), fun b hb => (hf b hb).1, ⟨[], 0, .nil, hacc⟩, I.hok.fresh hDle, ⟨[], .nil, List.nodup_nil⟩, rfl⟩
    rintro n s ⟨i, σ', H', vs, o, rfl, hi, I', sm, R', st', fr', ⟨its, k, rv, hD⟩, fD, ⟨Acc, rr, nda⟩, hl⟩
    by_cases hlt : i < ds.length
    · -- one more
      obtain ⟨go, yl⟩ := (itd i H' sm).1 hlt
      have hd0 : ds[i]? = some ds[i] := by simp [hlt]
      obtain ⟨e, ge, xe⟩ := mg' i _ hd0
      have I1 : L2.Inv (cxComp X scope cl x N C s₂ H₂ fp (X.pn ++ pins)) [(s₂.heap.objs.size, { cls := .type "list", data := .seq its.toArray k })] σ' H' s := I'.pins_of fun p hp => by
        have : p = (s₂.heap.objs.size, { cls := .type "list", data := .seq its.toArray k }) := by simpa using hp
        subst this
        exact ⟨hD, fD, hDC, dstk, fun v z => by cases z⟩
      refine thn (T.item (cxComp X scope cl x N C s₂ H₂ fp (X.pn ++ pins)) rfl rfl rfl rfl i _ s σ' H' (fun _ _ => False) I1 (stat fr' fun p hp b hb => by
        have : p = (s₂.heap.objs.size, { cls := .type "list", data := .seq its.toArray k }) := by simpa using hp
        subst this
        exact (fne b hb).symm) st' go) fun r s1 ⟨u, hr, h4⟩ => ?_
      subst hr
      refine thn h4 fun _ s2 ⟨y, H'', I2, ru, yy, st2, fr2⟩ => ?_
      obtain ⟨s3, d, hd, rd⟩ := yl y H'' yy
      have hd' : d = ds[i] := by rw [hd0] at hd; exact (Option.some.inj hd).symm
      subst hd'
      have I3 := I2.pinned (stat fr2 fun p hp b hb => by
        have : p = (s₂.heap.objs.size, { cls := .type "list", data := .seq its.toArray k }) := by simpa using hp
        subst this
        exact (fne b hb).symm) (T.obj _ _ st2)
      refine thn (pg_name (X := cxComp X scope cl x N C s₂ H₂ fp (X.pn ++ pins)) (i := 0) O.nd O.h0 (.inl (lookup_relabel_local O.hx)) (.inl (by simp)) _ s2 σ' H'' y u (fun σ4 H4 => σ4 = σ'.set 0 (some y) ∧ H4 = H'') I3 ru ⟨rfl, rfl⟩) fun _ s4 ⟨σ4, H4, I4, e1, e2⟩ => ?_
      subst e1 e2
      have R4 : RepS X.K H4 (σ'.set 0 (some y)) (some ds[i] :: slotsOf js δ) := (R'.mono s3).set 0 rd
      refine thn (he C s₂ H₂ fp (X.pn ++ pins) _ s4 (σ'.set 0 (some y)) H4 (fun v H5 => Same H4 H5 ∧ ∃ A, RepO X.K H₂ H5 v e A ∧ A.Nodup ∧ ∀ a ∈ A, H4 a = none) I4 (ownUp ge R4 (sm.trans s3))) fun wv s5 ⟨v, H5, I5, rw5, s45, A5, r5, nd5, fr5⟩ => ?_
      have hD5 : s5.heap.get? s₂.heap.objs.size = some { cls := .type "list", data := .seq its.toArray k } := (I5.pin (s₂.heap.objs.size, { cls := .type "list", data := .seq its.toArray k }) (by simp)).1
      have fD5 : H5 s₂.heap.objs.size = none := (I5.pin (s₂.heap.objs.size, { cls := .type "list", data := .seq its.toArray k }) (by simp)).2.1
      have pf : ∀ b ∈ fp, ∀ ob, s2.heap.get? b = some ob → s5.heap.get? b = some ob ∧ H5 b = none := fun b hb ob hob => by
        have := I5.pin (b, ob) (List.mem_append_right _ (List.mem_append_right _ (mem_pinsAt hb hob)))
        exact ⟨this.1, this.2.1⟩
      have lz : its.length ≤ 1000 := by
        have := rv.length
        omega
      refine call_meets F.slot_list_append ⟨_, hD5, rfl⟩ F.entry_list_append (F.args_list_append_2 _ _) (PySem.list_append s₂.heap.objs.size its.toArray k wv (by rw [List.size_toArray]; exact le_line lz)) ⟨hD5, ?_⟩
      have q := PySem.IsL.update hD5 (fun a => a.push wv)
      have I6 : L2.Inv (cxComp X scope cl x N C s₂ H₂ fp (X.pn ++ pins)) [] (σ'.set 0 (some y)) H5 { s5 with heap := s5.heap.update s₂.heap.objs.size (Obj.mapSeq fun a => a.push wv), toks := s5.toks } :=
        (I5.pins_of (pins' := []) fun p hp => by simp at hp).turned (it := s₂.heap.objs.size) (t' := s5.toks) (fun b ob hb hu => (Heap.get?_update_other s5.heap _ (Ne.symm hb)).trans hu) fD5 hDC (.inr hDle) cne (fun p hp => by
          rcases List.mem_append.mp hp with z | z
          · exact pne p z
          · simp at z)
      refine ⟨ds.length - (i + 1), by omega, i + 1, σ'.set 0 (some y), H5, vs ++ [v], some ds[i], rfl, hlt, I6, (sm.trans s3).trans s45, R4.mono s45, ?_, ?_, ?_, fD5, ?_, by simp [hl]⟩
      · refine T.keep _ _ _ st2 fun b hb ob hob => ?_
        exact (Heap.get?_update_other s5.heap _ (Ne.symm (fne b hb))).trans (pf b hb ob hob).1
      · intro b hb
        obtain ⟨ob, hob, _⟩ := T.obj _ _ st2 b hb
        exact (pf b hb ob hob).2
      · have hf7 : its.toArray.push wv = (its ++ [wv]).toArray := by simp
        rw [hf7] at q
        exact ⟨its ++ [wv], _, rv.append (.cons rw5 .nil), q⟩
      · have e8 : xs.take (i + 1) = xs.take i ++ [e] := by
          rw [List.take_add_one, xe]; rfl
        rw [e8]
        exact accStep rr nda (s3.trans s45) r5 nd5 fun a m => (none_before s3 (fr5 a m))
    · -- the end
      have hie : i = ds.length := by omega
      refine thn (T.done (cxComp X scope cl x N C s₂ H₂ fp (X.pn ++ pins)) rfl rfl rfl rfl i [(s₂.heap.objs.size, { cls := .type "list", data := .seq its.toArray k })] s σ' H' (fun _ _ => False) (I'.pins_of fun p hp => by
        have : p = (s₂.heap.objs.size, { cls := .type "list", data := .seq its.toArray k }) := by simpa using hp
        subst this
        exact ⟨hD, fD, hDC, dstk, fun v z => by cases z⟩) (stat fr' fun p hp b hb => by
        have : p = (s₂.heap.objs.size, { cls := .type "list", data := .seq its.toArray k }) := by simpa using hp
        subst this
        exact (fne b hb).symm) st' ((itd i H' sm).2 (by omega))) fun r s1 ⟨hr, I8⟩ => ?_
      subst hr
      have hD8 : s1.heap.get? s₂.heap.objs.size = some { cls := .type "list", data := .seq its.toArray k } := (I8.pin (s₂.heap.objs.size, { cls := .type "list", data := .seq its.toArray k }) (by simp)).1
      have hxs : xs.take i = xs := List.take_of_length_le (by omega)
      rw [hxs] at rr
      have sn := same_new fD (.lst vs)
      have dn : ∀ b, ∀ u, H' b = some u → b ≠ s₂.heap.objs.size := fun b u z => ne_of_none z fD
      have un : Un (frs X.stack) fp H₂ (upd H' s₂.heap.objs.size (.lst vs)) s₂.heap s1.heap := by
        have b0 := I8.base
        refine ⟨fun b ob e n1 n2 n3 => b0.keep b ob e n1 n2 n3, fun b ob e n1 n2 n3 => b0.slot b ob e n1 n2 n3, fun b ob e n1 n3 => ?_, fun b ob e n3 => b0.there b ob e n3, fun b zs e => ?_, fun b ob u e => ?_, fun b ps e => ?_⟩
        · rw [upd_ne (Nat.ne_of_lt (Heap.lt_size e))]
          exact b0.free b ob e n1 n3
        · have z := b0.tups b zs e
          rw [upd_ne (dn _ _ z)]
          exact z
        · have z := b0.frzs b ob u e
          rw [upd_ne (dn _ _ z)]
          exact z
        · obtain ⟨more, z⟩ := b0.tbls b ps e
          exact ⟨more, by rw [upd_ne (dn _ _ z)]; exact z⟩
      have hok : HOk X.prog X.w (upd H' s₂.heap.objs.size (.lst vs)) s1.heap := fun b u z => by
        by_cases hb : b = s₂.heap.objs.size
        · rw [hb] at z ⊢
          rw [upd_same] at z
          cases z
          exact ⟨le_line (by omega), its, k, rv, hD8⟩
        · rw [upd_ne hb] at z
          exact (I8.hok b u z).stay (fun _ _ _ q => q) (fun c q => by rw [upd_ne (dn _ _ q)]; exact q) fun c ys q => by rw [upd_ne (dn _ _ q)]; exact q
      have IX : L2.Inv X pins σ (upd H' s₂.heap.objs.size (.lst vs)) s1 := I.call' I8.os un hok I8.bare fun b hb => ⟨(hf b hb).2.2.2.1, (hf b hb).2.1, (hf b hb).2.2.2.2.1, (hf b hb).2.2.2.2.2⟩
      obtain ⟨m8, hn8, _⟩ := I8.loc
      refine hRR s₂.heap.objs.size C s1 _ vs hCle IX (sm.trans sn) upd_same ⟨Acc, rr.frame (same_keepI sn) (fun a m => by
        obtain ⟨⟨ws, e⟩, _⟩ := rr.dom a m
        rw [e]; exact sn a _ e), nda, fun m => (by
        obtain ⟨⟨ws, e⟩, _⟩ := rr.dom _ m
        rw [fD] at e; cases e), I.hok.fresh hDle⟩ ⟨m8, hn8⟩ ?_
      rw [upd_ne (Ne.symm hDC)]
      exact I8.free
  exact codeAny_compStart_list (loop _ rfl) (T.self X.A 0 _ _ _ (T.keep 0 _ _ st (fun b hb o e => old b o e)) (loop _ rfl))
def vComp (src : FA) (js : List Nat) (felt : FM) : FM := fun δ => (src δ).bind fun ds => (mapO (fun d => ownOf felt (shO (some d :: slotsOf js δ))) ds).bind fun xs => if xs.length ≤ 1000 then some (.lst xs, δ) else none
theorem mapO_owns {f : FM} {g : D → DS} : ∀ {ds xs : List D}, mapO (fun d => ownOf f (g d)) ds = some xs → owns xs = true
  | [], xs, h => by cases h; rfl
  | d :: ds, xs, h => by
    obtain ⟨x, ex, h⟩ := Option.bind_eq_some_iff.mp (show ((ownOf f (g d)).bind _) = some xs from h)
    obtain ⟨ys, ey, h⟩ := Option.bind_eq_some_iff.mp h
    cases h
    rw [owns, mapO_owns ey, Bool.and_true]
    unfold ownOf at ex
    obtain ⟨p, _, ex⟩ := Option.bind_eq_some_iff.mp ex
    split at ex
    · rename_i ho; cases ex; exact ho
    · cases ex
theorem compRep {K : PySem.W.Frag} {F H H1 Hend : Hp} {σ : L2.St} {δ : DS} {As : Nat → List Addr} {xs : List D} {vs : List V} {D : Addr} (RA : RepA K F H σ δ As) (ho : owns xs = true) (s : Same H Hend) (s1 : Same H H1) (hD : Hend D = some (.lst vs)) (h : ∃ Acc, RepOs K H1 Hend vs xs Acc ∧ Acc.Nodup ∧ D ∉ Acc ∧ H1 D = none) :
    ∃ A, Ev F H As F Hend As A ∧ RepA K F Hend σ δ As ∧ RepO K F Hend (.ref D) (.lst xs) A := by
  obtain ⟨Acc, r, nd, nD, hn⟩ := h
  refine ⟨D :: Acc, .fresh s (fun a m => ?_) (List.nodup_cons.mpr ⟨nD, nd⟩) (fun i a m => (RA.dom m).1), RA.grow s, .lst hD ?_ (r.thaw (RA.fz.trans s1) ho)⟩
  · rcases List.mem_cons.mp m with z | z
    · rw [z]; exact none_before s1 hn
    · exact none_before s1 (r.dom a z).2
  · exact none_before (RA.fz.trans s1) hn
theorem compEnd {K : PySem.W.Frag} {F H H1 Hend : Hp} {σ : L2.St} {δ : DS} {As : Nat → List Addr} {xs : List D} {vs : List V} {D : Addr} {Q : VK} (RA : RepA K F H σ δ As) (k : ∀ v F' H' A As', Ev F H As F' H' As' A → RepA K F' H' σ δ As' → RepO K F' H' v (.lst xs) A → Q v H') (ho : owns xs = true) (s : Same H Hend) (s1 : Same H H1) (hD : Hend D = some (.lst vs)) (h : ∃ Acc, RepOs K H1 Hend vs xs Acc ∧ Acc.Nodup ∧ D ∉ Acc ∧ H1 D = none) : Q (.ref D) Hend := by
  obtain ⟨A, ev, R', r'⟩ := compRep RA ho s s1 hD h
  exact k _ F Hend A As ev R' r'
theorem compEndS {K : PySem.W.Frag} {F H H1 Hend : Hp} {σ : L2.St} {δ : DS} {As : Nat → List Addr} {xs : List D} {vs : List V} {D : Addr} {Q : L2.St → Hp → Prop} (i : Nat) (RA : RepA K F H σ δ As) (k : ∀ σ' F' H', Same F F' → RepM K F' H' σ' (δ.set i (some (.lst xs))) → Q σ' H') (ho : owns xs = true) (s : Same H Hend) (s1 : Same H H1) (hD : Hend D = some (.lst vs)) (h : ∃ Acc, RepOs K H1 Hend vs xs Acc ∧ Acc.Nodup ∧ D ∉ Acc ∧ H1 D = none) : Q (σ.set i (some (.ref D))) Hend := by
  obtain ⟨A, ev, R', r'⟩ := compRep RA ho s s1 hD h
  exact k _ F Hend (Same.refl F) (R'.setM i r' ev.nd ev.dj)
theorem pv_comp {elt iter : Expr} {px pos : Pos} {src : FA} {felt : FM} (hi : PID X (.Name x px) iter src) {N : List Str} {js : List Nat} (he : ∀ C s₂ H₂ fp pn, PV (cxComp X scope cl x N C s₂ H₂ fp pn) elt felt) (O : CompOk X scope cl x N js) (hcm : X.calm = true := by rfl)
    (hs : ∀ v, foldedSetIterable iter X.env v = pure v := by intro _; rfl) : PV X (.ListComp elt [⟨.Name x px, iter, [], 0⟩] scope pos) (vComp src js felt) := by
  intro pins s σ H Q I ⟨F, δ, As, d, δ', RA, q, k⟩
  have R := RA.toS
  unfold vComp at q
  obtain ⟨ds, eds, q⟩ := Option.bind_eq_some_iff.mp q
  obtain ⟨xs, exs, q⟩ := Option.bind_eq_some_iff.mp q
  by_cases hz : xs.length ≤ 1000
  · rw [if_pos hz] at q
    cases q
    rw [eval_ListComp]
    refine wpAny_comprehension_free (use := none) rfl hs O.clos O.kind O.names ?_
    refine wpAny_mono (hi pins s σ H (fun J H1 => Same H H1 ∧ ItD X.K J H1 ds) I ⟨δ, ds, R, eds, fun J H1 s1 itd => ⟨s1, itd⟩⟩) (fun v s1 h1 => wpAny_mono h1 (fun itv s2 h2 => ?_) fun _ _ z => z) fun _ _ z => z
    obtain ⟨it, fp, tn, J, H2, rfl, I2, T, st, hf, s1, itd⟩ := h2
    refine comp_blockF (RR := fun acc C => compPost (model X.prog X.w) X.A X.xe none (EP X pins σ Q) acc C) I2 hcm O T st hf itd (R.mono s1) he exs hz ?_
    intro D C s' Hend vs hC IX sm hD rr ⟨m, hn⟩ fC
    exact ⟨m, hn, fun h' hs' => ⟨.ref D, Hend, inv_letgo IX I2 hC fC hs', rfl, compEnd RA k (mapO_owns exs) (s1.trans sm) s1 hD rr⟩⟩
  · rw [if_neg hz] at q; cases q
theorem pm_comp (i : Nat) {y : Str} {elt iter : Expr} {px py pos spos : Pos} {src : FA} {felt : FM} (hN : X.N.Nodup) (hi : PID X (.Name x px) iter src) {N : List Str} {js : List Nat} (he : ∀ C s₂ H₂ fp pn, PV (cxComp X scope cl x N C s₂ H₂ fp pn) elt felt) (O : CompOk X scope cl x N js)
    (hsw : swapsWith (.ListComp elt [⟨.Name x px, iter, [], 0⟩] scope pos) (some (.Name y py)) spos.line X.env = pure true := by rfl) (hy : X.N[i]? = some y := by rfl) (hl : Loc X.env.scope y := by first | exact Or.inl rfl | exact Or.inr rfl) (hcm : X.calm = true := by rfl)
    (hs : ∀ v, foldedSetIterable iter X.env v = pure v := by intro _; rfl) (hfn : X.fn y = true ∨ X.env.scope.names.lookup y = some .local := by first | exact .inl rfl | exact .inr rfl | assumption) :
    PMD X (.Assign [.Name y py] (.ListComp elt [⟨.Name x px, iter, [], 0⟩] scope pos) spos) (sSetM i (vComp src js felt)) := by
  intro pins s σ H D I ⟨F, δ, r, ⟨As, RA⟩, q, k⟩
  have R := RA.toS
  unfold sSetM at q
  obtain ⟨⟨d, δ'⟩, ed, q⟩ := Option.bind_eq_some_iff.mp q
  cases q
  unfold vComp at ed
  obtain ⟨ds, eds, q⟩ := Option.bind_eq_some_iff.mp ed
  obtain ⟨xs, exs, q⟩ := Option.bind_eq_some_iff.mp q
  by_cases hz : xs.length ≤ 1000
  · rw [if_pos hz] at q
    cases q
    rw [exec_Assign_Name_used _ _ _ _ hsw]
    refine wpAny_bind (wpAny_standAt (wpAny_bind ?_))
    show wpAny _ X.A (do let _ ← comprehension (.ListComp elt [⟨.Name x px, iter, [], 0⟩] scope pos) scope X.env _ (newList []) false (eval iter X.env) (some (assign (.Name y py) X.env))) _ _ s
    refine wpAny_bind (wpAny_mono (wpAny_comprehension_free (use := some (assign (.Name y py) X.env)) (Q := fun _ s' => SP X pins D .next s') rfl hs O.clos O.kind O.names ?_) (fun _ s' hq => wpAny_pure (wpAny_pure hq)) fun _ _ z => z)
    refine wpAny_mono (hi pins s σ H (fun J H1 => Same H H1 ∧ ItD X.K J H1 ds) I ⟨δ, ds, R, eds, fun J H1 s1 itd => ⟨s1, itd⟩⟩) (fun v s1 h1 => wpAny_mono h1 (fun itv s2 h2 => ?_) fun _ _ z => z) fun _ _ z => z
    obtain ⟨it, fp, tn, J, H2, rfl, I2, T, st, hf, s1, itd⟩ := h2
    refine comp_blockF (RR := fun acc C => compPost (model X.prog X.w) X.A X.xe (some (assign (.Name y py) X.env)) (fun _ s' => SP X pins D .next s') acc C) I2 hcm O T st hf itd (R.mono s1) he exs hz ?_
    intro DA C s' Hend vs hC IX sm hD rr ⟨m, hn⟩ fC
    show wpAny _ X.A (assign (.Name y py) X.env (.ref DA)) _ _ s'
    refine wpAny_assign_Name (store_ok2 (v := .ref DA) IX hN hy hl rfl (fun s9 I9 ⟨a, hsb, ha⟩ => ?_) hfn)
    have hCa : C ≠ a := by
      rintro rfl
      rcases ha with z | z
      · exact absurd (Nat.lt_of_lt_of_le I2.lt (by rw [← z]; exact hC)) (Nat.lt_irrefl _)
      · obtain ⟨v, o, h1, _⟩ := I2.cell y _ z
        exact absurd (Nat.lt_of_lt_of_le (Heap.lt_size h1) hC) (Nat.lt_irrefl _)
    refine ⟨m, hn.at' fun o e => (hsb.2 C hCa).trans e, fun h' hs' => ⟨_, Hend, ?_, compEndS i RA k (mapO_owns exs) (s1.trans sm) s1 hD rr⟩⟩
    exact I9.turned (it := C) (t' := s9.toks) (fun b o hb e => (hs'.2 b hb).trans e) fC (Nat.ne_of_gt (Nat.lt_of_lt_of_le I2.lt hC)) (.inr (Nat.le_trans I2.sz hC))
      (fun y c e z => by
        obtain ⟨v, o, h1, _⟩ := I2.cell y c e
        exact absurd (Nat.lt_of_lt_of_le (Heap.lt_size h1) (by rw [z]; exact hC)) (Nat.lt_irrefl _))
      (fun p hp z => absurd (Nat.lt_of_lt_of_le (Heap.lt_size (I2.pin p hp).1) (by rw [z]; exact hC)) (Nat.lt_irrefl _))
  · rw [if_neg hz] at q; cases q
end
end Dl
namespace Dl
open PySem PySem.Spec PyProof.Rows L2
section
variable {K : PySem.W.Frag} {F H : Hp} {σ : L2.St} {δ : DS} {As : Nat → List Addr}
theorem RepOs.of_imm : ∀ {vs : List V} {ds : List D}, Reps K H vs ds → imms ds = true → RepOs K F H vs ds []
  | _, _, .nil, _ => .nil
  | _, _, .cons r t, i => by
    rw [imms, Bool.and_eq_true] at i
    exact .cons (.imm i.1 r) (RepOs.of_imm t i.2) rfl
theorem newImm {H1 : Hp} {vs : List V} {ds : List D} {p : Addr} {Q : VK} (R : RepA K F H σ δ As) (s : Same H H1) (r : Reps K H1 vs ds) (i : imms ds = true) (hp : H1 p = none)
    (k : ∀ v F' H' A As', Ev F H As F' H' As' A → RepA K F' H' σ δ As' → RepO K F' H' v (.lst ds) A → Q v H') : Q (.ref p) (upd H1 p (.lst vs)) := by
  have sn := same_new hp (.lst vs)
  have np := none_before s hp
  refine k _ F _ [p] As (.fresh (s.trans sn) (fun a m => ?_) (List.nodup_cons.mpr ⟨fun z => (nomatch z), List.nodup_nil⟩) (fun i a m => (R.dom m).1)) (R.grow (s.trans sn)) (.lst upd_same (none_before R.fz np) (RepOs.of_imm (r.mono sn) i))
  rw [List.mem_singleton.mp m]
  exact np
end
def lstImm (d : D) (δ : DS) : Option (D × DS) := match d with
  | .lst ds => if imms ds then some (.lst ds, δ) else none
  | _ => none
theorem lstImm_inv {d d' : D} {δ δ' : DS} (h : lstImm d δ = some (d', δ')) : ∃ ds, d = .lst ds ∧ d' = .lst ds ∧ δ' = δ ∧ imms ds = true := by
  unfold lstImm at h
  split at h
  · rename_i ds
    split at h
    · rename_i hi
      cases h
      exact ⟨ds, rfl, rfl, rfl, hi⟩
    · cases h
  · cases h
def gListOf : List D → Option D
  | [.lst ds] => some (.lst ds)
  | [.seq ds] => some (.lst ds)
  | [.tup ds] => some (.lst ds)
  | _ => none
def vListOf (g : FA) : FM := fun δ => (g δ).bind fun ds => (gListOf ds).bind fun d => lstImm d δ
def gRep : D → D → Option D
  | .lst ds, .int k => if ds.length * k.toNat ≤ 1000 ∧ k ≤ 1000 ∧ -1000 ≤ k then some (.lst (List.replicate k.toNat ds).flatten) else none
  | _, _ => none
section
variable {X : Cx} {e a b : Expr} {f fa fb : FD} {lo hi : Option Expr} {fl fh : FO} {g : FA} {pos p2 p : Pos}
theorem pv_listof (hg : Gl X "list") (hm : X.mg "list" = none) (hv : bootBuiltins "list" = some (.type "list")) (ha : PAD X [e] g) (he : starEach [e] X.env = (false, eval e X.env) :: starEach [] X.env := by rfl) (hpl : (backTo pos (starEach [] X.env)).any (·.1) = false := by rfl) :
    PV X (.Call (.Name "list" p) [e] [] pos) (vListOf g) := imp (pe_callTy call_list_of hg hm hv ha (by decide) (by decide) he hpl) fun σ H Q ⟨F, δ, As, d, δ', RA, q, k⟩ => by
  unfold vListOf at q
  obtain ⟨xs, exs, q⟩ := Option.bind_eq_some_iff.mp q
  obtain ⟨d0, e0, q⟩ := Option.bind_eq_some_iff.mp q
  obtain ⟨ds, rfl, rfl, rfl, hi⟩ := lstImm_inv q
  refine ⟨_, xs, RA.toS, exs, fun vs H1 s1 r1 l => ?_⟩
  unfold gListOf at e0
  split at e0
  · cases e0
    obtain ⟨v, rfl, rv⟩ := reps1 r1
    cases rv with
    | @lst p vs _ hp rp => exact ⟨p, vs, rfl, .inl (SqL.of hp), fun l hl => newImm RA s1 rp hi hl k⟩
  · cases e0
    obtain ⟨v, rfl, rv⟩ := reps1 r1
    cases rv with
    | @seq p vs _ hp rp => exact ⟨p, vs, rfl, .inl hp, fun l hl => newImm RA s1 rp hi hl k⟩
  · cases e0
    obtain ⟨v, rfl, rv⟩ := reps1 r1
    cases rv with
    | @tup p vs _ hp rp => exact ⟨p, vs, rfl, .inr hp, fun l hl => newImm RA s1 rp hi hl k⟩
  · cases e0
theorem Reps.repl {K : PySem.W.Frag} {H : Hp} {vs : List V} {ds : List D} (r : Reps K H vs ds) : ∀ n : Nat, Reps K H (List.replicate n vs).flatten (List.replicate n ds).flatten
  | 0 => .nil
  | n + 1 => by
    rw [List.replicate_succ, List.replicate_succ, List.flatten_cons, List.flatten_cons]
    exact r.append (Reps.repl r n)
end
theorem imms_mem : ∀ {ds : List D}, imms ds = true ↔ ∀ d ∈ ds, imm d = true
  | [] => ⟨fun _ _ m => (nomatch m), fun _ => rfl⟩
  | d :: ds => by
    rw [imms, Bool.and_eq_true, imms_mem (ds := ds)]
    exact ⟨fun h e m => (List.mem_cons.mp m).elim (fun z => z ▸ h.1) (h.2 e), fun h => ⟨h d List.mem_cons_self, fun e m => h e (List.mem_cons_of_mem _ m)⟩⟩
section
variable {K : PySem.W.Frag} {F H : Hp} {σ : L2.St} {δ : DS} {As : Nat → List Addr}
theorem Reps.reverse {vs : List V} {ds : List D} (r : Reps K H vs ds) : Reps K H vs.reverse ds.reverse := by
  induction vs generalizing ds with
  | nil => cases r; exact .nil
  | cons v vs ih =>
    cases r with
    | cons r t => rw [List.reverse_cons, List.reverse_cons]; exact (ih t).append (.cons r .nil)
end
section
variable {X : Cx} {pos : Pos}
end
end Dl
namespace Dl
open PySem PySem.Spec PyProof.Rows L2
theorem r2_rep {K : PySem.W.Frag} : R2D K rRep gRep := by
  intro x y H Q a b d ra rb e k
  match a, b, ra, rb, e with
  | .lst es, .int n, ra, rb, e =>
    have e1 : (if es.length * n.toNat ≤ 1000 ∧ n ≤ 1000 ∧ -1000 ≤ n then some (D.lst (List.replicate n.toNat es).flatten) else none) = some d := e
    split at e1
    · rename_i hz
      cases e1
      cases rb
      cases ra with
      | @lst p vs _ hp rp =>
        refine ⟨p, n, vs, rfl, rfl, hp, by omega, by omega, by rw [rp.length]; exact le_line hz.1, fun l hl => ?_⟩
        have sn := same_new hl (.lst (List.replicate n.toNat vs).flatten)
        exact k _ _ sn (.lst upd_same ((rp.repl n.toNat).mono sn))
    · cases e1
theorem pd_rep {X : Cx} {a b : Expr} {fa fb : FD} {pos : Pos} (ha : PD X a fa) (hb : PD X b fb) : PD X (.BinOp a .Mult b pos) (f2 gRep fa fb) := pd_op op_rep r2_rep ha hb
end Dl
namespace Dl
open PySem PySem.Spec PyProof.Rows L2
def eqL (f : D → D → Option Bool) : List D → List D → Option Bool
  | [], [] => some true
  | [], _ :: _ => some false
  | _ :: _, [] => some false
  | a :: as, b :: bs => (f a b).bind fun x => (eqL f as bs).bind fun y => some (x && y)
def eqN : Nat → D → D → Option Bool
  | 0, a, b => if flatD a && flatD b then some (eqF a b) else none
  | n + 1, a, b => match a, b with
    | .tup as, .tup bs => eqL (eqN n) as bs
    | .lst as, .lst bs => eqL (eqN n) as bs
    | .lst as, .seq bs => eqL (eqN n) as bs
    | .seq as, .lst bs => eqL (eqN n) as bs
    | .seq as, .seq bs => eqL (eqN n) as bs
    | .non, .tup _ => some false
    | .tup _, .non => some false
    | .non, .lst _ => some false
    | .lst _, .non => some false
    | .non, .seq _ => some false
    | .seq _, .non => some false
    | a, b => if flatD a && flatD b then some (eqF a b) else none
theorem eqL_get {f : D → D → Option Bool} : ∀ {as bs : List D} {c : Bool}, eqL f as bs = some c → ∀ (j : Nat) (a b : D), as[j]? = some a → bs[j]? = some b → ∃ x, f a b = some x
  | [], _, _, _, _, _, _, h, _ => by simp at h
  | _ :: _, [], _, _, _, _, _, _, h => by simp at h
  | a :: as, b :: bs, c, h, j, x, y, h1, h2 => by
    obtain ⟨u, e1, h⟩ := Option.bind_eq_some_iff.mp (show ((f a b).bind _) = some c from h)
    obtain ⟨v, e2, h⟩ := Option.bind_eq_some_iff.mp h
    cases j with
    | zero => simp at h1 h2; subst h1 h2; exact ⟨u, e1⟩
    | succ j => exact eqL_get e2 j x y (by simpa using h1) (by simpa using h2)
theorem eqL_all {f : D → D → Option Bool} : ∀ {as bs : List D} {c : Bool} {e : Nat → Bool}, eqL f as bs = some c → (∀ (j : Nat) (a b : D) (x : Bool), as[j]? = some a → bs[j]? = some b → f a b = some x → e j = x) → ((List.range (min as.length bs.length)).all e && as.length == bs.length) = c
  | [], [], c, e, h, _ => by cases h; rfl
  | [], _ :: _, c, e, h, _ => by cases h; simp
  | _ :: _, [], c, e, h, _ => by cases h; simp
  | a :: as, b :: bs, c, e, h, he => by
    obtain ⟨u, e1, h⟩ := Option.bind_eq_some_iff.mp (show ((f a b).bind _) = some c from h)
    obtain ⟨v, e2, h⟩ := Option.bind_eq_some_iff.mp h
    cases h
    have ih := eqL_all (e := fun j => e (j + 1)) e2 fun j x y z h1 h2 h3 => he (j + 1) x y z (by simpa using h1) (by simpa using h2) h3
    have h0 : e 0 = u := he 0 a b u rfl rfl e1
    show ((List.range (min (as.length + 1) (bs.length + 1))).all e && (as.length + 1) == (bs.length + 1)) = (u && v)
    have hm : min (as.length + 1) (bs.length + 1) = min as.length bs.length + 1 := by omega
    have hq : ((as.length + 1) == (bs.length + 1)) = (as.length == bs.length) := by rw [Bool.eq_iff_iff]; simp
    rw [← ih, ← h0, hm, List.range_succ_eq_map, List.all_cons, List.all_map, Bool.and_assoc, hq]
    rfl
theorem eqL_len {f : D → D → Option Bool} : ∀ {as bs : List D} {c : Bool}, eqL f as bs = some c → as.length ≠ bs.length → c = false
  | [], [], _, _, n => absurd rfl n
  | [], _ :: _, c, h, _ => by cases h; rfl
  | _ :: _, [], c, h, _ => by cases h; rfl
  | a :: as, b :: bs, c, h, n => by
    obtain ⟨u, e1, h⟩ := Option.bind_eq_some_iff.mp (show ((f a b).bind _) = some c from h)
    obtain ⟨v, e2, h⟩ := Option.bind_eq_some_iff.mp h
    cases h
    rw [eqL_len e2 (fun z => n (congrArg (· + 1) z)), Bool.and_false]
theorem eqAt_nr {A : Around} {s : Shared} {b : Addr} {k : Bool} (h : SeqAt.RcAt A s .none (.ref b) k) : SeqAt.EqAt A s .none (.ref b) k := fun prog w E Q hq => by
  unfold eqBool
  refine wpAny_holding (wpAny_ite_split (fun z => nomatch (eq_of_beq z : Value.none = Value.ref b)) fun _ => ?_)
  have z := h prog w E (fun a s' => wpAny (model prog w) A (truthOfDropped a) Q E s') (wpAny_truthy_bool hq)
  exact wpAny_bind z
theorem eqAt_rn {A : Around} {s : Shared} {b : Addr} {k : Bool} (h : SeqAt.RcAt A s (.ref b) .none k) : SeqAt.EqAt A s (.ref b) .none k := fun prog w E Q hq => by
  unfold eqBool
  refine wpAny_holding (wpAny_ite_split (fun z => nomatch (eq_of_beq z : Value.ref b = Value.none)) fun _ => ?_)
  have z := h prog w E (fun a s' => wpAny (model prog w) A (truthOfDropped a) Q E s') (wpAny_truthy_bool hq)
  exact wpAny_bind z
section
variable {X : Cx} {pins : List (Addr × Obj)} {σ : L2.St} {H : Hp} {s : Shared}
theorem same_true (I : L2.Inv X pins σ H s) : ∀ (n : Nat) {v : V} {a b : D} {c : Bool}, Rep X.K H v a → Rep X.K H v b → eqN n a b = some c → c = true
  | 0, v, a, b, c, ra, rb, h => by
    unfold eqN at h
    split at h
    · rename_i hf
      cases h
      rw [Bool.and_eq_true] at hf
      have e1 := (ra.flat hf.1).2
      have e2 := (rb.flat hf.2).2
      rw [← eqV_eqF e1 e2]
      cases ra <;> first | rfl | (simp [eqV]; done) | exact absurd hf.1 Bool.false_ne_true
    · cases h
  | n + 1, v, a, b, c, ra, rb, h => by
    have many : ∀ {vs : List V} {as bs : List D}, Reps X.K H vs as → Reps X.K H vs bs → ∀ {c : Bool}, eqL (eqN n) as bs = some c → c = true := by
      intro vs
      induction vs with
      | nil => intro as bs r1 r2 c h; cases r1; cases r2; cases h; rfl
      | cons v vs ih =>
        intro as bs r1 r2 c h
        cases r1 with
        | cons p1 t1 =>
          cases r2 with
          | cons p2 t2 =>
            obtain ⟨u, e1, h⟩ := Option.bind_eq_some_iff.mp (show ((eqN n _ _).bind _) = some c from h)
            obtain ⟨w, e2, h⟩ := Option.bind_eq_some_iff.mp h
            cases h
            rw [same_true I n p1 p2 e1, ih t1 t2 e2]
            rfl
    have flatC : ∀ {a b : D}, Rep X.K H v a → Rep X.K H v b → (if flatD a && flatD b then some (eqF a b) else none) = some c → c = true := fun {a b} ra rb h => by
      refine same_true I 0 ra rb ?_
      unfold eqN
      exact h
    cases ra with
    | non => cases rb; exact flatC .non .non h
    | bl x => cases rb; exact flatC (.bl x) (.bl x) h
    | int x => cases rb; exact flatC (.int x) (.int x) h
    | str x => cases rb; exact flatC (.str x) (.str x) h
    | ty x => cases rb; exact flatC (.ty x) (.ty x) h
    | @tup p vs as hp rp =>
      cases rb with
      | @tup _ ws bs hq rq =>
        have e := I.tuple_inj hp hq
        subst e
        exact many rp rq h
      | lst _ _ => cases h
      | seq _ _ => cases h
      | dct _ => cases h
      | exc _ => cases h
      | cls _ => cases h
      | ms _ _ _ => cases h
      | mf _ _ _ => cases h
      | md _ _ _ => cases h
    | @lst p vs as hp rp =>
      cases rb with
      | @lst _ ws bs hq rq =>
        have e := I.list_inj (SqL.of (K := X.K) hp) (SqL.of hq)
        subst e
        exact many rp rq h
      | @seq _ ws bs hq rq =>
        have e := I.list_inj (SqL.of hp) hq
        subst e
        exact many rp rq h
      | tup _ _ => cases h
      | dct _ => cases h
      | exc _ => cases h
      | cls _ => cases h
      | ms _ _ _ => cases h
      | mf _ _ _ => cases h
      | md _ _ _ => cases h
    | @seq p vs as hp rp =>
      cases rb with
      | @lst _ ws bs hq rq =>
        have e := I.list_inj hp (SqL.of hq)
        subst e
        exact many rp rq h
      | @seq _ ws bs hq rq =>
        have e := I.list_inj hp hq
        subst e
        exact many rp rq h
      | tup _ _ => cases h
      | dct _ => cases h
      | exc _ => cases h
      | cls _ => cases h
      | ms _ _ _ => cases h
      | mf _ _ _ => cases h
      | md _ _ _ => cases h
    | dct h1 => cases rb <;> cases h
    | exc h1 => cases rb <;> cases h
    | cls C => cases rb <;> cases h
    | ms => cases rb <;> cases h
    | mf => cases rb <;> cases h
    | md => cases rb <;> cases h
theorem eq_at (I : L2.Inv X pins σ H s) : ∀ (n : Nat) (A : Around), A.units + n < cLine → ∀ {x y : V} {u v : Value} {a b : D} {c : Bool}, RelV x u → RelV y v → Rep X.K H x a → Rep X.K H y b → eqN n a b = some c → SeqAt.RcAt A s u v c ∧ SeqAt.RcNeAt A s u v (!c) ∧ SeqAt.EqAt A s u v c
  | 0, A, hu, x, y, u, v, a, b, c, rx, ry, ra, rb, h => by
    unfold eqN at h
    split at h
    · rename_i hf
      cases h
      rw [Bool.and_eq_true] at hf
      have z := rc_flat (A := A) (s := s) rx ry ra rb hf.1 hf.2
      refine ⟨z.1, z.2, ?_⟩
      rw [← eqV_eqF (ra.flat hf.1).2 (rb.flat hf.2).2]
      exact eqAt_V rx ry (ra.flat hf.1).1 (rb.flat hf.2).1
    · cases h
  | n + 1, A, hu, x, y, u, v, a, b, c, rx, ry, ra, rb, h => by
    have hu0 : A.units < cLine := by omega
    have hu1 : A.in1.units + n < cLine := by show A.units + 1 + n < cLine; omega
    have items : ∀ {vs ws : List V} {us zs : List Value} {as bs : List D} {c : Bool}, Vals vs us → Vals ws zs → Reps X.K H vs as → Reps X.K H ws bs → eqL (eqN n) as bs = some c →
        ∃ e : Nat → Bool, (∀ j (h1 : j < us.toArray.size) (h2 : j < zs.toArray.size), SeqAt.EqAt A.in1 s us.toArray[j] zs.toArray[j] (e j)) ∧ ∀ (j : Nat) (a b : D) (x : Bool), as[j]? = some a → bs[j]? = some b → eqN n a b = some x → e j = x := by
      intro vs ws us zs as bs c r1 r2 q1 q2 h
      refine ⟨fun j => ((as[j]?).bind fun a => (bs[j]?).bind fun b => eqN n a b).getD true, fun j h1 h2 => ?_, fun j a b x e1 e2 e3 => by dsimp only; rw [e1, e2, Option.bind_some, Option.bind_some, e3]; rfl⟩
      have l1 := r1.length
      have l2 := r2.length
      rw [List.size_toArray] at h1 h2
      have k1 : j < vs.length := by omega
      have k2 : j < ws.length := by omega
      obtain ⟨u', e1, p1⟩ := r1.get (i := j) (x := vs[j]) (by simp [k1])
      obtain ⟨z', e2, p2⟩ := r2.get (i := j) (x := ws[j]) (by simp [k2])
      obtain ⟨a', e3, p3⟩ := q1.getV (i := j) (v := vs[j]) (by simp [k1])
      obtain ⟨b', e4, p4⟩ := q2.getV (i := j) (v := ws[j]) (by simp [k2])
      have w1 : us.toArray[j] = u' := by
        have z : us[j]? = some us[j] := by simp [h1]
        rw [z] at e1; simpa using e1
      have w2 : zs.toArray[j] = z' := by
        have z : zs[j]? = some zs[j] := by simp [h2]
        rw [z] at e2; simpa using e2
      obtain ⟨x', ex⟩ := eqL_get h j a' b' e3 e4
      dsimp only
      rw [w1, w2, e3, e4, Option.bind_some, Option.bind_some, ex]
      exact (eq_at I n A.in1 hu1 p1 p2 p3 p4 ex).2.2
    have refs : ∀ {p q : Addr}, u = .ref p → v = .ref q → SeqAt.RcAt A s (.ref p) (.ref q) c → SeqAt.RcNeAt A s (.ref p) (.ref q) (!c) → SeqAt.RcAt A s u v c ∧ SeqAt.RcNeAt A s u v (!c) ∧ SeqAt.EqAt A s u v c := fun {p q} e1 e2 z1 z2 => by
      subst e1 e2
      refine ⟨z1, z2, ?_⟩
      by_cases hpq : p = q
      · subst hpq
        have exy : x = y := rx.inj ry
        subst exy
        rw [same_true I (n + 1) ra rb h]
        exact SeqAt.EqAt.same _
      · exact SeqAt.EqAt.of_refs hpq z1
    have lists : ∀ {p q : Addr} {vs ws : List V} {as bs : List D}, u = .ref p → v = .ref q → SqL X.K H p vs → SqL X.K H q ws → Reps X.K H vs as → Reps X.K H ws bs → eqL (eqN n) as bs = some c → SeqAt.RcAt A s u v c ∧ SeqAt.RcNeAt A s u v (!c) ∧ SeqAt.EqAt A s u v c := fun {p q vs ws as bs} e1 e2 hp hq rp rq hc => by
      obtain ⟨its, r1, t1, _⟩ := I.list hp
      obtain ⟨jts, r2, t2, _⟩ := I.list hq
      have l1 : its.toArray.size = as.length := by rw [List.size_toArray, ← r1.length, rp.length]
      have l2 : jts.toArray.size = bs.length := by rw [List.size_toArray, ← r2.length, rq.length]
      obtain ⟨e, he, hx⟩ := items r1 r2 rp rq hc
      by_cases hl : its.toArray.size = jts.toArray.size
      · have z := eqL_all hc hx
        have hb : (as.length == bs.length) = true := by rw [beq_iff_eq]; omega
        have hm : min as.length bs.length = its.toArray.size := by omega
        rw [hb, hm, Bool.and_true] at z
        have z1 := SeqAt.RcAt.lists (A := A) (s := s) t1.isList t2.isList hl hu0 he
        have z2 := SeqAt.RcNeAt.lists (A := A) (s := s) t1.isList t2.isList hl hu0 he
        rw [z] at z1 z2
        exact refs e1 e2 z1 z2
      · have z1 := SeqAt.RcAt.lists_lengths (A := A) (s := s) t1.isList t2.isList (by simpa [bne_iff_ne] using hl) hu0
        have z2 := SeqAt.RcNeAt.lists_lengths (A := A) (s := s) t1.isList t2.isList (by simpa [bne_iff_ne] using hl) hu0
        have z := eqL_len hc (by omega)
        subst z
        exact refs e1 e2 z1 z2
    have flatC : (if flatD a && flatD b then some (eqF a b) else none) = some c → SeqAt.RcAt A s u v c ∧ SeqAt.RcNeAt A s u v (!c) ∧ SeqAt.EqAt A s u v c := fun h => eq_at I 0 A (by omega) rx ry ra rb (by unfold eqN; exact h)
    cases ra with
    | non =>
      cases (show u = Value.none from rx)
      cases rb with
      | @tup q ws bs hq rq =>
        cases h
        cases (show v = Value.ref q from ry)
        obtain ⟨its, r1, t1, _⟩ := I.tuple hq
        exact ⟨SeqAt.RcAt.none_tuple t1 hu0, SeqAt.RcNeAt.none_tuple t1 hu0, eqAt_nr (SeqAt.RcAt.none_tuple t1 hu0)⟩
      | @lst q ws bs hq rq =>
        cases h
        cases (show v = Value.ref q from ry)
        obtain ⟨its, r1, t1, _⟩ := I.list (SqL.of (K := X.K) hq)
        exact ⟨SeqAt.RcAt.none_list t1.isList hu0, SeqAt.RcNeAt.none_list t1.isList hu0, eqAt_nr (SeqAt.RcAt.none_list t1.isList hu0)⟩
      | @seq q ws bs hq rq =>
        cases h
        cases (show v = Value.ref q from ry)
        obtain ⟨its, r1, t1, _⟩ := I.list hq
        exact ⟨SeqAt.RcAt.none_list t1.isList hu0, SeqAt.RcNeAt.none_list t1.isList hu0, eqAt_nr (SeqAt.RcAt.none_list t1.isList hu0)⟩
      | _ => exact flatC h
    | @tup p vs as hp rp =>
      cases rb with
      | @tup q ws bs hq rq =>
        obtain ⟨its, r1, t1, _⟩ := I.tuple hp
        obtain ⟨jts, r2, t2, _⟩ := I.tuple hq
        have l1 : its.toArray.size = as.length := by rw [List.size_toArray, ← r1.length, rp.length]
        have l2 : jts.toArray.size = bs.length := by rw [List.size_toArray, ← r2.length, rq.length]
        have hc : eqL (eqN n) as bs = some c := h
        obtain ⟨e, he, hx⟩ := items r1 r2 rp rq hc
        have z := eqL_all hc hx
        have z1 := SeqAt.RcAt.tuples (A := A) (s := s) t1 t2 hu0 he
        have z2 := SeqAt.RcNeAt.tuples (A := A) (s := s) t1 t2 hu0 he
        rw [l1, l2, z] at z1 z2
        exact refs (show u = Value.ref p from rx) (show v = Value.ref q from ry) z1 z2
      | non =>
        cases h
        cases (show u = Value.ref p from rx)
        cases (show v = Value.none from ry)
        obtain ⟨its, r1, t1, _⟩ := I.tuple hp
        exact ⟨SeqAt.RcAt.tuple_none t1 hu0, SeqAt.RcNeAt.tuple_none t1 hu0, eqAt_rn (SeqAt.RcAt.tuple_none t1 hu0)⟩
      | _ => cases h
    | @lst p vs as hp rp =>
      cases rb with
      | @lst q ws bs hq rq => exact lists (show u = Value.ref p from rx) (show v = Value.ref q from ry) (SqL.of hp) (SqL.of hq) rp rq h
      | @seq q ws bs hq rq => exact lists (show u = Value.ref p from rx) (show v = Value.ref q from ry) (SqL.of hp) hq rp rq h
      | non =>
        cases h
        cases (show u = Value.ref p from rx)
        cases (show v = Value.none from ry)
        obtain ⟨its, r1, t1, _⟩ := I.list (SqL.of (K := X.K) hp)
        exact ⟨SeqAt.RcAt.list_none t1.isList hu0, SeqAt.RcNeAt.list_none t1.isList hu0, eqAt_rn (SeqAt.RcAt.list_none t1.isList hu0)⟩
      | _ => cases h
    | @seq p vs as hp rp =>
      cases rb with
      | @lst q ws bs hq rq => exact lists (show u = Value.ref p from rx) (show v = Value.ref q from ry) hp (SqL.of hq) rp rq h
      | @seq q ws bs hq rq => exact lists (show u = Value.ref p from rx) (show v = Value.ref q from ry) hp hq rp rq h
      | non =>
        cases h
        cases (show u = Value.ref p from rx)
        cases (show v = Value.none from ry)
        obtain ⟨its, r1, t1, _⟩ := I.list hp
        exact ⟨SeqAt.RcAt.list_none t1.isList hu0, SeqAt.RcNeAt.list_none t1.isList hu0, eqAt_rn (SeqAt.RcAt.list_none t1.isList hu0)⟩
      | _ => cases h
    | bl x => cases rb <;> first | exact flatC h | cases h
    | int x => cases rb <;> first | exact flatC h | cases h
    | str x => cases rb <;> first | exact flatC h | cases h
    | ty x => cases rb <;> first | exact flatC h | cases h
    | dct h1 => cases rb <;> first | exact flatC h | cases h
    | exc h1 => cases rb <;> first | exact flatC h | cases h
    | cls C => cases rb <;> first | exact flatC h | cases h
    | ms => cases rb <;> first | exact flatC h | cases h
    | mf => cases rb <;> first | exact flatC h | cases h
    | md => cases rb <;> first | exact flatC h | cases h
end
def gEqN (a b : D) : Option D := (eqN 6 a b).map D.bl
def gNeN (a b : D) : Option D := (eqN 6 a b).map fun c => D.bl (!c)
def rEqN (K : PySem.W.Frag) : R2 := fun x y H Q => ∃ a b c, Rep K H x a ∧ Rep K H y b ∧ eqN 6 a b = some c ∧ Q (.bl c) H
def rNeN (K : PySem.W.Frag) : R2 := fun x y H Q => ∃ a b c, Rep K H x a ∧ Rep K H y b ∧ eqN 6 a b = some c ∧ Q (.bl (!c)) H
section
variable {X : Cx} {a b : Expr} {fa fb : FD} {pos : Pos}
theorem op_eqN (hu : X.A.units + 64 < cLine) : OpR X (compareOp .Eq) (rEqN X.K) := by
  intro pins s σ H x y v u Q I rx ry ⟨a, b, c, ra, rb, e, q⟩
  exact (eq_at I 6 X.A (by omega) rx ry ra rb e).1 X.prog X.w _ _ ⟨.bl c, H, I, rfl, q⟩
theorem op_neN (hu : X.A.units + 64 < cLine) : OpR X (compareOp .NotEq) (rNeN X.K) := by
  intro pins s σ H x y v u Q I rx ry ⟨a, b, c, ra, rb, e, q⟩
  exact (eq_at I 6 X.A (by omega) rx ry ra rb e).2.1 X.prog X.w _ _ ⟨.bl (!c), H, I, rfl, q⟩
theorem r2_eqN {K : PySem.W.Frag} : R2D K (rEqN K) gEqN := by
  intro x y H Q a b d ra rb e k
  unfold gEqN at e
  obtain ⟨c, hc, e⟩ := Option.map_eq_some_iff.mp e
  cases e
  exact ⟨a, b, c, ra, rb, hc, k _ H (Same.refl H) (.bl _)⟩
theorem r2_neN {K : PySem.W.Frag} : R2D K (rNeN K) gNeN := by
  intro x y H Q a b d ra rb e k
  unfold gNeN at e
  obtain ⟨c, hc, e⟩ := Option.map_eq_some_iff.mp e
  cases e
  exact ⟨a, b, c, ra, rb, hc, k _ H (Same.refl H) (.bl _)⟩
theorem pd_eqN (hu : X.A.units + 64 < cLine) (ha : PD X a fa) (hb : PD X b fb) : PD X (.Compare a [.Eq] [b] pos) (f2 gEqN fa fb) := pd_cmp (op_eqN hu) r2_eqN ha hb (nomark _)
theorem ptd_eqN (hu : X.A.units + 64 < cLine) (ha : PD X a fa) (hb : PD X b fb) : PTD X (.Compare a [.Eq] [b] pos) (fT (f2 gEqN fa fb)) := ptd_cmp (op_eqN hu) r2_eqN ha hb (nomark _)
theorem ptd_neN (hu : X.A.units + 64 < cLine) (ha : PD X a fa) (hb : PD X b fb) : PTD X (.Compare a [.NotEq] [b] pos) (fT (f2 gNeN fa fb)) := ptd_cmp (op_neN hu) r2_neN ha hb (nomark _)
end
end Dl
namespace Dl
open PySem PySem.Spec PyProof.Rows L2
inductive Nm where
  | i (n : Int)
  | b (c : Bool)
def Nm.val : Nm → Int
  | .i n => n
  | .b c => if c then 1 else 0
def Nm.toV : Nm → V
  | .i n => .int n
  | .b c => .bl c
inductive NumsAre : List Value → List Nm → Prop
  | nil : NumsAre [] []
  | i (n : Int) (t : Tok) {vs : List Value} {ns : List Nm} (h : NumsAre vs ns) : NumsAre (.int n t :: vs) (.i n :: ns)
  | b (c : Bool) {vs : List Value} {ns : List Nm} (h : NumsAre vs ns) : NumsAre (.bool c :: vs) (.b c :: ns)
theorem NumsAre.length {vs : List Value} {ns : List Nm} (h : NumsAre vs ns) : vs.length = ns.length := by
  induction h with
  | nil => rfl
  | i _ _ _ ih => simp [ih]
  | b _ _ ih => simp [ih]
section
open PySem.SeqAt
open PySem.AutoSeq1 (wpAny_loadPart')
open PySem.MeetsSeq PySem.MeetsSeq2 PySem.MeetsSeq3
end
section
variable {X : Cx} {a b : Expr} {fa fb : FD} {pos : Pos}
end
def isLst : D → Option Bool
  | .lst _ => some true
  | .seq _ => some true
  | .ty _ => none
  | .exc _ => none
  | .cls _ => none
  | .ms _ _ => none
  | .mf _ _ => none
  | .md _ _ => none
  | _ => some false
theorem ok_isLst (d : D) (b : Bool) (h : isLst d = some b) : IsiOk "list" d b := by
  cases d <;> (first | cases h) <;> first
    | exact ⟨_, rfl, fun K => kit_nn _ K⟩
    | exact ⟨_, rfl, fun K => by kernel_rfl⟩
theorem pvi {X : Cx} (i : Nat) {x : Str} {pos : Pos} (hN : X.N[i]? = some x := by rfl) (hv : Vis X.env.scope x := by first | exact Or.inl rfl | exact Or.inr (Or.inl rfl) | exact Or.inr (Or.inr rfl)) (hd : (x == ("__debug__" : Str)) = false := by decide)
    (hcd : (x == ("__classdict__" : Str)) = false := by decide) : PE X (.Name x pos) (tVar i) := pe_var hN hv hd hcd
end Dl
namespace Dl
open PySem PySem.Spec PyProof.Rows L2
section
variable {X : Cx} {pos : Pos} {r : Nat} {c e : Expr} {f : FD} {g : List D → Option (List D)} {rest : List Stmt}
end
theorem RepA.other {K : PySem.W.Frag} {F H : Hp} {σ : L2.St} {δ : DS} {As : Nat → List Addr} (R : RepA K F H σ δ As) {r : Nat} (v : Option V) (hr : ∀ d, δ[r]? ≠ some (some d)) : RepA K F H (σ.set r v) δ As := by
  refine ⟨R.fz, by rw [List.length_set]; exact R.len, fun i d q => ?_, R.non, R.nd, R.dj⟩
  obtain ⟨w, h1, h2⟩ := R.val i d q
  have : r ≠ i := fun z => hr d (z ▸ q)
  exact ⟨w, by rw [List.getElem?_set_ne this]; exact h1, h2⟩
end Dl
namespace Dl
open PySem PySem.Spec PyProof.Rows L2
theorem CompOk.nil {X : Cx} {scope : Scope} {x : Str} (clos : closureFor scope X.env = pure [] := by rfl) (nocell : ∀ y ∈ scope.names, y.2 ≠ .cell := by decide +kernel) (kind : scope.kind = .function := by rfl)
    (names : ∀ y ∈ scope.names, y.2 = .local → scope.names.lookup y.1 = some .local := by decide +kernel) (hx : scope.names.lookup x = some .local := by rfl) (hfr : ∀ p ∈ scope.names, p.2 ≠ .free := by decide +kernel) : CompOk X scope [] x [x] [] where
  clos := clos
  nocell := nocell
  kind := kind
  names := names
  hx := hx
  nd := by simp
  h0 := rfl
  len := rfl
  clx := rfl
  cls := fun y a h => by cases h
  has := fun y h => by
    have key : ∀ k, (k = NameKind.cell ∨ k = NameKind.free) → (relabel scope X.env).names.lookup y = some k → False := fun k hk h => by
      have m := PySem.mem_of_lookup h
      unfold relabel at m
      obtain ⟨⟨n, k'⟩, m1, m2⟩ := List.mem_map.mp m
      dsimp only at m2
      refine hfr _ m1 ?_
      show k' = NameKind.free
      split at m2
      · rename_i hc
        rw [Bool.and_eq_true, Bool.and_eq_true] at hc
        exact beq_iff_eq.mp hc.1.1
      · have e : k' = k := congrArg Prod.snd m2
        rcases hk with z1 | z1
        · exact absurd (e.trans z1) (nocell _ m1)
        · exact e.trans z1
    rcases h with h | h
    · exact (key _ (.inl rfl) h).elim
    · exact (key _ (.inr rfl) h).elim
  fr := fun i y k h1 h2 => by simp at h2
theorem flat_int (i : Int) : flatD (.int i) = true := rfl
end Dl
namespace Dl
open PySem PySem.Spec PyProof.Rows L2
def tNames : List Nat → TGs
  | [] => gNil
  | i :: is => gCons (gName i) (tNames is)
def setO : List Nat → List D → DS → DS
  | i :: is, d :: ds, δ => setO is ds (δ.set i (some d))
  | _, _, δ => δ
def inAll (is : List Nat) (n : Nat) : Bool := is.all fun i => decide (i < n)
theorem reps_own {K : PySem.W.Frag} {F H : Hp} : ∀ {vs : List V} {ds : List D}, Reps K H vs ds → imms ds = true → RepOs K F H vs ds []
  | _, _, .nil, _ => .nil
  | _, _, .cons r t, i => by
    rw [imms, Bool.and_eq_true] at i
    exact .cons (.imm i.1 r) (reps_own t i.2) rfl
theorem RepO.parts {K : PySem.W.Frag} {F H : Hp} {v : V} {ds : List D} {A : List Addr} (r : RepO K F H v (.tup ds) A) : ∃ a vs, v = .ref a ∧ SqT K H a vs ∧ RepOs K F H vs ds A := by
  cases r with
  | imm i h =>
    cases h with
    | tup h r => exact ⟨_, _, rfl, h, reps_own r (by rw [Dl.imm] at i; exact i)⟩
  | tup h r => exact ⟨_, _, rfl, h, r⟩
theorem RepOs.len {K : PySem.W.Frag} {F H : Hp} : ∀ {vs : List V} {ds : List D} {A : List Addr}, RepOs K F H vs ds A → vs.length = ds.length
  | _, _, _, .nil => rfl
  | _, _, _, .cons _ t _ => by rw [List.length_cons, List.length_cons, RepOs.len t]
theorem names_ok {K : PySem.W.Frag} {F H : Hp} : ∀ (is : List Nat) {vs : List V} {ds : List D} {A : List Addr} {σ : L2.St} {δ : DS} {As : Nat → List Addr} {Q : L2.St → Hp → Prop}, RepOs K F H vs ds A → A.Nodup → (∀ j a, a ∈ As j → a ∉ A) → RepA K F H σ δ As → ds.length = is.length → inAll is δ.length = true → (∀ σ', RepM K F H σ' (setO is ds δ) → Q σ' H) → tNames is vs σ H Q
  | [], _, _, _, σ, δ, As, Q, .nil, _, _, R, _, _, k => ⟨rfl, k σ ⟨As, R⟩⟩
  | [], _, _, _, _, _, _, _, .cons _ _ _, _, _, _, l, _, _ => by cases l
  | _ :: _, _, _, _, _, _, _, _, .nil, _, _, _, l, _, _ => by cases l
  | i :: is, _, _, _, σ, δ, As, Q, .cons (v := v) (d := d) (vs := vs) (ds := ds) (A := A) (B := B) r t e, nd, dj, R, l, hi, k => by
    subst e
    have hi' : (decide (i < δ.length) && inAll is δ.length) = true := hi
    rw [Bool.and_eq_true] at hi'
    have h1 : i < δ.length := of_decide_eq_true hi'.1
    rw [List.nodup_append] at nd
    have R1 := R.set i h1 r nd.1 fun j a _ m z => dj j a m (List.mem_append_left _ z)
    refine ⟨v, vs, rfl, ?_⟩
    show tNames is vs (σ.set i (some v)) H Q
    refine names_ok is t nd.2.1 (fun j a m z => ?_) R1 (by simpa using l) (by rw [List.length_set]; exact hi'.2) k
    unfold asSet at m
    by_cases hj : j = i
    · rw [if_pos hj] at m
      exact nd.2.2 a m a z rfl
    · rw [if_neg hj] at m
      exact dj j a m (List.mem_append_right _ z)
def sUnM (is : List Nat) (fm : FM) : SD := fun δ => (fm δ).bind fun p => match p.1 with
  | .tup ds => if ds.length = is.length ∧ inAll is p.2.length = true then some (.nx (setO is ds p.2)) else none
  | _ => none
theorem pgN {X : Cx} (i : Nat) {x : Str} {pos : Pos} (hN : X.N.Nodup) (hi : X.N[i]? = some x := by rfl) (hx : Loc X.env.scope x := by first | exact Or.inl rfl | exact Or.inr rfl) (hf : X.fn x = true ∨ X.env.scope.names.lookup x = some .local := by first | exact .inl rfl | exact .inr rfl | assumption) : PG X (.Name x pos) (gName i) := pg_name hN hi hx hf
theorem pm_un {X : Cx} {e : Expr} {es : List Expr} {kt : Nat} {pt pos : Pos} {fm : FM} (is : List Nat) (he : PV X e fm) (hg : PG X (.Tuple es kt pt) (gTup X.K is.length (tNames is)))
    (hs : swapsWithSole [.Tuple es kt pt] e pos.line X.env = pure false := by rfl) (hw : swappedStores [.Tuple es kt pt] e X.env = pure none := by rfl)
    (h1 : (assignEach [.Tuple es kt pt] X.env).map (·.2) = [assign (.Tuple es kt pt) X.env] := by rfl) : PMD X (.Assign [.Tuple es kt pt] e pos) (sUnM is fm) := impS (ps_asg he hg hs hw h1) fun E σ H ⟨F, δ, r, ⟨As, R⟩, q, k⟩ => by
  unfold sUnM at q
  obtain ⟨⟨d, δ'⟩, ed, q⟩ := Option.bind_eq_some_iff.mp q
  dsimp only at q
  split at q
  · rename_i ds
    split at q
    · rename_i hl
      cases q
      refine ⟨F, δ, As, _, δ', R, ed, fun v F' H' A As' ev R' r' => ?_⟩
      obtain ⟨a, vs, rfl, sq, ro⟩ := r'.parts
      exact ⟨a, vs, rfl, sq, ro.len.trans hl.1, names_ok is ro ev.nd ev.dj R' hl.1 hl.2 fun σ' R2 => k σ' F' H' ev.fs R2⟩
    · cases q
  · cases q
end Dl
namespace Dl
open PySem PySem.Spec PyProof.Rows L2
theorem look2 {y z u : Str} {c e a : Addr} (h : List.lookup y [(z, c), (u, e)] = some a) : (y = z ∧ c = a) ∨ (y = u ∧ e = a) := by
  by_cases hy : y = z
  · subst hy
    simp at h
    exact .inl ⟨rfl, h⟩
  · have q : (y == z) = false := beq_eq_false_iff_ne.mpr hy
    rw [List.lookup_cons, q] at h
    by_cases hu : y = u
    · subst hu
      simp at h
      exact .inr ⟨rfl, h⟩
    · have q2 : (y == u) = false := beq_eq_false_iff_ne.mpr hu
      rw [List.lookup_cons, q2] at h
      cases h
theorem look2_1 {z u : Str} {c e : Addr} : List.lookup z [(z, c), (u, e)] = some c := by simp
theorem look2_2 {z u : Str} {c e : Addr} (h : z ≠ u) : List.lookup u [(z, c), (u, e)] = some e := by
  have q : (u == z) = false := beq_eq_false_iff_ne.mpr h.symm
  rw [List.lookup_cons, q]
  simp
theorem free_of {X : Cx} {scope : Scope} {y : Str} (nocell : ∀ y ∈ scope.names, y.2 ≠ .cell) (h : (relabel scope X.env).names.lookup y = some .cell ∨ (relabel scope X.env).names.lookup y = some .free) : ∃ p ∈ scope.names, p.2 = .free ∧ p.1 = y := by
  have key : ∀ k, (k = NameKind.cell ∨ k = NameKind.free) → (relabel scope X.env).names.lookup y = some k → ∃ p ∈ scope.names, p.2 = .free ∧ p.1 = y := fun k hk h => by
    have m := PySem.mem_of_lookup h
    unfold relabel at m
    obtain ⟨⟨n, k'⟩, m1, m2⟩ := List.mem_map.mp m
    dsimp only at m2
    refine ⟨_, m1, ?_, ?_⟩
    · show k' = NameKind.free
      split at m2
      · rename_i hc
        rw [Bool.and_eq_true, Bool.and_eq_true] at hc
        exact beq_iff_eq.mp hc.1.1
      · have e : k' = k := congrArg Prod.snd m2
        rcases hk with z1 | z1
        · exact absurd (e.trans z1) (nocell _ m1)
        · exact e.trans z1
    · show n = y
      split at m2 <;> exact congrArg Prod.fst m2
  rcases h with h | h
  · exact key _ (.inl rfl) h
  · exact key _ (.inr rfl) h
theorem CompOk.two {X : Cx} {scope : Scope} {c e : Addr} {x z u : Str} {j k : Nat} (clos : closureFor scope X.env = pure [(z, c), (u, e)] := by rfl) (nocell : ∀ y ∈ scope.names, y.2 ≠ .cell := by decide +kernel) (kind : scope.kind = .function := by rfl)
    (names : ∀ y ∈ scope.names, y.2 = .local → scope.names.lookup y.1 = some .local := by decide +kernel) (hx : scope.names.lookup x = some .local := by rfl) (hne : x ≠ z := by decide +kernel) (hne' : x ≠ u := by decide +kernel) (hzu : z ≠ u := by decide +kernel) (hcell : X.env.cells.lookup z = some c := by rfl) (hcell' : X.env.cells.lookup u = some e := by rfl)
    (hfr : ∀ p ∈ scope.names, p.2 = .free → p.1 = z ∨ p.1 = u := by decide +kernel) (hj : X.N[j]? = some z := by rfl) (hJ : X.N[k]? = some u := by rfl) (hk : X.env.scope.names.lookup z = some .cell := by rfl) (hk' : (relabel scope X.env).names.lookup z = some .cell := by rfl) (hu : X.env.scope.names.lookup u = some .cell := by rfl) (hu' : (relabel scope X.env).names.lookup u = some .cell := by rfl) : CompOk X scope [(z, c), (u, e)] x [x, z, u] [j, k] where
  clos := clos
  nocell := nocell
  kind := kind
  names := names
  hx := hx
  nd := by simp [hne, hne', hzu]
  h0 := rfl
  len := rfl
  clx := by
    cases q : List.lookup x [(z, c), (u, e)] with
    | none => rfl
    | some a => rcases look2 q with ⟨h, _⟩ | ⟨h, _⟩ <;> exact absurd h (by assumption)
  cls := fun y a h => by
    rcases look2 h with ⟨rfl, rfl⟩ | ⟨rfl, rfl⟩
    · exact hcell
    · exact hcell'
  has := fun y h => by
    obtain ⟨p, m, f, rfl⟩ := free_of nocell h
    rcases hfr p m f with q | q
    · exact ⟨c, by rw [q]; exact look2_1⟩
    · exact ⟨e, by rw [q]; exact look2_2 hzu⟩
  fr := fun i y l h1 h2 => by
    match i with
    | 0 =>
      have e1 : z = y := Option.some.inj h1
      have e2 : j = l := Option.some.inj h2
      subst e1 e2
      refine ⟨hj, hk, hk', fun a ha => ?_⟩
      rw [hcell] at ha
      cases ha
      exact look2_1
    | 1 =>
      have e1 : u = y := Option.some.inj h1
      have e2 : k = l := Option.some.inj h2
      subst e1 e2
      refine ⟨hJ, hu, hu', fun a ha => ?_⟩
      rw [hcell'] at ha
      cases ha
      exact look2_2 hzu
    | i + 2 => cases h2
theorem CompOk.swp {X : Cx} {scope : Scope} {c e : Addr} {x z u : Str} {j k : Nat} (clos : closureFor scope X.env = pure [(u, e), (z, c)] := by rfl) (nocell : ∀ y ∈ scope.names, y.2 ≠ .cell := by decide +kernel) (kind : scope.kind = .function := by rfl)
    (names : ∀ y ∈ scope.names, y.2 = .local → scope.names.lookup y.1 = some .local := by decide +kernel) (hx : scope.names.lookup x = some .local := by rfl) (hne : x ≠ z := by decide +kernel) (hne' : x ≠ u := by decide +kernel) (hzu : u ≠ z := by decide +kernel) (hcell : X.env.cells.lookup z = some c := by rfl) (hcell' : X.env.cells.lookup u = some e := by rfl)
    (hfr : ∀ p ∈ scope.names, p.2 = .free → p.1 = z ∨ p.1 = u := by decide +kernel) (hj : X.N[j]? = some z := by rfl) (hJ : X.N[k]? = some u := by rfl) (hk : X.env.scope.names.lookup z = some .cell := by rfl) (hk' : (relabel scope X.env).names.lookup z = some .cell := by rfl) (hu : X.env.scope.names.lookup u = some .cell := by rfl) (hu' : (relabel scope X.env).names.lookup u = some .cell := by rfl) : CompOk X scope [(u, e), (z, c)] x [x, z, u] [j, k] where
  clos := clos
  nocell := nocell
  kind := kind
  names := names
  hx := hx
  nd := by simp [hne, hne', hzu.symm]
  h0 := rfl
  len := rfl
  clx := by
    cases q : List.lookup x [(u, e), (z, c)] with
    | none => rfl
    | some a => rcases look2 q with ⟨h, _⟩ | ⟨h, _⟩ <;> exact absurd h (by assumption)
  cls := fun y a h => by
    rcases look2 h with ⟨rfl, rfl⟩ | ⟨rfl, rfl⟩
    · exact hcell'
    · exact hcell
  has := fun y h => by
    obtain ⟨p, m, f, rfl⟩ := free_of nocell h
    rcases hfr p m f with q | q
    · exact ⟨c, by rw [q]; exact look2_2 hzu⟩
    · exact ⟨e, by rw [q]; exact look2_1⟩
  fr := fun i y l h1 h2 => by
    match i with
    | 0 =>
      have e1 : z = y := Option.some.inj h1
      have e2 : j = l := Option.some.inj h2
      subst e1 e2
      refine ⟨hj, hk, hk', fun a ha => ?_⟩
      rw [hcell] at ha
      cases ha
      exact look2_2 hzu
    | 1 =>
      have e1 : u = y := Option.some.inj h1
      have e2 : k = l := Option.some.inj h2
      subst e1 e2
      refine ⟨hJ, hu, hu', fun a ha => ?_⟩
      rw [hcell'] at ha
      cases ha
      exact look2_1
    | i + 2 => cases h2
end Dl
namespace Dl
open PySem PySem.Spec PyProof.Rows L2
end Dl
namespace Dl
open PySem PySem.Spec PyProof.Rows L2
def CMulW (i j : Int) : Prop := (Bd i ∧ Bd j) ∨ L2.CMul i j
instance (i j : Int) : Decidable (CMulW i j) := by unfold CMulW L2.CMul; exact inferInstance
theorem op_mulW {X : Cx} : OpR X (binaryOp .Mult) (rI CMulW fun i j => .int (i * j)) := opI fun _ _ _ _ _ _ _ hc q => by
  rcases hc with hc | hc
  · exact mul_int q (.of_bits hc.1.bits hc.2.bits)
  · exact mul_int q hc.ok
theorem pd_mulW {X : Cx} {a b : Expr} {fa fb : FD} {pos : Pos} (ha : PD X a fa) (hb : PD X b fb) : PD X (.BinOp a .Mult b pos) (f2 (gI CMulW fun i j => .int (i * j)) fa fb) := pd_op op_mulW (r2_I fun _ _ _ => .int _) ha hb
def itemsOf : D → Option (List D)
  | .tup ds => some ds
  | .lst ds => some ds
  | .seq ds => some ds
  | _ => none
def gIn (a b : D) : Option D := (itemsOf b).bind fun ds => if flatD a && ds.all flatD then some (.bl (ds.any fun y => eqF y a)) else none
theorem reps_flat {K : PySem.W.Frag} {H : Hp} {a : D} {x : V} (ha : toV a = some x) : ∀ {vs : List V} {ds : List D}, Reps K H vs ds → ds.all flatD = true → vs.all flatV = true ∧ inV x vs = ds.any fun y => eqF y a
  | _, _, .nil, _ => ⟨rfl, rfl⟩
  | v :: vs, d :: ds, .cons r t, f => by
    rw [List.all_cons, Bool.and_eq_true] at f
    obtain ⟨h1, h2⟩ := r.flat f.1
    obtain ⟨h3, h4⟩ := reps_flat ha t f.2
    refine ⟨by rw [List.all_cons, h1, h3]; rfl, ?_⟩
    unfold inV at h4 ⊢
    rw [List.any_cons, List.any_cons, h4, eqV_eqF h2 ha]
theorem r2_in {K : PySem.W.Frag} : R2D K (rIn K false) gIn := by
  intro x y H Q a b d ra rb e k
  unfold gIn at e
  obtain ⟨ds, ed, e⟩ := Option.bind_eq_some_iff.mp e
  split at e
  · rename_i hf
    rw [Bool.and_eq_true] at hf
    cases e
    obtain ⟨fx, tx⟩ := ra.flat hf.1
    cases rb with
    | @tup p vs _ hp rp =>
      cases ed
      obtain ⟨h1, h2⟩ := reps_flat tx rp hf.2
      refine ⟨p, vs, rfl, .inr hp, fx, h1, ?_⟩
      show Q (.bl (inV x vs)) H
      rw [h2]
      exact k _ H (Same.refl H) (.bl _)
    | @lst p vs _ hp rp =>
      cases ed
      obtain ⟨h1, h2⟩ := reps_flat tx rp hf.2
      refine ⟨p, vs, rfl, .inl (SqL.of hp), fx, h1, ?_⟩
      show Q (.bl (inV x vs)) H
      rw [h2]
      exact k _ H (Same.refl H) (.bl _)
    | @seq p vs _ hp rp =>
      cases ed
      obtain ⟨h1, h2⟩ := reps_flat tx rp hf.2
      refine ⟨p, vs, rfl, .inl hp, fx, h1, ?_⟩
      show Q (.bl (inV x vs)) H
      rw [h2]
      exact k _ H (Same.refl H) (.bl _)
    | _ => cases ed
  · cases e
theorem ptd_in {X : Cx} {a b : Expr} {fa fb : FD} {pos : Pos} (ha : PD X a fa) (hb : PD X b fb) (hm : behindInMarks .In b = false := by with_unfolding_all rfl) : PTD X (.Compare a [.In] [b] pos) (fT (f2 gIn fa fb)) := ptd_cmp op_in_seq r2_in ha hb hm
def boolsOf : List D → Option (List Bool)
  | [] => some []
  | .bl b :: ds => (boolsOf ds).bind fun bs => some (b :: bs)
  | _ :: _ => none
def asLs : List D → Option (List D)
  | [.lst ds] => some ds
  | [.seq ds] => some ds
  | _ => none
def gAll (as : List D) : Option D := (asLs as).bind fun ds => (boolsOf ds).bind fun bs => some (.bl (bs.all id))
theorem reps_bools {K : PySem.W.Frag} {H : Hp} : ∀ {vs : List V} {ds : List D} {bs : List Bool}, Reps K H vs ds → boolsOf ds = some bs → vs = bs.map V.bl
  | _, _, _, .nil, h => by cases h; rfl
  | v :: vs, d :: ds, bs, .cons r t, h => by
    cases d with
    | bl b =>
      obtain ⟨cs, h1, h2⟩ := Option.bind_eq_some_iff.mp (show ((boolsOf ds).bind fun bs => some (b :: bs)) = some bs from h)
      cases h2
      cases r
      rw [reps_bools t h1]
      rfl
    | _ => cases h
theorem vals_bools : ∀ {bs : List Bool} {us : List Value}, Vals (bs.map V.bl) us → LSm.BoolsAre us bs
  | [], _, .nil => .nil
  | b :: bs, u :: us, .cons r t => by
    have e : u = .bool b := r
    subst e
    exact .cons b (vals_bools t)
theorem call_all {X : Cx} (hc : X.calm = true) : CallR X (.builtin "all") (fun xs H Q => ∃ p ys, ∃ bs : List Bool, xs = [.ref p] ∧ SqL X.K H p ys ∧ ys = bs.map V.bl ∧ Q (.bl (bs.all id)) H) := by
  intro pins s σ H xs us Q I r h
  obtain ⟨p, ys, bs, rfl, hq, rfl, q⟩ := h
  obtain ⟨u, rfl, rx⟩ := vals1 r
  cases rx
  obtain ⟨its, r', pl, hz⟩ := I.list hq
  have hb := vals_bools r'
  have hlt : p < s.heap.objs.size := by obtain ⟨_, e, _⟩ := pl.isList; exact Heap.lt_size e
  refine call_all_walk (wpAny_pyIter_list pl.isList ?_)
  refine ⟨s.heap.objs.size, [s.heap.objs.size, p], [s.heap.objs.size], its.toArray.size, _, _, fun i => (bs[i]?).getD true, rfl, Walks.list (A := X.A.in1) (I.ok.hd hc) _ p (Nat.ne_of_lt hlt) its.toArray,
    ⟨⟨_, Heap.get?_push_size _ rfl, rfl, rfl⟩, pl.isList.push _⟩, fun i v s' Q' E' hP hQ => ?_, fun h' tk hk => ?_⟩
  · obtain ⟨b, e, rfl⟩ := hb.get i v (by simpa using hP)
    simp only [e, Option.getD_some] at hQ
    exact wpAny_truthy_bool hQ
  · have e : ((List.range its.toArray.size).all fun i => (bs[i]?).getD true) = bs.all id := by
      rw [List.size_toArray, hb.length]; exact LSm.range_all bs
    rw [e]
    exact ⟨.bl _, H, I.kept (t' := tk) (LSm.kept_iter hk), rfl, q⟩
theorem asLs_inv {K : PySem.W.Frag} {H : Hp} {xs : List V} {as ds : List D} (r : Reps K H xs as) (e : asLs as = some ds) : ∃ p ys, xs = [.ref p] ∧ SqL K H p ys ∧ Reps K H ys ds := by
  unfold asLs at e
  split at e
  · cases e
    obtain ⟨x, rfl, rx⟩ := reps1 r
    cases rx with
    | @lst p vs _ hp rp => exact ⟨p, vs, rfl, SqL.of hp, rp⟩
  · cases e
    obtain ⟨x, rfl, rx⟩ := reps1 r
    cases rx with
    | @seq p vs _ hp rp => exact ⟨p, vs, rfl, hp, rp⟩
  · cases e
theorem cd_all {K : PySem.W.Frag} : CallD K (fun xs H Q => ∃ p ys, ∃ bs : List Bool, xs = [.ref p] ∧ SqL K H p ys ∧ ys = bs.map V.bl ∧ Q (.bl (bs.all id)) H) gAll := by
  intro xs H Q as d r e k
  unfold gAll at e
  obtain ⟨ds, e1, e⟩ := Option.bind_eq_some_iff.mp e
  obtain ⟨bs, e2, e⟩ := Option.bind_eq_some_iff.mp e
  cases e
  obtain ⟨p, ys, h1, h2, h3⟩ := asLs_inv r e1
  exact ⟨p, ys, bs, h1, h2, reps_bools h3 e2, k _ H (Same.refl H) (.bl _)⟩
theorem boot_allB : bootBuiltins "all" = some (.builtin "all") := by decide +kernel
end Dl
namespace Dl
open PySem PySem.Spec PyProof.Rows L2
def asT : D → Option (List D)
  | .tup ds => some ds
  | _ => none
theorem same_sqT {K : PySem.W.Frag} {H H' : Hp} (s : Same H H') {a : Addr} {vs : List V} (h : SqT K H a vs) : SqT K H' a vs := sqT_keep (same_keepI s) h
theorem it_tup {K : PySem.W.Frag} {H1 : Hp} {a : Addr} {vs : List V} {ds : List D} (hq : SqT K H1 a vs) (r : Reps K H1 vs ds) : ItD K (Itt K a) H1 ds := by
  intro i H2 s
  have hq2 := same_sqT s hq
  have r2 := r.mono s
  have hl := r2.length
  refine ⟨fun hi => ⟨⟨vs, vs[i], hq2, by simp [show i < vs.length by omega]⟩, fun x H' y => ?_⟩, fun hi => ⟨vs, hq2, by omega⟩⟩
  obtain ⟨e, y⟩ := y
  subst e
  obtain ⟨d, h1, h2⟩ := r2.getV (y vs hq2)
  exact ⟨Same.refl _, d, h1, h2⟩
theorem pid_tup {X : Cx} {tg l : Expr} {f : FD} (hl : PD X l f) : PID X tg l (fun δ => (f δ).bind asT) := impI (pi_tup hl) fun σ H R ⟨δ, ds, R0, e, k⟩ => by
  obtain ⟨d, ed, e⟩ := Option.bind_eq_some_iff.mp e
  refine ⟨δ, d, R0, ed, fun v H1 s1 r1 => ?_⟩
  cases r1 with
  | @tup p vs es hp rp => cases e; exact ⟨p, rfl, ⟨vs, hp⟩, k _ H1 s1 (it_tup hp rp)⟩
  | _ => cases e
end Dl
namespace Dl
open PySem PySem.Spec PyProof.Rows L2
def rCatS (K : PySem.W.Frag) : R2 := fun x y H Q => ∃ l b xs zs, x = .ref l ∧ y = .ref b ∧ SqL K H l xs ∧ SqL K H b zs ∧ xs.length + zs.length ≤ sizeLine ∧ ∀ p, H p = none → Q (.ref p) (upd H p (.lst (xs ++ zs)))
theorem op_catS {X : Cx} : OpR X (binaryOp .Add) (rCatS X.K) := by
  intro pins s σ H x y v u Q I rx ry h
  obtain ⟨l, b, xs, zs, rfl, rfl, h1, h2, hz, q⟩ := h
  cases rx
  cases ry
  obtain ⟨vs, r1, p1, _⟩ := I.list h1
  obtain ⟨ws, r2, p2, _⟩ := I.list h2
  obtain ⟨⟨k1, g1, a1, t1⟩, n1, o1, c1, _, i1⟩ := p1
  obtain ⟨⟨k2, g2, a2, t2⟩, n2, o2, c2, _, i2⟩ := p2
  simp only at c1 i1 c2 i2
  subst c1 i1 c2 i2
  have hl := r1.length
  have hl2 := r2.length
  have ea : vs.toArray ++ ws.toArray = (vs ++ ws).toArray := by simp
  refine concat_meets ⟨_, o1, rfl⟩ ⟨_, o2, rfl⟩ noFill_list_add seq_list_add PySem.F.slot_list_add
    PySem.F.entry_list_add (PySem.F.args_list_add_2 _ _)
    (list_addW l b vs.toArray ws.toArray n1 n2 g1 g2 t1 t2 (by rw [List.size_toArray, List.size_toArray]; omega)) ⟨o1, o2, ?_⟩
  rw [ea]
  exact ⟨.ref _, _, I.lnew (t' := s.toks) (r1.append r2) (by rw [List.length_append]; omega), rfl, q _ I.fresh⟩
def gCatS (a b : D) : Option D := (asL a).bind fun xs => (asL b).bind fun ys => if xs.length + ys.length ≤ 1000 then some (.lst (xs ++ ys)) else none
def vCatS (fa fb : FD) : FM := fun δ => (f2 gCatS fa fb δ).bind fun d => lstImm d δ
theorem asL_rep {K : PySem.W.Frag} {H : Hp} {v : V} {d : D} {xs : List D} (r : Rep K H v d) (e : asL d = some xs) : ∃ p vs, v = .ref p ∧ SqL K H p vs ∧ Reps K H vs xs := by
  cases r with
  | @lst p vs es hp rp => cases e; exact ⟨p, vs, rfl, SqL.of hp, rp⟩
  | @seq p vs es hp rp => cases e; exact ⟨p, vs, rfl, hp, rp⟩
  | _ => cases e
theorem r2_catS {K : PySem.W.Frag} : R2D K (rCatS K) gCatS := by
  intro x y H Q a b d ra rb e k
  unfold gCatS at e
  obtain ⟨xs, e1, e⟩ := Option.bind_eq_some_iff.mp e
  obtain ⟨ys, e2, e⟩ := Option.bind_eq_some_iff.mp e
  split at e
  · rename_i hz
    cases e
    obtain ⟨p, vs, rfl, h1, h2⟩ := asL_rep ra e1
    obtain ⟨q, ws, rfl, h3, h4⟩ := asL_rep rb e2
    refine ⟨p, q, vs, ws, rfl, rfl, h1, h3, by rw [h2.length, h4.length]; exact le_line hz, fun l hl => ?_⟩
    have sn := same_new hl (.lst (vs ++ ws))
    exact k _ _ sn (.lst upd_same ((h2.append h4).mono sn))
  · cases e
theorem pd_catS {X : Cx} {a b : Expr} {fa fb : FD} {pos : Pos} (ha : PD X a fa) (hb : PD X b fb) : PD X (.BinOp a .Add b pos) (f2 gCatS fa fb) := pd_op op_catS r2_catS ha hb
theorem pv_catS {X : Cx} {a b : Expr} {fa fb : FD} {pos : Pos} (ha : PD X a fa) (hb : PD X b fb) : PV X (.BinOp a .Add b pos) (vCatS fa fb) := imp (pe_op op_catS ha hb) fun σ H Q ⟨F, δ, As, d, δ', RA, q, k⟩ => by
  unfold vCatS at q
  obtain ⟨d0, e0, q⟩ := Option.bind_eq_some_iff.mp q
  obtain ⟨ds, rfl, rfl, rfl, hi⟩ := lstImm_inv q
  unfold f2 at e0
  obtain ⟨x, ex, e0⟩ := Option.bind_eq_some_iff.mp e0
  obtain ⟨y, ey, e0⟩ := Option.bind_eq_some_iff.mp e0
  refine ⟨_, x, RA.toS, ex, fun v H1 s1 r1 => ⟨_, y, RA.toS.mono s1, ey, fun w H2 s2 r2 => ?_⟩⟩
  unfold gCatS at e0
  obtain ⟨xs, e1, e0⟩ := Option.bind_eq_some_iff.mp e0
  obtain ⟨ys, e2, e0⟩ := Option.bind_eq_some_iff.mp e0
  split at e0
  · rename_i hz
    cases e0
    obtain ⟨p, vs, rfl, h1, h2⟩ := asL_rep (r1.mono s2) e1
    obtain ⟨q, ws, rfl, h3, h4⟩ := asL_rep r2 e2
    exact ⟨p, q, vs, ws, rfl, rfl, h1, h3, by rw [h2.length, h4.length]; exact le_line hz, fun l hl => newImm RA (s1.trans s2) (h2.append h4) hi hl k⟩
  · cases e0
end Dl
namespace Dl
open PySem PySem.Spec PyProof.Rows L2
theorem RepA.side {K : PySem.W.Frag} {F H : Hp} {σ : L2.St} {δ : DS} {As : Nat → List Addr} (R : RepA K F H σ δ As) {a : Addr} {vs ws : List V} (h : H a = some (.lst vs)) (n : F a = none) (dj : ∀ i, a ∉ As i) : RepA K F (upd H a (.lst ws)) σ δ As := by
  have ne : ∀ x, x ≠ a → upd H a (.lst ws) x = H x := fun x hx => upd_ne hx
  refine ⟨fun x u e => ?_, R.len, fun i d q => ?_, R.non, R.nd, R.dj⟩
  · have hx : x ≠ a := fun z => by rw [z, n] at e; cases e
    rw [ne x hx]
    exact R.fz x u e
  · obtain ⟨v, h1, h2⟩ := R.val i d q
    refine ⟨v, h1, h2.frame (fun x u e k => ?_) fun x m => ne x fun z => dj i (z ▸ m)⟩
    have hx : x ≠ a := fun z => by rw [z, h] at e; cases e; exact nomatch (show true = false from k)
    rw [ne x hx]
    exact e
def sAppX (fo : FM) (fe : FD) : SD := fun δ => (fo δ).bind fun p => match p.1 with
  | .lst ds => (fe p.2).bind fun _ => if ds.length ≤ 999 then some (.nx p.2) else none
  | _ => none
theorem pm_appX {X : Cx} {c : Expr} {fo : FM} {fe : FD} {pos : Pos} (hc : PE X c (tBM X.K "list" rAppend (upV X.K fo) (tCons (up X.K fe) tNil))) (hs : swapsWith c none pos.line X.env = pure false := by rfl) : PMD X (.Expr c pos) (sAppX fo fe) := impS (ps_expr hc hs) fun E σ H ⟨F, δ, r, ⟨As, R⟩, q, k⟩ => by
  unfold sAppX at q
  obtain ⟨⟨d, δ'⟩, ed, q⟩ := Option.bind_eq_some_iff.mp q
  dsimp only at q
  split at q
  · rename_i ds
    obtain ⟨d1, e1, q⟩ := Option.bind_eq_some_iff.mp q
    split at q
    · rename_i hz
      cases q
      refine ⟨F, δ, As, _, δ', R, ed, fun v F' H' A As' ev R' r' => ?_⟩
      cases r' with
      | imm i _ => rw [Dl.imm] at i; cases i
      | @lst a vs _ A0 h n ro =>
        refine ⟨.inl ⟨rfl, _, SqL.of h⟩, δ', d1, R'.toS, e1, fun w H2 s2 r2 => ?_⟩
        have h2 : H2 a = some (.lst vs) := s2 a _ h
        refine ⟨a, vs, w, rfl, rfl, h2, Nat.lt_of_le_of_lt (by rw [ro.length]; exact hz) (small1000 (show 999 ≤ 1000 by decide)), ?_⟩
        exact k σ F' _ ev.fs ⟨As', (R'.grow s2).side h2 n fun i m => ev.dj i a m List.mem_cons_self⟩
    · cases q
  · cases q
end Dl
namespace Dl
open PySem PySem.Spec PyProof.Rows L2
structure CompG (X : Cx) (scope : Scope) (cl : List (Str × Addr)) (T N : List Str) (js : List Nat) : Prop where
  clos : closureFor scope X.env = pure cl
  nocell : ∀ y ∈ scope.names, y.2 ≠ .cell
  kind : scope.kind = .function
  names : ∀ y ∈ scope.names, y.2 = .local → scope.names.lookup y.1 = some .local
  nd : N.Nodup
  len : N.length = T.length + js.length
  clx : ∀ y, T.contains y = true → cl.lookup y = none
  cls : ∀ y c, cl.lookup y = some c → X.env.cells.lookup y = some c
  has : ∀ y, ((relabel scope X.env).names.lookup y = some .cell ∨ (relabel scope X.env).names.lookup y = some .free) → ∃ c, cl.lookup y = some c
  fr : ∀ i y j, N[T.length + i]? = some y → js[i]? = some j → X.N[j]? = some y ∧ X.env.scope.names.lookup y = some .cell ∧ (relabel scope X.env).names.lookup y = some .cell ∧ ∀ c, X.env.cells.lookup y = some c → cl.lookup y = some c
abbrev cxCompG (X : Cx) (scope : Scope) (cl : List (Str × Addr)) (T N : List Str) (C : Addr) (s₂ : Shared) (H₂ : Hp) (fp : List Addr) (pn : List (Addr × Obj)) : Cx :=
  { X with env := compEnvC scope cl C X.env, N := N, s₀ := s₂, H₀ := H₂, outer := X.stack, stack := X.stack, ex := fp, fn := fun y => T.contains y, calm := true, pn := pn, xe := fun _ _ => False }
theorem lookup_mem {y : Str} : ∀ {cl : List (Str × Addr)}, y ∈ cl.map (·.1) → ∃ c, cl.lookup y = some c
  | [], h => by cases h
  | (z, c) :: cl, h => by
    by_cases hy : y = z
    · subst hy
      exact ⟨c, by simp⟩
    · have q : (y == z) = false := beq_eq_false_iff_ne.mpr hy
      rw [List.lookup_cons, q]
      refine lookup_mem ?_
      rcases List.mem_cons.mp h with e | e
      · exact absurd e hy
      · exact e
theorem CompG.of {X : Cx} {scope : Scope} {cl : List (Str × Addr)} {T Z Y : List Str} {js : List Nat} (clos : closureFor scope X.env = pure cl := by rfl) (hY : cl.map (·.1) = Y := by rfl) (nocell : ∀ y ∈ scope.names, y.2 ≠ .cell := by decide +kernel) (kind : scope.kind = .function := by rfl)
    (names : ∀ y ∈ scope.names, y.2 = .local → scope.names.lookup y.1 = some .local := by decide +kernel) (nd : (T ++ Z).Nodup := by decide +kernel) (len : Z.length = js.length := by rfl) (dis : ∀ y ∈ T, y ∉ Y := by decide +kernel)
    (hcl : ∀ p ∈ cl, X.env.cells.lookup p.1 = some p.2) (hfr : ∀ p ∈ scope.names, p.2 = .free → p.1 ∈ Y := by decide +kernel) (hZ : ∀ y ∈ Z, y ∈ Y := by decide +kernel)
    (hN : ∀ (i : Nat) y j, Z[i]? = some y → js[i]? = some j → X.N[j]? = some y ∧ X.env.scope.names.lookup y = some .cell ∧ (relabel scope X.env).names.lookup y = some .cell) : CompG X scope cl T (T ++ Z) js where
  clos := clos
  nocell := nocell
  kind := kind
  names := names
  nd := nd
  len := by rw [List.length_append, len]
  clx := fun y hy => by
    cases q : cl.lookup y with
    | none => rfl
    | some c =>
      have m : y ∈ Y := by
        rw [← hY]
        exact List.mem_map.mpr ⟨_, PySem.mem_of_lookup q, rfl⟩
      exact absurd m (dis y (List.contains_iff_mem.mp hy))
  cls := fun y c h => hcl _ (PySem.mem_of_lookup h)
  has := fun y h => by
    obtain ⟨p, m, f, rfl⟩ := free_of nocell h
    exact lookup_mem (by rw [hY]; exact hfr p m f)
  fr := fun i y j h1 h2 => by
    rw [List.getElem?_append_right (Nat.le_add_right _ _), Nat.add_sub_cancel_left] at h1
    obtain ⟨a, b, c⟩ := hN i y j h1 h2
    refine ⟨a, b, c, fun e he => ?_⟩
    obtain ⟨e', he'⟩ := lookup_mem (cl := cl) (y := y) (by rw [hY]; exact hZ y (List.mem_of_getElem? h1))
    have := hcl _ (PySem.mem_of_lookup he')
    dsimp only at this
    rw [he] at this
    cases this
    exact he'
def PIfs (X : Cx) (ifs : List Expr) (f : FT) : Prop := ∀ (pins : List (Addr × Obj)) (s : Shared) (σ : L2.St) (H : Hp) (Q : Bool → Hp → Prop), L2.Inv X pins σ H s → upT X.K f σ H Q →
  wpAny (model X.prog X.w) X.A (forIn ifs true fun c r => if r = true then do let ok ← isTrue c X.env (eval c X.env); pure (ForInStep.yield ok) else pure (ForInStep.yield r)) (TP X pins σ Q) X.xe s
theorem pif_nil {X : Cx} : PIfs X [] (fun _ => some true) := fun pins s σ H Q I ⟨δ, b, R, e, k⟩ => by
  cases e
  exact wpAny_tests_nil ⟨H, I, k H (Same.refl H)⟩
def gDs (is : List Nat) : D → DS → Option DS := fun d δ => match d with
  | .tup ds => if ds.length = is.length then some (setO is ds δ) else none
  | _ => none
theorem namesD {K : PySem.W.Frag} {H : Hp} : ∀ (is : List Nat) {vs : List V} {ds : List D} {σ : L2.St} {δ : DS} {Q : L2.St → Hp → Prop}, Reps K H vs ds → RepS K H σ δ → ds.length = is.length → (∀ σ', RepS K H σ' (setO is ds δ) → Q σ' H) → tNames is vs σ H Q
  | [], _, _, σ, δ, Q, .nil, R, _, k => ⟨rfl, k σ R⟩
  | [], _, _, _, _, _, .cons _ _, _, l, _ => by cases l
  | _ :: _, _, _, _, _, _, .nil, _, l, _ => by cases l
  | i :: is, _, _, σ, δ, Q, .cons (v := v) (vs := vs) r t, R, l, k => ⟨v, vs, rfl, namesD is t (R.set i r) (by simpa using l) k⟩
theorem pgd_tup {X : Cx} {es : List Expr} {k : Nat} {pos : Pos} (is : List Nat) (hg : PG X (.Tuple es k pos) (gTup X.K is.length (tNames is))) : PGD X (.Tuple es k pos) (gDs is) := fun pins s σ H v u Q I r ⟨d, δ, δ', rv, R, e, q⟩ => by
  unfold gDs at e
  split at e
  · rename_i ds
    split at e
    · rename_i hl
      cases e
      cases rv with
      | tup hs rs => exact hg pins s σ H _ u Q I r ⟨_, _, rfl, hs, rs.length.trans hl, namesD is rs R hl q⟩
    · cases e
  · cases e
def Kept (δ δ' : DS) : Prop := δ'.length = δ.length ∧ ∀ (i : Nat) d, δ[i]? = some (some d) → δ'[i]? = some (some d)
theorem RepS.weak {K : PySem.W.Frag} {H : Hp} {σ : L2.St} {δ δ' : DS} (R : RepS K H σ δ') (w : Kept δ δ') : RepS K H σ δ := ⟨R.len.trans w.1, fun i d q => R.val i d (w.2 i d q)⟩
def noneTo (n : Nat) (δ : DS) : DS := List.replicate n none ++ δ
theorem setO_kept : ∀ (is : List Nat) (ds : List D) {n : Nat} {δ0 δ : DS}, (∀ i ∈ is, i < n) → Kept (noneTo n δ0) δ → Kept (noneTo n δ0) (setO is ds δ)
  | [], _, _, _, _, _, k => k
  | _ :: _, [], _, _, _, _, k => k
  | i :: is, d :: ds, n, δ0, δ, hi, k => setO_kept is ds (fun j m => hi j (List.mem_cons_of_mem _ m)) ⟨by rw [List.length_set]; exact k.1, fun j e q => by
    have hj : n ≤ j := Nat.le_of_not_lt fun hlt => by
      unfold noneTo at q
      rw [List.getElem?_append_left (by simpa using hlt), List.getElem?_replicate, if_pos hlt] at q
      cases q
    have := hi i List.mem_cons_self
    rw [List.getElem?_set_ne (by omega)]
    exact k.2 j e q⟩
def Fills (n : Nat) (g : D → DS → Option DS) : Prop := ∀ d δ0 δ1, g d (noneTo n δ0) = some δ1 → Kept (noneTo n δ0) δ1
theorem fills_ds {n : Nat} (is : List Nat) (h : ∀ i ∈ is, i < n) : Fills n (gDs is) := fun d δ0 δ1 e => by
  unfold gDs at e
  split at e
  · split at e
    · cases e
      exact setO_kept is _ h ⟨rfl, fun _ _ q => q⟩
    · cases e
  · cases e
def mapF (f : D → Option (Option D)) : List D → Option (List D)
  | [] => some []
  | d :: ds => (f d).bind fun o => (mapF f ds).bind fun xs => some (o.toList ++ xs)
theorem mapF_app {f : D → Option (Option D)} : ∀ {ds es : List D} {xs ys : List D}, mapF f ds = some xs → mapF f es = some ys → mapF f (ds ++ es) = some (xs ++ ys)
  | [], es, xs, ys, h, g => by cases h; exact g
  | d :: ds, es, xs, ys, h, g => by
    obtain ⟨o, eo, h⟩ := Option.bind_eq_some_iff.mp (show ((f d).bind _) = some xs from h)
    obtain ⟨zs, ez, h⟩ := Option.bind_eq_some_iff.mp h
    cases h
    show ((f d).bind _) = _
    rw [eo]
    show ((mapF f (ds ++ es)).bind _) = _
    rw [mapF_app ez g, List.append_assoc]
    rfl
theorem mapF_take {f : D → Option (Option D)} : ∀ {ds xs : List D}, mapF f ds = some xs → ∀ i, ∃ ys, mapF f (ds.take i) = some ys ∧ ys.length ≤ xs.length
  | [], xs, h, i => ⟨[], by simp [mapF], Nat.zero_le _⟩
  | d :: ds, xs, h, 0 => ⟨[], rfl, Nat.zero_le _⟩
  | d :: ds, xs, h, i + 1 => by
    obtain ⟨o, eo, h⟩ := Option.bind_eq_some_iff.mp (show ((f d).bind _) = some xs from h)
    obtain ⟨zs, ez, h⟩ := Option.bind_eq_some_iff.mp h
    cases h
    obtain ⟨ys, e, l⟩ := mapF_take ez i
    refine ⟨o.toList ++ ys, ?_, by simp; exact l⟩
    show ((f d).bind _) = _
    rw [eo]
    show ((mapF f (ds.take i)).bind _) = _
    rw [e]
    rfl
theorem mapF_at {f : D → Option (Option D)} : ∀ {ds xs : List D}, mapF f ds = some xs → ∀ (i : Nat) d, ds[i]? = some d → ∃ o, f d = some o
  | [], _, _, i, d, e => by simp at e
  | d :: ds, xs, h, 0, d', e => by
    obtain ⟨o, eo, h⟩ := Option.bind_eq_some_iff.mp (show ((f d).bind _) = some xs from h)
    simp at e
    subst e
    exact ⟨o, eo⟩
  | d :: ds, xs, h, i + 1, d', e => by
    obtain ⟨o, eo, h⟩ := Option.bind_eq_some_iff.mp (show ((f d).bind _) = some xs from h)
    obtain ⟨zs, ez, h⟩ := Option.bind_eq_some_iff.mp h
    exact mapF_at ez i d' (by simpa using e)
def turnG (n : Nat) (js : List Nat) (g : D → DS → Option DS) (fc : FT) (felt : FM) (δ : DS) (d : D) : Option (Option D) := (g d (noneTo n (slotsOf js δ))).bind fun δ1 => (fc δ1).bind fun b => if b then (ownOf felt (shO δ1)).map some else some none
def vCompG (src : FA) (n : Nat) (js : List Nat) (g : D → DS → Option DS) (fc : FT) (felt : FM) : FM := fun δ => (src δ).bind fun ds => (mapF (turnG n js g fc felt δ) ds).bind fun xs => if xs.length ≤ 1000 then some (.lst xs, δ) else none
theorem compLoop_tests {prog : Program} {w : World} {A : Around} {R : Result → Shared → Prop} {s : Shared} {elt target iter : Expr} {ifs : List Expr} {scope : Scope} {pos : Pos} {it acc : Value} {env : Env} (J : Nat → Shared → Prop)
    (turn : ∀ n s, J n s → wpAny (model prog w) A (pyNext it) (fun r s₁ => match r with
      | none => R (.ok .next) s₁
      | some v => wpAny (model prog w) A (letOwnedTupleGo target it v) (fun _ s₂ => wpAny (model prog w) A (assign target env v) (fun _ s₃ =>
          wpAny (model prog w) A (forIn ifs true fun c r => if r = true then do let ok ← isTrue c env (eval c env); pure (ForInStep.yield ok) else pure (ForInStep.yield r)) (fun ok sT =>
          if ok = true then wpAny (model prog w) A (eval elt env) (fun y s₄ =>
          wpAny (model prog w) A (call (.builtin "list.append") [acc, y]) (fun _ s₅ => ∃ m, m < n ∧ J m s₅) (fun _ _ => False) s₄) (fun _ _ => False) sT else ∃ m, m < n ∧ J m sT) (fun _ _ => False) s₃) (fun _ _ => False) s₂) (fun _ _ => False) s₁) (fun _ _ => False) s)
    (n : Nat) (h : J n s) : codeAny (model prog w) A (.compLoop (.ListComp elt [⟨target, iter, ifs, 0⟩] scope pos) 0 it acc env) R s := by
 refine codeAny_loop rfl J (fun n s j=>wpAny_noted (m:=compTurn (.ListComp elt [⟨target,iter,ifs,0⟩] scope pos) 0 it acc env) (compTurn_list elt target iter ifs scope pos it acc env▸wpAny_bind (wpAny_standAt (bindF (turn n s j) fun r _ q=>?_)))) n h
 cases r with
 | none=>exact wpAny_pure q
 | some v=>
  exact bindF q fun _ _ q=>bindF q fun _ _ q=>bindF q fun b _ q=>by
   cases b with
   | false=>exact wpAny_pure ⟨rfl,q⟩
   | true=>exact wpAny_bind (bindF q fun _ _ q=>bindF q fun _ _ q=>wpAny_pure (wpAny_pure ⟨rfl,q⟩))
section
variable {X : Cx} {pins : List (Addr × Obj)} {σ : L2.St} {H₂ : Hp} {s₂ : Shared} {scope : Scope} {cl : List (Str × Addr)} {T N : List Str} {js : List Nat} {C : Addr} {fp : List Addr}
theorem compOk_cxG (I : L2.Inv X pins σ H₂ s₂) (hcm : X.calm = true) (O : CompG X scope cl T N js) (hC : s₂.heap.objs.size ≤ C) (hf : ∀ b ∈ fp, FpOk X pins H₂ b) (ho : ∀ b ∈ fp, ∃ o, s₂.heap.get? b = some o) : (cxCompG X scope cl T N C s₂ H₂ fp (X.pn ++ pins)).Ok where
  mod := I.ok.mod
  kind := O.kind
  glob := I.ok.glob
  blt := I.ok.blt
  above := hC
  inj := fun y z c h1 h2 => I.ok.inj y z c (O.cls y c h1) (O.cls z c h2)
  has := fun y h => O.has y h
  cab := fun y c h1 h2 => by
    have : cl.lookup y = some c := h2
    rw [O.clx y h1] at this
    cases this
  hd := fun _ => I.ok.hd hcm
  frames := I.ok.frames
  stk := .inl rfl
  exf := fun b hb => by
    obtain ⟨o, e⟩ := ho b hb
    refine ⟨Nat.ne_of_lt (Nat.lt_of_lt_of_le (Heap.lt_size e) hC), fun y c h z => ?_⟩
    exact (hf b hb).2.2.2.2.1 y c (O.cls y c h) z
  bs := I.bs
  bsz := Nat.le_trans I.ok.bsz I.sz
  noex := fun b o e hb => by
    rcases (hf b hb).2.2.2.1 with z | z
    · exact I.ok.noex b o e z
    · exact absurd (Nat.lt_of_lt_of_le (Heap.lt_size e) (Nat.le_trans I.ok.bsz z)) (Nat.lt_irrefl _)
  exfs := fun b hb z => by
    rcases List.mem_cons.mp (I.stkSub b z) with e | e
    · exact (hf b hb).2.1 e
    · exact (hf b hb).2.2.1 e
  funs := I.stack
  frf := I.stkFree
theorem comp_startG {h₁ : Heap} {m : Str → Option Value} {tk : Nat} (I : L2.Inv X pins σ H₂ s₂) (hcm : X.calm = true) (O : CompG X scope cl T N js) (hC : s₂.heap.objs.size ≤ C) (hf : ∀ b ∈ fp, FpOk X pins H₂ b) (ho : ∀ b ∈ fp, ∃ o, s₂.heap.get? b = some o)
    (old : ∀ b o, s₂.heap.get? b = some o → h₁.get? b = some o) (hns : h₁.Ns C m) (hl : σ.length = X.N.length) : L2.Inv (cxCompG X scope cl T N C s₂ H₂ fp (X.pn ++ pins)) [] (List.replicate T.length none ++ slotsV js σ) H₂ { s₂ with heap := h₁, toks := tk } where
  ok := compOk_cxG I hcm O hC hf ho
  os := rfl
  bare := I.bare
  base := Un.kept old
  loc := by
    refine ⟨m, hns, fun i y v h1 h2 h3 => ?_⟩
    by_cases hi : i < T.length
    · rw [List.getElem?_append_left (by simpa using hi), List.getElem?_replicate, if_pos hi] at h2
      cases h2
    · obtain ⟨i, rfl⟩ : ∃ k, i = T.length + k := ⟨i - T.length, by omega⟩
      have h2' : (slotsV js σ)[i]? = some (some v) := by
        rw [List.getElem?_append_right (by simp)] at h2
        simpa using h2
      unfold slotsV at h2'
      rw [List.getElem?_map] at h2'
      obtain ⟨j, hj, h4⟩ := Option.map_eq_some_iff.mp h2'
      have h5 : σ[j]? = some (some v) := by
        cases q : σ[j]? with
        | none => rw [q] at h4; cases h4
        | some o => rw [q] at h4; exact congrArg some h4
      obtain ⟨f1, f2, f3, f4⟩ := O.fr i y j h1 hj
      obtain ⟨m', hn', hl'⟩ := I.loc
      obtain ⟨u, ru, lk⟩ := hl' j y v f1 h5 (.inr (.inl f2))
      refine ⟨u, ru, ?_⟩
      rcases lk with ⟨k1, _⟩ | ⟨_, c, hc, o, hco, hcd⟩
      · have : X.env.scope.names.lookup y = some .local := k1
        rw [f2] at this
        cases this
      · exact .inr ⟨.inl f3, c, f4 c hc, o, old c o hco, hcd⟩
  cell := fun y c e => by
    obtain ⟨v, o, h1, h2⟩ := I.cell y c (O.cls y c e)
    exact ⟨v, o, old c o h1, h2⟩
  free := I.hok.fresh hC
  freeC := fun y c e => I.freeC y c (O.cls y c e)
  pin := fun p hp => by
    have hp' : p ∈ X.pn ++ pins := by simpa using hp
    obtain ⟨h1, h2, h3, h4, h5⟩ := I.pin p hp'
    refine ⟨old _ _ h1, h2, Nat.ne_of_lt (Nat.lt_of_lt_of_le (Heap.lt_size h1) hC), fun z => ?_, h5⟩
    rcases List.mem_cons.mp (I.stkSub p.1 z) with e | e
    · exact h3 e
    · exact h4 e
  hok := I.hok.kept old
  len := by
    show (List.replicate T.length none ++ slotsV js σ).length = N.length
    rw [O.len]
    simp [slotsV]
theorem slots_repG {K : PySem.W.Frag} {H : Hp} {σ : L2.St} {δ : DS} (R : RepS K H σ δ) (n : Nat) (js : List Nat) : RepS K H (List.replicate n none ++ slotsV js σ) (noneTo n (slotsOf js δ)) := by
  refine ⟨by simp [slotsV, slotsOf, noneTo], fun i d q => ?_⟩
  unfold noneTo at q
  by_cases hi : i < n
  · rw [List.getElem?_append_left (by simpa using hi), List.getElem?_replicate, if_pos hi] at q
    cases q
  · obtain ⟨k, rfl⟩ : ∃ k, i = n + k := ⟨i - n, by omega⟩
    rw [List.getElem?_append_right (by simp)] at q ⊢
    have q' : (none :: slotsOf js δ)[k + 1]? = some (some d) := by simpa using q
    obtain ⟨v, h1, h2⟩ := (slots_rep R js).val (k + 1) d q'
    exact ⟨v, by simpa using h1, h2⟩
theorem comp_blockG {elt tg iter : Expr} {ifs : List Expr} {pos : Pos} {it : Addr} {tn : Nat → Heap → Prop} {J : It} {ds xs : List D} {δ : DS} {g : D → DS → Option DS} {fc : FT} {felt : FM} {RR : Value → Addr → Result → Shared → Prop} {E : Value → Shared → Prop} (I : L2.Inv X pins σ H₂ s₂) (hcm : X.calm = true) (O : CompG X scope cl T N js)
    (TT : Turn X.prog X.w X.K tg J fp it tn) (st : tn 0 s₂.heap) (hf : ∀ b ∈ fp, FpOk X pins H₂ b) (itd : ItD X.K J H₂ ds) (R : RepS X.K H₂ σ δ) (hg : ∀ C s₂ H₂ fp pn, PGD (cxCompG X scope cl T N C s₂ H₂ fp pn) tg g) (fl : Fills T.length g) (hc : ∀ C s₂ H₂ fp pn, PIfs (cxCompG X scope cl T N C s₂ H₂ fp pn) ifs fc) (he : ∀ C s₂ H₂ fp pn, PV (cxCompG X scope cl T N C s₂ H₂ fp pn) elt felt)
    (hm : mapF (turnG T.length js g fc felt δ) ds = some xs) (hz : xs.length ≤ 1000)
    (hRR : ∀ (D C : Addr) (s' : Shared) (Hend : Hp) (vs : List V), s₂.heap.objs.size ≤ C → L2.Inv X pins σ Hend s' → Same H₂ Hend → Hend D = some (.lst vs) → (∃ Acc, RepOs X.K H₂ Hend vs xs Acc ∧ Acc.Nodup ∧ D ∉ Acc ∧ H₂ D = none) → (∃ m, s'.heap.Ns C m) → Hend C = none → RR (.ref D) C (.ok .next) s') :
    wpAny (model X.prog X.w) X.A (newList []) (fun acc s₃ => wpAny (model X.prog X.w) X.A (newFunctionEnv scope X.env.globals cl [] X.env.qual none .none (some X.env)) (fun cenv s₄ =>
      codeAny (model X.prog X.w) X.A (.compStart (.ListComp elt [⟨tg, iter, ifs, 0⟩] scope pos) 0 (.ref it) acc { cenv with scope := relabel scope X.env }) (RR acc cenv.locals) s₄) E s₃) E s₂ := by
  have objs := TT.obj 0 s₂.heap st
  have objs' : ∀ b ∈ fp, ∃ o, s₂.heap.get? b = some o := fun b hb => let ⟨o, h, _⟩ := objs b hb; ⟨o, h⟩
  refine wpAny_newObj_type (wpAny_newFunctionEnv O.nocell (by intro y hy; simp at hy) (fun h₁ hns₁ hsb₁ => ?_) O.kind)
  dsimp only at hns₁ hsb₁ ⊢
  generalize hP : s₂.heap.push { cls := .type "list", dict := none, data := .seq ([] : List Value).toArray } = P2 at hns₁ hsb₁ ⊢
  have hC : P2.objs.size = s₂.heap.objs.size + 1 := by rw [← hP, Heap.size_push]
  generalize hCC : P2.objs.size = C at *
  have hCle : s₂.heap.objs.size ≤ C := by omega
  have hDle : s₂.heap.objs.size ≤ s₂.heap.objs.size := by omega
  have hDC : s₂.heap.objs.size ≠ C := by omega
  have old : ∀ b o, s₂.heap.get? b = some o → h₁.get? b = some o := fun b o e => by
    refine hsb₁.extBut b o (Nat.ne_of_lt (Nat.lt_of_lt_of_le (Heap.lt_size e) hCle)) (Heap.get?_push_of_some _ ?_)
    rw [← hP]
    exact Heap.get?_push_of_some _ e
  have hacc : h₁.get? s₂.heap.objs.size = some { cls := .type "list", data := .seq ([] : List Value).toArray } := by
    refine hsb₁.extBut s₂.heap.objs.size _ hDC (Heap.get?_push_of_some _ ?_)
    rw [← hP]
    exact Heap.get?_push_size _ rfl
  have I0 := fun tk => comp_startG (C := C) (tk := tk) I hcm O hCle hf objs' old hns₁ I.len
  have dstk : s₂.heap.objs.size ∉ frs X.stack := notIn_stack I hDle
  have fne : ∀ b ∈ fp, b ≠ s₂.heap.objs.size := fun b hb e => by
    obtain ⟨o, h⟩ := objs' b hb
    exact absurd (Heap.lt_size h) (by rw [e]; exact Nat.lt_irrefl _)
  have cne : ∀ y c, cl.lookup y = some c → c ≠ s₂.heap.objs.size := fun y c e z => by
    obtain ⟨v, o, h1, _⟩ := I.cell y c (O.cls y c e)
    exact absurd (Heap.lt_size h1) (by rw [z]; exact Nat.lt_irrefl _)
  have pne : ∀ p ∈ X.pn ++ pins, p.1 ≠ s₂.heap.objs.size := fun p hp e => by
    exact absurd (Heap.lt_size (I.pin p hp).1) (by rw [e]; exact Nat.lt_irrefl _)
  have stat : ∀ {H' : Hp} {pl : List (Addr × Obj)}, (∀ b ∈ fp, H' b = none) → (∀ p ∈ pl, ∀ b ∈ fp, p.1 ≠ b) → ∀ b ∈ fp, FpOk (cxCompG X scope cl T N C s₂ H₂ fp (X.pn ++ pins)) pl H' b := fun {H' pl} hn hpl b hb => by
    obtain ⟨o, h⟩ := objs' b hb
    refine ⟨hn b hb, Nat.ne_of_lt (Nat.lt_of_lt_of_le (Heap.lt_size h) hCle), fun z => ?_, .inl hb, fun y c e => (hf b hb).2.2.2.2.1 y c (O.cls y c e), fun p hp => ?_⟩
    · rcases List.mem_cons.mp (I.stkSub b z) with e | e
      · exact (hf b hb).2.1 e
      · exact (hf b hb).2.2.1 e
    · rcases List.mem_append.mp hp with q | q
      · exact (hf b hb).2.2.2.2.2 p q
      · exact hpl p q b hb
  have loop : ∀ s₃ : Shared, s₃ = { s₂ with heap := h₁, toks := s₂.toks + ([] : List (Str × Value)).length } →
      codeAny (model X.prog X.w) X.A (.compLoop (.ListComp elt [⟨tg, iter, ifs, 0⟩] scope pos) 0 (.ref it) (.ref s₂.heap.objs.size) (compEnvC scope cl C X.env)) (RR (.ref s₂.heap.objs.size) C) s₃ := by
    rintro s₃ rfl
    refine compLoop_tests (fun n s => ∃ (i : Nat) (σ' : L2.St) (H' : Hp) (vs : List V) (ys : List D), n = ds.length - i ∧ i ≤ ds.length ∧ L2.Inv (cxCompG X scope cl T N C s₂ H₂ fp (X.pn ++ pins)) [] σ' H' s ∧ Same H₂ H' ∧ RepS X.K H' σ' (noneTo T.length (slotsOf js δ)) ∧ tn i s.heap ∧ (∀ b ∈ fp, H' b = none) ∧
      (∃ (its : List Value) (k : Nat), Vals vs its ∧ s.heap.get? s₂.heap.objs.size = some { cls := .type "list", data := .seq its.toArray k }) ∧ H' s₂.heap.objs.size = none ∧ (∃ Acc, RepOs X.K H₂ H' vs ys Acc ∧ Acc.Nodup) ∧ mapF (turnG T.length js g fc felt δ) (ds.take i) = some ys ∧ ys.length ≤ 1000) ?_ ds.length
      ⟨0, _, H₂, [], [], rfl, Nat.zero_le _, I0 _, Same.refl _, slots_repG R _ js, TT.keep 0 _ _ st (fun b hb o e => old b o e), fun b hb => (hf b hb).1, ⟨[], 0, .nil, hacc⟩, I.hok.fresh hDle, ⟨[], .nil, List.nodup_nil⟩, rfl, Nat.zero_le _⟩
    rintro n s ⟨i, σ', H', vs, ys, rfl, hi, I', sm, R', st', fr', ⟨its, k, rv, hD⟩, fD, ⟨Acc, rr, nda⟩, hys, hyl⟩
    by_cases hlt : i < ds.length
    · -- one more
      obtain ⟨go, yl⟩ := (itd i H' sm).1 hlt
      have hd0 : ds[i]? = some ds[i] := by simp [hlt]
      obtain ⟨oe, ge⟩ := mapF_at hm i _ hd0
      have hys1 : mapF (turnG T.length js g fc felt δ) (ds.take (i + 1)) = some (ys ++ oe.toList) := by
        have e8 : ds.take (i + 1) = ds.take i ++ [ds[i]] := by rw [List.take_add_one, hd0]; rfl
        rw [e8]
        refine mapF_app hys ?_
        show ((turnG T.length js g fc felt δ ds[i]).bind _) = _
        rw [ge]
        simp [mapF]
      have hyl1 : (ys ++ oe.toList).length ≤ 1000 := by
        obtain ⟨zs, ez, l⟩ := mapF_take hm (i + 1)
        rw [hys1] at ez
        cases ez
        omega
      unfold turnG at ge
      obtain ⟨δ1, eδ1, ge⟩ := Option.bind_eq_some_iff.mp ge
      obtain ⟨ok, eok, ge⟩ := Option.bind_eq_some_iff.mp ge
      have kp := fl _ _ _ eδ1
      have I1 : L2.Inv (cxCompG X scope cl T N C s₂ H₂ fp (X.pn ++ pins)) [(s₂.heap.objs.size, { cls := .type "list", data := .seq its.toArray k })] σ' H' s := I'.pins_of fun p hp => by
        have : p = (s₂.heap.objs.size, { cls := .type "list", data := .seq its.toArray k }) := by simpa using hp
        subst this
        exact ⟨hD, fD, hDC, dstk, fun v z => by cases z⟩
      refine thn (TT.item (cxCompG X scope cl T N C s₂ H₂ fp (X.pn ++ pins)) rfl rfl rfl rfl i _ s σ' H' (fun _ _ => False) I1 (stat fr' fun p hp b hb => by
        have : p = (s₂.heap.objs.size, { cls := .type "list", data := .seq its.toArray k }) := by simpa using hp
        subst this
        exact (fne b hb).symm) st' go) fun r s1 ⟨u, hr, h4⟩ => ?_
      subst hr
      refine thn h4 fun _ s2 ⟨y, H'', I2, ru, yy, st2, fr2⟩ => ?_
      obtain ⟨s3, d, hd, rd⟩ := yl y H'' yy
      have hd' : d = ds[i] := by rw [hd0] at hd; exact (Option.some.inj hd).symm
      subst hd'
      have I3 := I2.pinned (stat fr2 fun p hp b hb => by
        have : p = (s₂.heap.objs.size, { cls := .type "list", data := .seq its.toArray k }) := by simpa using hp
        subst this
        exact (fne b hb).symm) (TT.obj _ _ st2)
      refine thn (hg C s₂ H₂ fp (X.pn ++ pins) _ s2 σ' H'' y u (fun σ4 H4 => RepS X.K H4 σ4 δ1 ∧ H4 = H'') I3 ru ⟨_, _, δ1, rd, R'.mono s3, eδ1, fun σ4 r4 => ⟨r4, rfl⟩⟩) fun _ s4 ⟨σ4, H4, I4, R4, e2⟩ => ?_
      subst e2
      refine thn (hc C s₂ H₂ fp (X.pn ++ pins) _ s4 σ4 H4 (fun b H5 => b = ok ∧ Same H4 H5) I4 ⟨δ1, ok, R4, eok, fun H5 s5 => ⟨rfl, s5⟩⟩) fun okv sT ⟨HT, IT, hok', sT4⟩ => ?_
      have hDT : sT.heap.get? s₂.heap.objs.size = some { cls := .type "list", data := .seq its.toArray k } := (IT.pin (s₂.heap.objs.size, { cls := .type "list", data := .seq its.toArray k }) (by simp)).1
      have fDT : HT s₂.heap.objs.size = none := (IT.pin (s₂.heap.objs.size, { cls := .type "list", data := .seq its.toArray k }) (by simp)).2.1
      have RT : RepS X.K HT σ4 δ1 := R4.mono sT4
      have lz : its.length ≤ 1000 := by
        have := rv.length
        have := rr.len
        omega
      cases ok with
      | false =>
        cases ge
        rw [hok', if_neg (by decide)]
        have pf : ∀ b ∈ fp, ∀ ob, s2.heap.get? b = some ob → sT.heap.get? b = some ob ∧ HT b = none := fun b hb ob hob => by
          have := IT.pin (b, ob) (List.mem_append_right _ (List.mem_append_right _ (mem_pinsAt hb hob)))
          exact ⟨this.1, this.2.1⟩
        simp only [Option.toList_none, List.append_nil] at hys1
        refine ⟨ds.length - (i + 1), by omega, i + 1, σ4, HT, vs, ys, rfl, hlt, IT.pins_of (pins' := []) (fun p hp => by simp at hp), (sm.trans s3).trans sT4, RT.weak kp, ?_, ?_, ⟨its, k, rv, hDT⟩, fDT, ?_, hys1, hyl⟩
        · refine TT.keep _ _ _ st2 fun b hb ob hob => (pf b hb ob hob).1
        · intro b hb
          obtain ⟨ob, hob, _⟩ := TT.obj _ _ st2 b hb
          exact (pf b hb ob hob).2
        · refine ⟨Acc, rr.frame (same_keepI (s3.trans sT4)) (fun a m => ?_), nda⟩
          obtain ⟨⟨ws, e⟩, _⟩ := rr.dom a m
          rw [e]; exact (s3.trans sT4) a _ e
      | true =>
        rw [hok', if_pos rfl]
        obtain ⟨e, ge2, eo⟩ := Option.map_eq_some_iff.mp (show (ownOf felt (shO δ1)).map some = some oe from ge)
        subst eo
        refine thn (he C s₂ H₂ fp (X.pn ++ pins) _ sT σ4 HT (fun v H5 => Same HT H5 ∧ ∃ A, RepO X.K H₂ H5 v e A ∧ A.Nodup ∧ ∀ a ∈ A, HT a = none) IT (ownUp ge2 RT ((sm.trans s3).trans sT4))) fun wv s5 ⟨v, H5, I5, rw5, s45, A5, r5, nd5, fr5⟩ => ?_
        have hD5 : s5.heap.get? s₂.heap.objs.size = some { cls := .type "list", data := .seq its.toArray k } := (I5.pin (s₂.heap.objs.size, { cls := .type "list", data := .seq its.toArray k }) (by simp)).1
        have fD5 : H5 s₂.heap.objs.size = none := (I5.pin (s₂.heap.objs.size, { cls := .type "list", data := .seq its.toArray k }) (by simp)).2.1
        have pf : ∀ b ∈ fp, ∀ ob, s2.heap.get? b = some ob → s5.heap.get? b = some ob ∧ H5 b = none := fun b hb ob hob => by
          have := I5.pin (b, ob) (List.mem_append_right _ (List.mem_append_right _ (mem_pinsAt hb hob)))
          exact ⟨this.1, this.2.1⟩
        refine call_meets F.slot_list_append ⟨_, hD5, rfl⟩ F.entry_list_append (F.args_list_append_2 _ _) (PySem.list_append s₂.heap.objs.size its.toArray k wv (by rw [List.size_toArray]; exact le_line lz)) ⟨hD5, ?_⟩
        have q := PySem.IsL.update hD5 (fun a => a.push wv)
        have I6 : L2.Inv (cxCompG X scope cl T N C s₂ H₂ fp (X.pn ++ pins)) [] σ4 H5 { s5 with heap := s5.heap.update s₂.heap.objs.size (Obj.mapSeq fun a => a.push wv), toks := s5.toks } :=
          (I5.pins_of (pins' := []) fun p hp => by simp at hp).turned (it := s₂.heap.objs.size) (t' := s5.toks) (fun b ob hb hu => (Heap.get?_update_other s5.heap _ (Ne.symm hb)).trans hu) fD5 hDC (.inr hDle) cne (fun p hp => by
            rcases List.mem_append.mp hp with z | z
            · exact pne p z
            · simp at z)
        refine ⟨ds.length - (i + 1), by omega, i + 1, σ4, H5, vs ++ [v], ys ++ [e], rfl, hlt, I6, ((sm.trans s3).trans sT4).trans s45, (RT.mono s45).weak kp, ?_, ?_, ?_, fD5, ?_, hys1, hyl1⟩
        · refine TT.keep _ _ _ st2 fun b hb ob hob => ?_
          exact (Heap.get?_update_other s5.heap _ (Ne.symm (fne b hb))).trans (pf b hb ob hob).1
        · intro b hb
          obtain ⟨ob, hob, _⟩ := TT.obj _ _ st2 b hb
          exact (pf b hb ob hob).2
        · have hf7 : its.toArray.push wv = (its ++ [wv]).toArray := by simp
          rw [hf7] at q
          exact ⟨its ++ [wv], _, rv.append (.cons rw5 .nil), q⟩
        · exact accStep rr nda ((s3.trans sT4).trans s45) r5 nd5 fun a m => none_before (s3.trans sT4) (fr5 a m)
    · -- the end
      have hie : i = ds.length := by omega
      refine thn (TT.done (cxCompG X scope cl T N C s₂ H₂ fp (X.pn ++ pins)) rfl rfl rfl rfl i [(s₂.heap.objs.size, { cls := .type "list", data := .seq its.toArray k })] s σ' H' (fun _ _ => False) (I'.pins_of fun p hp => by
        have : p = (s₂.heap.objs.size, { cls := .type "list", data := .seq its.toArray k }) := by simpa using hp
        subst this
        exact ⟨hD, fD, hDC, dstk, fun v z => by cases z⟩) (stat fr' fun p hp b hb => by
        have : p = (s₂.heap.objs.size, { cls := .type "list", data := .seq its.toArray k }) := by simpa using hp
        subst this
        exact (fne b hb).symm) st' ((itd i H' sm).2 (by omega))) fun r s1 ⟨hr, I8⟩ => ?_
      subst hr
      have hD8 : s1.heap.get? s₂.heap.objs.size = some { cls := .type "list", data := .seq its.toArray k } := (I8.pin (s₂.heap.objs.size, { cls := .type "list", data := .seq its.toArray k }) (by simp)).1
      have hxs : ds.take i = ds := List.take_of_length_le (by omega)
      rw [hxs, hm] at hys
      cases hys
      have sn := same_new fD (.lst vs)
      have dn : ∀ b, ∀ u, H' b = some u → b ≠ s₂.heap.objs.size := fun b u z => ne_of_none z fD
      have un : Un (frs X.stack) fp H₂ (upd H' s₂.heap.objs.size (.lst vs)) s₂.heap s1.heap := by
        have b0 := I8.base
        refine ⟨fun b ob e n1 n2 n3 => b0.keep b ob e n1 n2 n3, fun b ob e n1 n2 n3 => b0.slot b ob e n1 n2 n3, fun b ob e n1 n3 => ?_, fun b ob e n3 => b0.there b ob e n3, fun b zs e => ?_, fun b ob u e => ?_, fun b ps e => ?_⟩
        · rw [upd_ne (Nat.ne_of_lt (Heap.lt_size e))]
          exact b0.free b ob e n1 n3
        · have z := b0.tups b zs e
          rw [upd_ne (dn _ _ z)]
          exact z
        · have z := b0.frzs b ob u e
          rw [upd_ne (dn _ _ z)]
          exact z
        · obtain ⟨more, z⟩ := b0.tbls b ps e
          exact ⟨more, by rw [upd_ne (dn _ _ z)]; exact z⟩
      have hok : HOk X.prog X.w (upd H' s₂.heap.objs.size (.lst vs)) s1.heap := fun b u z => by
        by_cases hb : b = s₂.heap.objs.size
        · rw [hb] at z ⊢
          rw [upd_same] at z
          cases z
          exact ⟨le_line (by have := rr.len; omega), its, k, rv, hD8⟩
        · rw [upd_ne hb] at z
          exact (I8.hok b u z).stay (fun _ _ _ q => q) (fun c q => by rw [upd_ne (dn _ _ q)]; exact q) fun c ys q => by rw [upd_ne (dn _ _ q)]; exact q
      have IX : L2.Inv X pins σ (upd H' s₂.heap.objs.size (.lst vs)) s1 := I.call' I8.os un hok I8.bare fun b hb => ⟨(hf b hb).2.2.2.1, (hf b hb).2.1, (hf b hb).2.2.2.2.1, (hf b hb).2.2.2.2.2⟩
      obtain ⟨m8, hn8, _⟩ := I8.loc
      refine hRR s₂.heap.objs.size C s1 _ vs hCle IX (sm.trans sn) upd_same ⟨Acc, rr.frame (same_keepI sn) (fun a m => by
        obtain ⟨⟨ws, e⟩, _⟩ := rr.dom a m
        rw [e]; exact sn a _ e), nda, fun m => (by
        obtain ⟨⟨ws, e⟩, _⟩ := rr.dom _ m
        rw [fD] at e; cases e), I.hok.fresh hDle⟩ ⟨m8, hn8⟩ ?_
      rw [upd_ne (Ne.symm hDC)]
      exact I8.free
  exact codeAny_compStart_list (loop _ rfl) (TT.self X.A 0 _ _ _ (TT.keep 0 _ _ st (fun b hb o e => old b o e)) (loop _ rfl))
theorem mapF_owns {n : Nat} {js : List Nat} {g : D → DS → Option DS} {fc : FT} {f : FM} {δ : DS} : ∀ {ds xs : List D}, mapF (turnG n js g fc f δ) ds = some xs → owns xs = true
  | [], xs, h => by cases h; rfl
  | d :: ds, xs, h => by
    obtain ⟨o, eo, h⟩ := Option.bind_eq_some_iff.mp (show ((turnG n js g fc f δ d).bind _) = some xs from h)
    obtain ⟨ys, ey, h⟩ := Option.bind_eq_some_iff.mp h
    cases h
    unfold turnG at eo
    obtain ⟨δ1, _, eo⟩ := Option.bind_eq_some_iff.mp eo
    obtain ⟨b, _, eo⟩ := Option.bind_eq_some_iff.mp eo
    cases b with
    | false => cases eo; exact mapF_owns ey
    | true =>
      obtain ⟨e, ge, eo⟩ := Option.map_eq_some_iff.mp (show (ownOf f (shO δ1)).map some = some o from eo)
      subst eo
      show (own e && owns ys) = true
      rw [mapF_owns ey, Bool.and_true]
      unfold ownOf at ge
      obtain ⟨p, _, ge⟩ := Option.bind_eq_some_iff.mp ge
      split at ge
      · rename_i ho; cases ge; exact ho
      · cases ge
theorem pv_compG {elt tg iter : Expr} {ifs : List Expr} {pos : Pos} {src : FA} {g : D → DS → Option DS} {fc : FT} {felt : FM} (hi : PID X tg iter src) {T N : List Str} {js : List Nat} (hg : ∀ C s₂ H₂ fp pn, PGD (cxCompG X scope cl T N C s₂ H₂ fp pn) tg g) (fl : Fills T.length g) (hc : ∀ C s₂ H₂ fp pn, PIfs (cxCompG X scope cl T N C s₂ H₂ fp pn) ifs fc) (he : ∀ C s₂ H₂ fp pn, PV (cxCompG X scope cl T N C s₂ H₂ fp pn) elt felt) (O : CompG X scope cl T N js) (hcm : X.calm = true := by rfl)
    (hs : ∀ v, foldedSetIterable iter X.env v = pure v := by intro _; rfl) : PV X (.ListComp elt [⟨tg, iter, ifs, 0⟩] scope pos) (vCompG src T.length js g fc felt) := by
  intro pins s σ H Q I ⟨F, δ, As, d, δ', RA, q, k⟩
  have R := RA.toS
  unfold vCompG at q
  obtain ⟨ds, eds, q⟩ := Option.bind_eq_some_iff.mp q
  obtain ⟨xs, exs, q⟩ := Option.bind_eq_some_iff.mp q
  by_cases hz : xs.length ≤ 1000
  · rw [if_pos hz] at q
    cases q
    rw [eval_ListComp]
    refine wpAny_comprehension_free (use := none) rfl hs O.clos O.kind O.names ?_
    refine wpAny_mono (hi pins s σ H (fun J H1 => Same H H1 ∧ ItD X.K J H1 ds) I ⟨δ, ds, R, eds, fun J H1 s1 itd => ⟨s1, itd⟩⟩) (fun v s1 h1 => wpAny_mono h1 (fun itv s2 h2 => ?_) fun _ _ z => z) fun _ _ z => z
    obtain ⟨it, fp, tn, J, H2, rfl, I2, TT, st, hf, s1, itd⟩ := h2
    refine comp_blockG (RR := fun acc C => compPost (model X.prog X.w) X.A X.xe none (EP X pins σ Q) acc C) I2 hcm O TT st hf itd (R.mono s1) hg fl hc he exs hz ?_
    intro D C s' Hend vs hC IX sm hD rr ⟨m, hn⟩ fC
    exact ⟨m, hn, fun h' hs' => ⟨.ref D, Hend, inv_letgo IX I2 hC fC hs', rfl, compEnd RA k (mapF_owns exs) (s1.trans sm) s1 hD rr⟩⟩
  · rw [if_neg hz] at q; cases q
end
end Dl
namespace Dl
open PySem PySem.Spec PyProof.Rows L2
section
variable {X : Cx} {pins : List (Addr × Obj)} {σ : L2.St} {H : Hp} {s : Shared} {h' : Heap}
theorem turnL {t' : Nat} {ch : List Addr} (I : L2.Inv X pins σ H s) (k : ∀ b o, b ∉ ch → s.heap.get? b = some o → h'.get? b = some o) (hf : ∀ b ∈ ch, FpOk X pins H b) : L2.Inv X pins σ H { s with heap := h', toks := t' } := by
  have nit : ∀ b u, H b = some u → b ∉ ch := fun b u e m => by rw [(hf b m).1] at e; cases e
  refine I.step (g' := s.gens) (d' := s.drawn) (ch := ch) (fun b hb => ⟨(hf b hb).2.2.2.1, (hf b hb).2.1, (hf b hb).2.2.2.2.1, (hf b hb).2.2.2.2.2⟩) (fun b o _ _ hc e _ => k b o hc e) (fun b o _ _ hc e _ => ⟨o.slots, k b o hc e⟩) (fun _ _ _ _ n => n)
    (fun b o hc e => ⟨o, k b o hc e⟩) (fun _ _ e => e) (fun _ _ _ e => e) (fun b ps e => ⟨#[], by rw [e]; simp⟩) (fun m hm => ?_) (fun b u e => ?_) I.bare
  · obtain ⟨o, es, ep, ho, r⟩ := hm
    exact ⟨o, es, ep, k _ o (fun m => (hf _ m).2.1 rfl) ho, r⟩
  · refine (I.hok b u e).stay (fun c v hc q => k c v ?_ q) (fun _ q => q) fun _ _ q => q
    rcases hc with z | z
    · rw [z]; exact nit b u e
    · exact nit c _ z
theorem turnT {t' : Nat} {ch : List Addr} {a : Addr} {xs : List V} (I : L2.Inv X pins σ H s) (k : ∀ b o, b ∉ ch → s.heap.get? b = some o → h'.get? b = some o) (hf : ∀ b ∈ ch, FpOk X pins H b) (ha : s.heap.objs.size ≤ a) (new : ObjOk X.prog X.w (upd H a (.tup xs)) h' a (.tup xs)) : L2.Inv X pins σ (upd H a (.tup xs)) { s with heap := h', toks := t' } := by
  have fa : H a = none := I.hok.fresh ha
  have nit : ∀ b u, H b = some u → b ∉ ch := fun b u e m => by rw [(hf b m).1] at e; cases e
  have na : ∀ b u, H b = some u → b ≠ a := fun b u e z => by rw [z, fa] at e; cases e
  refine I.step (g' := s.gens) (d' := s.drawn) (ch := ch) (fun b hb => ⟨(hf b hb).2.2.2.1, (hf b hb).2.1, (hf b hb).2.2.2.2.1, (hf b hb).2.2.2.2.2⟩) (fun b o _ _ hc e _ => k b o hc e) (fun b o _ _ hc e _ => ⟨o.slots, k b o hc e⟩) (fun b o _ e n => ?_)
    (fun b o hc e => ⟨o, k b o hc e⟩) (fun b _ e => by rw [upd_ne (na b _ e)]; exact e) (fun b _ _ e => by rw [upd_ne (na b _ e)]; exact e) (fun b ps e => ⟨#[], by rw [upd_ne (na b _ e), e]; simp⟩) (fun m hm => ?_) (fun b u e => ?_) I.bare
  · rw [upd_ne (Nat.ne_of_lt (Nat.lt_of_lt_of_le (Heap.lt_size e) ha))]
    exact n
  · obtain ⟨o, es, ep, ho, r⟩ := hm
    exact ⟨o, es, ep, k _ o (fun m => (hf _ m).2.1 rfl) ho, r⟩
  · by_cases hb : b = a
    · subst hb
      rw [upd_same] at e
      cases e
      exact new
    · rw [upd_ne hb] at e
      refine (I.hok b u e).stay (fun c v hc q => k c v ?_ q) (fun c q => by rw [upd_ne (na c _ q)]; exact q) fun c ys q => by rw [upd_ne (na c _ q)]; exact q
      rcases hc with z | z
      · rw [z]; exact nit b u e
      · exact nit c _ z
end
def Itz (K : PySem.W.Frag) (a b : Addr) : It :=
  ⟨fun i H => ∃ xs ys x y, SqL K H a xs ∧ SqL K H b ys ∧ xs[i]? = some x ∧ ys[i]? = some y, fun i H v H' => ∃ p x y, v = .ref p ∧ H p = none ∧ H' = upd H p (.tup [x, y]) ∧ (∀ xs, SqL K H a xs → xs[i]? = some x) ∧ ∀ ys, SqL K H b ys → ys[i]? = some y,
    fun i H => ∃ xs ys, SqL K H a xs ∧ SqL K H b ys ∧ (xs.length ≤ i ∨ ys.length ≤ i)⟩
def ZipAt (z TI TO i1 i2 l1 l2 : Addr) (i : Nat) (h : Heap) : Prop := IsZip h z TI TO .none ∧ IsPair h TI (.ref i1) (.ref i2) ∧ (∃ a b, IsPair h TO a b) ∧ h.IsListIter i1 l1 i ∧ h.IsListIter i2 l2 i
theorem turn_zip {P : Program} {w : World} {K : PySem.W.Frag} {es : List Expr} {kt : Nat} {pt : Pos} {z TI TO i1 i2 l1 l2 : Addr} (D : ZipApart z TI TO i1 i2 l1 l2) : Turn P w K (.Tuple es kt pt) (Itz K l1 l2) [z, TI, TO, i1, i2] z (ZipAt z TI TO i1 i2 l1 l2) where
  mem := by simp
  obj := fun i h st b hb => by
    obtain ⟨hz, hTI, ⟨a, b', hTO⟩, ⟨o1, e1, _, d1⟩, ⟨o2, e2, _, d2⟩⟩ := st
    simp only [List.mem_cons, List.not_mem_nil, or_false] at hb
    rcases hb with rfl | rfl | rfl | rfl | rfl
    · exact ⟨_, hz, fun v q => by cases q⟩
    · exact ⟨_, hTI, fun v q => by cases q⟩
    · exact ⟨_, hTO, fun v q => by cases q⟩
    · exact ⟨_, e1, fun v q => by rw [d1] at q; cases q⟩
    · exact ⟨_, e2, fun v q => by rw [d2] at q; cases q⟩
  keep := fun i h h' st k => by
    obtain ⟨hz, hTI, ⟨a, b', hTO⟩, h1, h2⟩ := st
    exact ⟨k z (by simp) _ hz, k TI (by simp) _ hTI, ⟨a, b', k TO (by simp) _ hTO⟩, h1.at fun o e => k i1 (by simp) o e, h2.at fun o e => k i2 (by simp) o e⟩
  item := by
    intro X hP hw hK hc i pins s σ H E I hf st hg
    subst hP hw hK
    obtain ⟨xs, ys, x, y, hq1, hq2, hx, hy⟩ := hg
    obtain ⟨hz, hTI, ⟨a, b', hTO⟩, h1, h2⟩ := st
    obtain ⟨its, rv, p, _⟩ := I.list hq1
    obtain ⟨jts, rw', p', _⟩ := I.list hq2
    obtain ⟨u, hu, ru⟩ := rv.get hx
    obtain ⟨v, hv, rv2⟩ := rw'.get hy
    refine wpAny_pyNext_zip_item D hz hTI hTO h1 h2 p.isList p'.isList (x := u) (y := v) (by simpa using hu) (by simpa using hv) fun h' hz' hTO' h1' h2' hT hsz hk => ?_
    have fT : H s.heap.objs.size = none := I.hok.fresh (Nat.le_refl _)
    refine ⟨_, rfl, wpAny_letOwnedTupleGo_zip hz' fun h'' hz'' sb => ?_⟩
    have lt : ∀ b ∈ [z, TI, TO, i1, i2], b < s.heap.objs.size := fun b hb => by
      obtain ⟨o1, e1, _⟩ := h1
      obtain ⟨o2, e2, _⟩ := h2
      simp only [List.mem_cons, List.not_mem_nil, or_false] at hb
      rcases hb with rfl | rfl | rfl | rfl | rfl
      · exact Heap.lt_size hz
      · exact Heap.lt_size hTI
      · exact Heap.lt_size hTO
      · exact Heap.lt_size e1
      · exact Heap.lt_size e2
    have zne : s.heap.objs.size ≠ z := Nat.ne_of_gt (lt z (by simp))
    have up : ∀ b o, b ≠ z → h'.get? b = some o → h''.get? b = some o := fun b o hb e => (sb.2 b hb).trans e
    have kk : ∀ b o, b ∉ [z, TI, TO, i1, i2] → s.heap.get? b = some o → h''.get? b = some o := fun b o hb e => by
      simp only [List.mem_cons, List.not_mem_nil, or_false, not_or] at hb
      exact up b o hb.1 (hk b o hb.1 hb.2.2.1 hb.2.2.2.1 hb.2.2.2.2 e)
    have hT2 : h''.get? s.heap.objs.size = some { cls := .type "tuple", data := .seq #[u, v] } := up _ _ zne hT
    refine ⟨.ref s.heap.objs.size, upd H s.heap.objs.size (.tup [x, y]), turnT (s := s) (h' := h'') (t' := s.toks) I kk hf (Nat.le_refl _) ⟨by show 2 ≤ sizeLine; decide, [u, v], .cons ru (.cons rv2 .nil), ⟨_, hT2, rfl, _, rfl⟩⟩, rfl, ⟨_, x, y, rfl, fT, rfl, fun zs q => by rw [I.list_inj q hq1]; exact hx, fun zs q => by rw [I.list_inj q hq2]; exact hy⟩, ⟨hz'', ?_, ⟨u, v, up _ _ D.TOz hTO'⟩, h1'.at fun o e => up _ o D.i1z e, h2'.at fun o e => up _ o D.i2z e⟩, fun b hb => ?_⟩
    · exact up _ _ D.TIz (hk TI _ D.TIz D.TITO D.TIi1 D.TIi2 hTI)
    · rw [upd_ne (Nat.ne_of_lt (lt b hb))]
      exact (hf b hb).1
  done := by
    intro X hP hw hK hc i pins s σ H E I hf st hg
    subst hP hw hK
    obtain ⟨xs, ys, hq1, hq2, hl⟩ := hg
    obtain ⟨hz, hTI, ⟨a, b', hTO⟩, h1, h2⟩ := st
    obtain ⟨its, rv, p, _⟩ := I.list hq1
    obtain ⟨jts, rw', p', _⟩ := I.list hq2
    have l1 := rv.length
    have l2 := rw'.length
    refine wpAny_pyNext_zip_end (I.ok.hd hc) D hz hTI hTO h1 h2 p.isList p'.isList (by
      rcases hl with h | h
      · exact .inl (by simp; omega)
      · exact .inr (by simp; omega)) fun h' hk => ⟨rfl, turnL (t' := s.toks) I (fun b o hb e => ?_) hf⟩
    simp only [List.mem_cons, List.not_mem_nil, or_false, not_or] at hb
    exact hk b o hb.1 hb.2.2.1 hb.2.2.2.1 hb.2.2.2.2 e
  self := fun _ _ _ _ _ st h => wpAny_pyIter_zip st.1 h
def iZip (K : PySem.W.Frag) (ta : TA) : TI := fun σ H R => ta σ H fun vs H1 => ∃ a b, vs = [.ref a, .ref b] ∧ (∃ xs, SqL K H1 a xs) ∧ (∃ ys, SqL K H1 b ys) ∧ R (Itz K a b) H1
theorem pi_zip {X : Cx} {es : List Expr} {kt : Nat} {pt : Pos} {a b : Expr} {ta : TA} {p pos : Pos} (hg : Gl X "zip") (hm : X.mg "zip" = none) (ha : PA X [a, b] ta) (hs : starEach [a, b] X.env = [(false, eval a X.env), (false, eval b X.env)] := by rfl) (hs2 : starEach [b] X.env = [(false, eval b X.env)] := by rfl) :
    PI X (.Tuple es kt pt) (.Call (.Name "zip" p) [a, b] [] pos) (iZip X.K ta) := by
  intro pins s σ H R I h
  refine Call_ (ld_blt I hg hm PyProof.Rows.boot_zip (PyProof.Rows.callWith_type1 (thn (ha pos pins s σ H _ I h) fun us s1 ⟨vs, H1, I1, r1, q1⟩ => ?_) (by rw [hs, hs2]) (by rw [hs2]; rfl)))
  obtain ⟨l1, l2, e, ⟨xs, hq1⟩, ⟨ys, hq2⟩, q⟩ := q1
  subst e
  cases r1 with
  | cons r rr =>
    cases rr with
    | cons r' rr =>
      cases rr
      cases r
      cases r'
      obtain ⟨its, rv, p, _⟩ := I1.list hq1
      obtain ⟨jts, rw', p', _⟩ := I1.list hq2
      have a1 : l1 < s1.heap.objs.size := by obtain ⟨_, e, _⟩ := p.isList; exact Heap.lt_size e
      have a2 : l2 < s1.heap.objs.size := by obtain ⟨_, e, _⟩ := p'.isList; exact Heap.lt_size e
      refine call_zip_2 p.isList p'.isList fun h' hz hTI hTO h1 h2 hsz hk => ?_
      refine wpAny_pyIter_zip hz ?_
      refine ⟨_, _, _, _, H1, rfl, I1.kept (t' := s1.toks) hk, turn_zip (PyProof.Rows.zipApart_new a1 a2), ⟨hz, hTI, ⟨_, _, hTO⟩, h1, h2⟩, fun b hb => ?_, q⟩
      have hb' : s1.heap.objs.size ≤ b := by
        simp only [List.mem_cons, List.not_mem_nil, or_false] at hb
        rcases hb with rfl | rfl | rfl | rfl | rfl <;> omega
      exact I1.fpOk hb' (I1.hok.fresh hb')
theorem it_zip {K : PySem.W.Frag} {H1 : Hp} {a b : Addr} {vs ws : List V} {ds es : List D} (hq : SqL K H1 a vs) (r : Reps K H1 vs ds) (hq' : SqL K H1 b ws) (r' : Reps K H1 ws es) : ItD K (Itz K a b) H1 (List.zipWith (fun d e => D.tup [d, e]) ds es) := by
  intro i H2 s
  have h1 := s.seq hq
  have h2 := s.seq hq'
  have l1 := r.length
  have l2 := r'.length
  rw [List.length_zipWith]
  refine ⟨fun hi => ⟨⟨vs, ws, vs[i]'(by omega), ws[i]'(by omega), h1, h2, by simp [show i < vs.length by omega], by simp [show i < ws.length by omega]⟩, fun x H' y => ?_⟩, fun hi => ⟨vs, ws, h1, h2, by omega⟩⟩
  obtain ⟨p, u, v, rfl, hp, rfl, yu, yv⟩ := y
  obtain ⟨d, hd, rd⟩ := r.getV (yu vs h1)
  obtain ⟨e, he, re⟩ := r'.getV (yv ws h2)
  have sn := same_new hp (.tup [u, v])
  refine ⟨sn, .tup [d, e], ?_, .tup (SqT.of upd_same) (.cons ((rd.mono s).mono sn) (.cons ((re.mono s).mono sn) .nil))⟩
  rw [List.getElem?_zipWith, hd, he]
def zipD (g : FA) : FA := fun δ => (g δ).bind fun xs => match xs with
  | [x, y] => (asL x).bind fun ds => (asL y).bind fun es => some (List.zipWith (fun d e => D.tup [d, e]) ds es)
  | _ => none
theorem asL_seq {K : PySem.W.Frag} {H : Hp} {v : V} {d : D} {ds : List D} (r : Rep K H v d) (e : asL d = some ds) : ∃ a vs, v = .ref a ∧ SqL K H a vs ∧ Reps K H vs ds := by
  cases r with
  | @lst p vs es hp rp => cases e; exact ⟨p, vs, rfl, SqL.of hp, rp⟩
  | @seq p vs es hp rp => cases e; exact ⟨p, vs, rfl, hp, rp⟩
  | _ => cases e
theorem pid_zip {X : Cx} {es : List Expr} {kt : Nat} {pt : Pos} {a b : Expr} {g : FA} {p pos : Pos} (hg : Gl X "zip") (hm : X.mg "zip" = none) (ha : PAD X [a, b] g) (hs : starEach [a, b] X.env = [(false, eval a X.env), (false, eval b X.env)] := by rfl) (hs2 : starEach [b] X.env = [(false, eval b X.env)] := by rfl) :
    PID X (.Tuple es kt pt) (.Call (.Name "zip" p) [a, b] [] pos) (zipD g) := impI (pi_zip hg hm ha hs hs2) fun σ H R ⟨δ, ds, R0, e, k⟩ => by
  unfold zipD at e
  obtain ⟨xs, exs, e⟩ := Option.bind_eq_some_iff.mp e
  match xs, exs, e with
  | [x, y], exs, e =>
    obtain ⟨us, eu, e⟩ := Option.bind_eq_some_iff.mp (show ((asL x).bind fun ds => (asL y).bind fun es => some (List.zipWith (fun d e => D.tup [d, e]) ds es)) = some ds from e)
    obtain ⟨ws, ew, e⟩ := Option.bind_eq_some_iff.mp e
    cases e
    refine ⟨δ, [x, y], R0, exs, fun vs H1 s1 r1 l => ?_⟩
    cases r1 with
    | cons r rr =>
      cases rr with
      | cons r' rr =>
        cases rr
        obtain ⟨p, vs, rfl, hq, rp⟩ := asL_seq r eu
        obtain ⟨p', vs', rfl, hq', rp'⟩ := asL_seq r' ew
        exact ⟨p, p', rfl, ⟨_, hq⟩, ⟨_, hq'⟩, k _ H1 s1 (it_zip hq rp hq' rp')⟩
end Dl
namespace Dl
open PySem PySem.Spec PyProof.Rows L2
def RPZ (X : Cx) (Z : L2.St → Prop) (E : Ends) (F : Hp) : Res → Prop
  | .nx δ => ∀ σ' F' H', Same F F' → RepM X.K F' H' σ' δ → Z σ' → E.nx σ' H'
  | .rt d => ∀ v F' H' A, Same F F' → Same F' H' → RepO X.K F' H' v d A → A.Nodup → E.rt v H'
  | .bk δ => ∀ σ' F' H', Same F F' → RepM X.K F' H' σ' δ → Z σ' → E.bk σ' H'
  | .ct δ => ∀ σ' F' H', Same F F' → RepM X.K F' H' σ' δ → Z σ' → E.ct σ' H'
  | .ex _ _ => False
  | .mk _ _ => False
theorem RPZ.mono {X : Cx} {Z : L2.St → Prop} {E : Ends} {F F1 : Hp} {r : Res} (s : Same F F1) (h : RPZ X Z E F r) : RPZ X Z E F1 r := by
  cases r with
  | nx δ => exact fun σ' F' H' s2 R => h σ' F' H' (s.trans s2) R
  | rt d => exact fun v F' H' A s2 => h v F' H' A (s.trans s2)
  | bk δ => exact fun σ' F' H' s2 R => h σ' F' H' (s.trans s2) R
  | ct δ => exact fun σ' F' H' s2 R => h σ' F' H' (s.trans s2) R
  | ex C δ => exact h
  | mk C δ => exact h
section
variable {X : Cx} {Z : L2.St → Prop} {st : Stmt} {rest : List Stmt} {s u : SD} {e : Expr} {fk fl : FD} {fm : FM} {c : FT} {pos : Pos}
end
section
variable {P : Program} {w : World} {K : PySem.W.Frag} {mg : Str → Option Value} {base : Heap}
end
end Dl
namespace Dl
open PySem PySem.Spec PyProof.Rows L2
theorem Ev.sub {F H F' H' : Hp} {As As' : Nat → List Addr} {A B : List Addr} (ev : Ev F H As F' H' As' A) (h : ∀ a ∈ B, a ∈ A) (nd : B.Nodup) : Ev F H As F' H' As' B :=
  ⟨ev.fs, ev.hs, ev.nf, ev.fa, fun a m => ev.fA a (h a m), nd, fun i a m z => ev.dj i a m (h a z)⟩
theorem Ev.grow {F H F' H' H1 : Hp} {As As' : Nat → List Addr} {A : List Addr} (ev : Ev F H As F' H' As' A) (s : Same H' H1) : Ev F H As F' H1 As' A :=
  ⟨ev.fs, ev.hs.trans s, ev.nf, ev.fa, ev.fA, ev.nd, ev.dj⟩
theorem vals_ints : ∀ {ns : List Int} {us : List Value}, Vals (ns.map V.int) us → PyProof.Rows.IntsAre us ns
  | [], _, .nil => .nil
  | n :: ns, _, .cons r t => by
    obtain ⟨tk, rfl⟩ := r
    exact .cons n tk (vals_ints t)
section
variable {X : Cx}
end
section
variable {K : PySem.W.Frag} {F H : Hp} {σ : L2.St} {δ : DS} {As : Nat → List Addr} {i : Nat} {x : D} {ds : List D}
end
section
variable {X : Cx} {pos : Pos} {c : Expr} {f : FD}
end
end Dl
namespace Dl
open PySem PySem.Spec PyProof.Rows L2
end Dl
namespace Dl
open PySem PySem.Spec PyProof.Rows L2
def lk (ks : List Int) (ds : List D) (k : Int) : Option D := ((ks.zip ds).find? fun p => decide (p.1 = k)).map (·.2)
def kz (ks : List Int) (vs : List V) : List (Key × V) := (ks.map Sum.inl).zip vs
section
variable {X : Cx} {a b : Expr} {fa fb : FD} {pos : Pos}
end
section
variable {K : PySem.W.Frag} {F H : Hp} {σ : L2.St} {δ : DS} {As : Nat → List Addr}
theorem RepO.md_inv {ks : List Int} {ds : List D} : ∀ {v : V} {d : D} {A : List Addr}, RepO K F H v d A → d = .md ks ds → ∃ a vs, v = .ref a ∧ A = [a] ∧ H a = some (.dK (kz ks vs)) ∧ F a = none ∧ ks.length = ds.length ∧ imms ds = true ∧ Reps K H vs ds
  | _, _, _, .imm i _, e => by subst e; rw [Dl.imm] at i; cases i
  | _, _, _, .shr _, e => nomatch e
  | _, _, _, .shm _, e => nomatch e
  | _, _, _, .shf _, e => nomatch e
  | _, _, _, .tup _ _, e => nomatch e
  | _, _, _, .lst _ _ _, e => nomatch e
  | _, _, _, .md h n l i r, e => by cases e; exact ⟨_, _, rfl, rfl, h, n, l, i, r⟩
theorem RepA.md {i : Nat} {ks : List Int} {ds : List D} (R : RepA K F H σ δ As) (h : δ[i]? = some (some (.md ks ds))) : ∃ a vs, σ[i]? = some (some (.ref a)) ∧ As i = [a] ∧ H a = some (.dK (kz ks vs)) ∧ F a = none ∧ ks.length = ds.length ∧ imms ds = true ∧ Reps K H vs ds := by
  obtain ⟨v, h1, h2⟩ := R.val i _ h
  obtain ⟨a, vs, rfl, r⟩ := h2.md_inv rfl
  exact ⟨a, vs, h1, r⟩
end
section
variable {X : Cx} {e ei : Expr} {fk : FD} {fm : FM} {pos p1 p2 p3 p4 : Pos}
end
section
variable {K : PySem.W.Frag} {F H : Hp} {σ : L2.St} {δ : DS} {As : Nat → List Addr}
end
section
variable {X : Cx} {e ek ev : Expr} {g : FA} {fk fv : FD} {pos p : Pos}
end
end Dl
namespace Dl
open PySem PySem.Spec PyProof.Rows L2
end Dl
namespace Dl
open PySem PySem.Spec PyProof.Rows L2
section
variable {X : Cx} {pins : List (Addr × Obj)} {σ : L2.St} {H : Hp} {s : Shared} {a : Addr} {u u' : HO}
end
end Dl
namespace Dl
open PySem PySem.Spec PyProof.Rows L2
end Dl
namespace Dl
open PySem PySem.Spec PyProof.Rows L2
section
variable {P : Program} {w : World} {K : PySem.W.Frag} {mg : Str → Option Value} {base : Heap}
end
end Dl
namespace Dl
open PySem PySem.Spec PyProof.Rows L2
section
variable {P : Program} {w : World} {K : PySem.W.Frag} {mg : Str → Option Value} {base : Heap}
end
end Dl
namespace Mine
open PySem PySem.Spec PyProof.Rows L2 Dl
noncomputable section
def top (i : Nat) : Stmt := PySem.Challenge.pw_watchyard_k28_mixed_points.main.body.getD i (.Pass ⟨0, 0, 0, 0⟩)
open Mth
abbrev fr (p : Int × Int) : D := .tup [.int p.1, .int p.2]
def gWhole : D → Option Bool
  | .int _ => some true
  | .ty _ => none
  | .exc _ => none
  | .cls _ => none
  | .ms _ _ => none
  | .mf _ _ => none
  | .md _ _ => none
  | _ => some false
abbrev Md (x : Int) : Prop := Sm 4000 x
theorem Md.bd {x : Int} (h : Md x) : Bd x := h.mono (l := 9000) (by decide)
theorem bd_of {k : Nat} {x : Int} (h : Sm k x) (e : k ≤ 9000 := by decide) : Bd x := h.mono (l := 9000) e
theorem bd_sm {x : Int} (h : x.natAbs < 2 ^ 64 := by decide) : Bd x := bd_of (k := 64) h
theorem bd_neg {x : Int} (h : Bd x) : Bd (-x) := by unfold Bd at *; rw [Int.natAbs_neg]; exact h
structure Fk (p : Int × Int) : Prop where
  pos : 0 < p.2
  s1 : Md p.1
  s2 : Md p.2
theorem Fk.of {k : Nat} {p : Int × Int} (h : Fr k p) (e : k ≤ 4000 := by decide) : Fk p := ⟨h.pos, h.s1.mono e, h.s2.mono e⟩
def S_is_whole (ds : List D) (d : D) : Prop := ∃ x b, gWhole x = some b ∧ ds = [x] ∧ d = .bl b
theorem e_is_whole {x : D} {b : Bool} (h : gWhole x = some b) : fn S_is_whole [x] = some (.bl b) := fn_eq (fun d' h' => by
  obtain ⟨x', b', h1, h2, rfl⟩ := h'
  cases h2; rw [h] at h1; cases h1; rfl) ⟨x, b, h, rfl, rfl⟩
abbrev S__law_whole := S_is_whole
def S_common_divisor (ds : List D) (d : D) : Prop := ∃ a b, 0 < b ∧ ds = [.int a, .int b] ∧ d = .int (gc a b)
theorem e_common_divisor {a b : Int} (h : 0 < b) : fn S_common_divisor [.int a, .int b] = some (.int (gc a b)) := fn_eq (fun d' h' => by
  obtain ⟨a', b', h1, h2, rfl⟩ := h'
  cases h2; rfl) ⟨a, b, h, rfl, rfl⟩
def S_lowest (ds : List D) (d : D) : Prop := ∃ t b, 0 < b ∧ Bd b ∧ ds = [.int t, .int b] ∧ d = fr (rd t b)
theorem e_lowest {t b : Int} (h : 0 < b) (g : Bd b) : fn S_lowest [.int t, .int b] = some (fr (rd t b)) := fn_eq (fun d' h' => by
  obtain ⟨t', b', _, _, h2, rfl⟩ := h'
  cases h2; rfl) ⟨t, b, h, g, rfl, rfl⟩
def S2 (op : Int × Int → Int × Int → D) (ds : List D) (d : D) : Prop := ∃ p q : Int × Int, Fk p ∧ Fk q ∧ ds = [fr p, fr q] ∧ d = op p q
theorem e2 {op : Int × Int → Int × Int → D} {p q : Int × Int} (h : Fk p) (g : Fk q) : fn (S2 op) [fr p, fr q] = some (op p q) := fn_eq (fun d' h' => by
  obtain ⟨⟨a, b⟩, ⟨c, e⟩, _, _, h2, rfl⟩ := h'
  obtain ⟨a', b'⟩ := p
  obtain ⟨c', e'⟩ := q
  cases h2; rfl) ⟨p, q, h, g, rfl, rfl⟩
theorem ints_inj : ∀ {ns ms : List Int}, ns.map D.int = ms.map D.int → ns = ms
  | [], [], _ => rfl
  | [], _ :: _, h => by cases h
  | _ :: _, [], h => by cases h
  | n :: ns, m :: ms, h => by
    have h' : D.int n :: ns.map D.int = D.int m :: ms.map D.int := h
    injection h' with h1 h2
    injection h1 with h1
    rw [h1, ints_inj h2]
def cell (ns : List Int) (k : Int) : Int := ns.getD k.toNat 0
def S__law_cell_at (ds : List D) (d : D) : Prop := ∃ (ns : List Int) (k : Int), 0 ≤ k ∧ ds = [.seq (ns.map D.int), .int k] ∧ d = .int (cell ns k)
theorem e__law_cell_at {ns : List Int} {k : Int} (h : 0 ≤ k) : fn S__law_cell_at [.seq (ns.map D.int), .int k] = some (.int (cell ns k)) := fn_eq (fun d' h' => by
  obtain ⟨ns', k', _, h2, rfl⟩ := h'
  injection h2 with h3 h4
  injection h3 with h3
  injection h4 with h4
  injection h4 with h4
  rw [ints_inj h3, h4]) ⟨ns, k, h, rfl, rfl⟩
structure Flw (p : Int × Int) : Prop extends Fk p where
  lw : Lw p
theorem Flw.of {k : Nat} {p : Int × Int} (h : Fr k p) (e : k ≤ 4000 := by decide) : Flw p := ⟨Fk.of h e, h.lw⟩
def S2w (op : Int × Int → Int × Int → D) (ds : List D) (d : D) : Prop := ∃ p q : Int × Int, Flw p ∧ Flw q ∧ ds = [fr p, fr q] ∧ d = op p q
theorem e2w {op : Int × Int → Int × Int → D} {p q : Int × Int} (h : Flw p) (g : Flw q) : fn (S2w op) [fr p, fr q] = some (op p q) := fn_eq (fun d' h' => by
  obtain ⟨⟨a, b⟩, ⟨c, e⟩, _, _, h2, rfl⟩ := h'
  obtain ⟨a', b'⟩ := p
  obtain ⟨c', e'⟩ := q
  cases h2; rfl) ⟨p, q, h, g, rfl, rfl⟩
def S_summed (ds : List D) (d : D) : Prop := ∃ p q : Int × Int, Flw p ∧ Flw q ∧ ds = [fr p, .int q.1, .int q.2] ∧ d = fr (sm p.1 p.2 q.1 q.2)
theorem e_summed {p q : Int × Int} (h : Flw p) (g : Flw q) : fn S_summed [fr p, .int q.1, .int q.2] = some (fr (sm p.1 p.2 q.1 q.2)) := fn_eq (fun d' h' => by
  obtain ⟨⟨a, b⟩, ⟨c, e⟩, _, _, h2, rfl⟩ := h'
  obtain ⟨a', b'⟩ := p
  obtain ⟨c', e'⟩ := q
  cases h2; rfl) ⟨p, q, h, g, rfl, rfl⟩
theorem Flw.neg {p : Int × Int} (h : Flw p) : Flw (-p.1, p.2) := ⟨⟨h.pos, h.s1.neg, h.s2⟩, h.lw.neg⟩
theorem md_div {x g : Int} (h : Md x) (hg : 0 < g) (d : g ∣ x) : Bd (x / g) := (Sm.div h hg d).mono (l := 9000) (by decide)
abbrev S_plus := S2w fun p q => fr (pl p q)
abbrev S_minus := S2w fun p q => fr (mi p q)
abbrev S_times := S2w fun p q => fr (ti p q)
def bdD : Bn → D
  | none => .non
  | some (n, s) => .tup [.int n, .bl s]
theorem bdD_none : bdD none = .non := rfl
theorem bdD_some (n : Int) (s : Bool) : bdD (some (n, s)) = .tup [.int n, .bl s] := rfl
theorem bdD_inj {a b : Bn} (h : bdD a = bdD b) : a = b := by
  rcases a with _ | ⟨n, s⟩ <;> rcases b with _ | ⟨m, t⟩
  · rfl
  · cases h
  · cases h
  · cases h; rfl
def Bk (k : Nat) : Bn → Prop
  | none => True
  | some (n, _) => Sm k n
theorem Bk.mono {k l : Nat} {b : Bn} (h : Bk k b) (e : k ≤ l) : Bk l b := by
  rcases b with _ | ⟨n, s⟩
  · trivial
  · exact Sm.mono (show Sm k n from h) e
theorem Bk.sum {k : Nat} {a b : Bn} (h : Bk k a) (g : Bk k b) : Bk (k + 1) (bs a b) := by
  rcases a with _ | ⟨n, s⟩
  · trivial
  rcases b with _ | ⟨m, t⟩
  · trivial
  · exact Sm.add (show Sm k n from h) (show Sm k m from g)
theorem low_one (n : Int) : low n 1 = (n, 1) := by
  rw [low_pos (by decide)]
  exact rd_of_lo ⟨by decide, by unfold gc; simp⟩
def S_fraction (ds : List D) (d : D) : Prop := ∃ t b, b ≠ 0 ∧ Bd b ∧ ds = [.int t, .int b] ∧ d = fr (low t b)
theorem e_fraction {t b : Int} (h : b ≠ 0) (g : Bd b) : fn S_fraction [.int t, .int b] = some (fr (low t b)) := fn_eq (fun d' h' => by
  obtain ⟨t', b', _, _, h2, rfl⟩ := h'
  cases h2; rfl) ⟨t, b, h, g, rfl, rfl⟩
theorem e_fraction1 {n : Int} : dfl (fn S_fraction) [1] [.int n] = some (.tup [.int n, .int 1]) := by
  have h := e_fraction (t := n) (b := 1) (by decide) bd_sm
  rw [low_one] at h
  exact h
def S_keeps (ds : List D) (d : D) : Prop := ∃ (p : Int × Int) (b : Bn), Fk p ∧ Bk 4000 b ∧ ds = [fr p, bdD b] ∧ d = .bl (kp p b)
theorem e_keeps {p : Int × Int} {b : Bn} (h : Fk p) (g : Bk 4000 b) : fn S_keeps [fr p, bdD b] = some (.bl (kp p b)) := fn_eq (fun d' h' => by
  obtain ⟨⟨a, b'⟩, c, _, _, h2, rfl⟩ := h'
  obtain ⟨x, y⟩ := p
  injection h2 with h3 h4
  injection h4 with h4 _
  cases h3
  rw [bdD_inj h4]) ⟨p, b, h, g, rfl, rfl⟩
theorem sh_bd (b : Bn) : sh (bdD b) = bdD b := by rcases b with _ | ⟨n, s⟩ <;> rfl
theorem imm_bd (b : Bn) : imm (bdD b) = true := by rcases b with _ | ⟨n, s⟩ <;> rfl
theorem own_bd (b : Bn) : own (bdD b) = true := by rcases b with _ | ⟨n, s⟩ <;> rfl
def rowD (r : List Bn) : List D := r.map bdD
theorem shs_row : ∀ (r : List Bn), shs (rowD r) = rowD r
  | [] => rfl
  | b :: r => by show sh (bdD b) :: shs (rowD r) = _; rw [sh_bd, shs_row r]; rfl
theorem owns_row : ∀ (r : List Bn), owns (rowD r) = true
  | [] => rfl
  | b :: r => by show (own (bdD b) && owns (rowD r)) = true; rw [own_bd, owns_row r]; rfl
def rowsS (T : List (List Bn)) : List D := T.map fun r => .seq (rowD r)
def rowsO (T : List (List Bn)) : List D := T.map fun r => .lst (rowD r)
def tabD (T : List (List Bn)) : D := .seq (rowsS T)
def ownD (T : List (List Bn)) : D := .lst (rowsO T)
theorem shs_rowsO : ∀ (T : List (List Bn)), shs (rowsO T) = rowsS T
  | [] => rfl
  | r :: T => by show sh (.lst (rowD r)) :: shs (rowsO T) = _; rw [shs_rowsO T, sh, shs_row]; rfl
theorem sh_ownD (T : List (List Bn)) : sh (ownD T) = tabD T := by unfold ownD tabD; rw [sh, shs_rowsO]
theorem owns_rowsO : ∀ (T : List (List Bn)), owns (rowsO T) = true
  | [] => rfl
  | r :: T => by show (own (.lst (rowD r)) && owns (rowsO T)) = true; rw [own, owns_row, owns_rowsO T]; rfl
theorem own_ownD (T : List (List Bn)) : own (ownD T) = true := by unfold ownD; rw [own]; exact owns_rowsO T
theorem rowD_inj : ∀ {r s : List Bn}, rowD r = rowD s → r = s
  | [], [], _ => rfl
  | [], _ :: _, h => by cases h
  | _ :: _, [], h => by cases h
  | a :: r, b :: s, h => by
    have h' : bdD a :: rowD r = bdD b :: rowD s := h
    injection h' with h1 h2
    rw [bdD_inj h1, rowD_inj h2]
theorem rowsS_inj : ∀ {T U : List (List Bn)}, rowsS T = rowsS U → T = U
  | [], [], _ => rfl
  | [], _ :: _, h => by cases h
  | _ :: _, [], h => by cases h
  | a :: r, b :: s, h => by
    have h' : D.seq (rowD a) :: rowsS r = D.seq (rowD b) :: rowsS s := h
    injection h' with h1 h2
    injection h1 with h1
    rw [rowD_inj h1, rowsS_inj h2]
theorem tabD_inj {T U : List (List Bn)} (h : tabD T = tabD U) : T = U := by
  unfold tabD at h
  injection h with h
  exact rowsS_inj h
structure Sq (T : List (List Bn)) (m : Nat) : Prop where
  len : T.length = m
  row : ∀ r ∈ T, r.length = m
theorem mapO_map {α : Type} {f g : α → D} {F : D → Option D} : ∀ {xs : List α}, (∀ x ∈ xs, F (f x) = some (g x)) → mapO F (xs.map f) = some (xs.map g)
  | [], _ => rfl
  | x :: xs, h => by
    show ((F (f x)).bind fun y => (mapO F (xs.map f)).bind fun ys => some (y :: ys)) = _
    rw [h x List.mem_cons_self, mapO_map fun y m => h y (List.mem_cons_of_mem _ m)]
    rfl
theorem eqL_self {f : D → D → Option Bool} : ∀ {ds : List D}, (∀ d ∈ ds, f d d = some true) → eqL f ds ds = some true
  | [], _ => rfl
  | d :: ds, h => by
    show ((f d d).bind fun x => (eqL f ds ds).bind fun y => some (x && y)) = _
    rw [h d List.mem_cons_self, eqL_self fun e m => h e (List.mem_cons_of_mem _ m)]
    rfl
def cellT (T : List (List Bn)) (i j : Nat) : Bn := (T.getD i []).getD j none
def set2 (T : List (List Bn)) (i j : Nat) (b : Bn) : List (List Bn) := T.set i ((T.getD i []).set j b)
theorem set2_sq {T : List (List Bn)} {m i j : Nat} {b : Bn} (h : Sq T m) (hi : i < m) : Sq (set2 T i j b) m := by
  refine ⟨by unfold set2; rw [List.length_set]; exact h.len, fun r hr => ?_⟩
  rcases List.mem_or_eq_of_mem_set hr with z | z
  · exact h.row r z
  · rw [z, List.length_set, List.getD_eq_getElem?_getD, List.getElem?_eq_getElem (by rw [h.len]; exact hi)]
    exact h.row _ (List.getElem_mem _)
theorem atI_of {α : Type} {xs : List α} {j : Nat} {v : α} (h : xs[j]? = some v) : L2.atI xs (j : Int) = some v := L2.atI_nat h
theorem ixN_of {n j : Nat} (h : j < n) : L2.ixN n (j : Int) = some j := by
  unfold L2.ixN
  rw [if_pos (by omega), if_pos (by omega)]
  simp
theorem getD_row {T : List (List Bn)} {m i : Nat} (h : Sq T m) (hi : i < m) : ∃ r, T[i]? = some r ∧ T.getD i [] = r ∧ r.length = m := by
  have hl : i < T.length := by rw [h.len]; exact hi
  refine ⟨T[i], List.getElem?_eq_getElem hl, ?_, h.row _ (List.getElem_mem _)⟩
  rw [List.getD_eq_getElem?_getD, List.getElem?_eq_getElem hl]; rfl
theorem ix_own {T : List (List Bn)} {m i j : Nat} (h : Sq T m) (hi : i < m) (hj : j < m) : ∃ r, gIx (ownD T) (.int (i : Int)) = some (.lst (rowD r)) ∧ gIx (.lst (rowD r)) (.int (j : Int)) = some (bdD (cellT T i j)) ∧ (rowsO T)[i]? = some (.lst (rowD r)) ∧ r.length = m ∧ T.getD i [] = r := by
  obtain ⟨r, h1, h2, h3⟩ := getD_row h hi
  have hx : (rowsO T)[i]? = some (.lst (rowD r)) := by unfold rowsO; rw [List.getElem?_map, h1]; rfl
  refine ⟨r, atI_of hx, ?_, hx, h3, h2⟩
  show L2.atI (rowD r) (j : Int) = _
  refine atI_of ?_
  unfold rowD cellT
  rw [List.getElem?_map, h2, List.getD_eq_getElem?_getD, List.getElem?_eq_getElem (by omega)]
  rfl
theorem ix_tab {T : List (List Bn)} {m i j : Nat} (h : Sq T m) (hi : i < m) (hj : j < m) : ∃ r, gIx (tabD T) (.int (i : Int)) = some (.seq (rowD r)) ∧ gIx (.seq (rowD r)) (.int (j : Int)) = some (bdD (cellT T i j)) := by
  obtain ⟨r, h1, h2, h3⟩ := getD_row h hi
  have hx : (rowsS T)[i]? = some (.seq (rowD r)) := by unfold rowsS; rw [List.getElem?_map, h1]; rfl
  refine ⟨r, atI_of hx, ?_⟩
  show L2.atI (rowD r) (j : Int) = _
  refine atI_of ?_
  unfold rowD cellT
  rw [List.getElem?_map, h2, List.getD_eq_getElem?_getD, List.getElem?_eq_getElem (by omega)]
  rfl
theorem set_rowsO {T : List (List Bn)} {i j : Nat} {b : Bn} {r : List Bn} (h : T.getD i [] = r) : (rowsO T).set i (.lst ((rowD r).set j (bdD b))) = rowsO (set2 T i j b) := by
  unfold rowsO set2 rowD
  rw [h, List.map_set, List.map_set]
theorem len_rowsO (T : List (List Bn)) : (rowsO T).length = T.length := by simp [rowsO]
theorem len_rowD (r : List Bn) : (rowD r).length = r.length := by simp [rowD]
def IsT (d : D) (T : List (List Bn)) : Prop := sh d = tabD T
theorem isT_own (T : List (List Bn)) : IsT (ownD T) T := sh_ownD T
theorem IsT.inj {d : D} {T U : List (List Bn)} (h : IsT d T) (g : IsT d U) : T = U := tabD_inj (h.symm.trans g)
theorem vName_bd {δ : DS} {i : Nat} {b : Bn} (h : δ[i]? = some (some (bdD b))) : vName i δ = some (bdD b, δ) := by
  unfold vName
  rw [h]
  rcases b with _ | ⟨n, s⟩ <;> rfl
theorem fVar_of {δ : DS} {q : Nat} {d : D} (h : δ[q]? = some (some d)) : fVar q δ = some d := by unfold fVar; rw [h]
theorem rt_of {s : SD} {δ : DS} {d : D} (h : s δ = some (.rt d)) : retOf (s δ) = some d := by rw [h]; rfl
theorem st_seq {s u : SD} {δ δ' : DS} {r : Res} (h : s δ = some (.nx δ')) (g : u δ' = some r) : sSeq s u δ = some r := by unfold sSeq; rw [h]; exact g
theorem st_set {i : Nat} {f : FM} {δ δ' : DS} {d : D} (h : f δ = some (d, δ')) : sSetM i f δ = some (.nx (δ'.set i (some d))) := by unfold sSetM; rw [h]; rfl
theorem st_ret {f : FM} {δ δ' : DS} {d : D} (h : f δ = some (d, δ')) : sRetM f δ = some (.rt d) := by unfold sRetM; rw [h]; rfl
theorem st_if {c : FT} {s u : SD} {δ : DS} {r : Res} {b : Bool} (h : c δ = some b) (g : (if b then s δ else u δ) = some r) : sIf c s u δ = some r := by unfold sIf; rw [h]; cases b <;> exact g
theorem st_setD {i : Nat} {f : FD} {δ : DS} {d : D} (h : f δ = some d) : sSet i f δ = some (.nx (δ.set i (some d))) := by unfold sSet; rw [h]; rfl
theorem st_retD {f : FD} {δ : DS} {d : D} (h : f δ = some d) : sRet f δ = some (.rt d) := by unfold sRet; rw [h]; rfl
theorem st_for {src : FMA} {i : Nat} {s : SD} {δ δ' : DS} {ds : List D} {r : Res} (h : src δ = some (ds, δ')) (g : Dl.forM i s ds δ' = some r) : sForM src i s δ = some r := by unfold sForM; rw [h]; exact g
theorem st_walk {i : Nat} {δ : DS} {d : D} {ds : List D} (h : δ[i]? = some (some d)) (g : sh d = .seq ds) (k : sh (.seq ds) = .seq ds) : vWalk (vShare i) δ = some (ds, δ.set i (some (.seq ds))) := by
  unfold vWalk vShare
  rw [h]
  simp only [Option.bind_some, g, k]
theorem v_imm {f : FD} {δ : DS} {d : D} (h : f δ = some d) (g : imm d = true := by rfl) : vI f δ = some (d, δ) := by unfold vI; rw [h]; exact if_pos g
theorem v_call {G : List D → Option D} {g : FA} {δ : DS} {ds : List D} {d : D} (h : g δ = some ds) (k : G ds = some d) (o : own d = true) : vCall G g δ = some (d, δ) := by unfold vCall; rw [h]; show ((G ds).bind _) = _; rw [k]; exact if_pos o
theorem v_move {i : Nat} {δ : DS} {ds : List D} (h : δ[i]? = some (some (.lst ds))) : vName i δ = some (.lst ds, δ.set i none) := by unfold vName; rw [h]; rfl
theorem shs_ints : ∀ (ns : List Int), shs (ns.map D.int) = ns.map D.int
  | [] => rfl
  | n :: ns => by show sh (.int n) :: shs (ns.map D.int) = _; rw [shs_ints ns]; rfl
theorem gEqN_int (i j : Int) : gEqN (.int i) (.int j) = some (.bl (i == j)) := rfl
theorem fa2 {f g : FD} {δ : DS} {a b : D} (h : f δ = some a) (k : g δ = some b) : faCons f (faCons g faNil) δ = some [a, b] := by
  unfold faCons faNil
  rw [h, k]
  rfl
theorem forM_keep {i : Nat} {s : SD} (P : DS → Prop) : ∀ (ds : List D) (δ : DS), P δ → (∀ d ∈ ds, ∀ δ, P δ → ∃ δ2, s (δ.set i (some (sh d))) = some (.nx δ2) ∧ P δ2) → ∃ δ', Dl.forM i s ds δ = some (.nx δ') ∧ P δ'
  | [], δ, p, _ => ⟨δ, rfl, p⟩
  | d :: ds, δ, p, h => by
    obtain ⟨δ2, h2, h3⟩ := h d List.mem_cons_self δ p
    obtain ⟨δ', h4, h5⟩ := forM_keep P ds δ2 h3 fun e he => h e (List.mem_cons_of_mem _ he)
    refine ⟨δ', ?_, h5⟩
    simp only [Dl.forM, h2, Option.bind_some, h4]
theorem st_ifF {c : FT} {s u : SD} {δ : DS} {r : Res} (h : c δ = some false) (g : u δ = some r) : sIf c s u δ = some r := by unfold sIf; rw [h]; exact g
theorem st_ifT {c : FT} {s u : SD} {δ : DS} {r : Res} (h : c δ = some true) (g : s δ = some r) : sIf c s u δ = some r := by unfold sIf; rw [h]; exact g
theorem st_seq' {s u : SD} {δ : DS} {d : D} (h : s δ = some (.rt d)) : sSeq s u δ = some (.rt d) := by unfold sSeq; rw [h]; rfl
theorem sh_int (i : Int) : sh (.int i) = .int i := rfl
theorem forM_pre {α : Type} {i : Nat} {s : SD} {f : α → D} (P : List α → DS → Prop) (all : List α) (step : ∀ (pre : List α) (x : α) (post : List α) (δ : DS), all = pre ++ x :: post → P pre δ → ∃ δ2, s (δ.set i (some (sh (f x)))) = some (.nx δ2) ∧ P (pre ++ [x]) δ2) :
    ∀ (xs pre : List α) (δ : DS), all = pre ++ xs → P pre δ → ∃ δ', Dl.forM i s (xs.map f) δ = some (.nx δ') ∧ P all δ'
  | [], pre, δ, e, p => ⟨δ, rfl, by rw [e, List.append_nil]; exact p⟩
  | x :: xs, pre, δ, e, p => by
    obtain ⟨δ2, h2, h3⟩ := step pre x xs δ e p
    obtain ⟨δ', h4, h5⟩ := forM_pre P all step xs (pre ++ [x]) δ2 (by rw [e, List.append_assoc]; rfl) h3
    refine ⟨δ', ?_, h5⟩
    simp only [List.map_cons, Dl.forM, h2, Option.bind_some, h4]
theorem forM_all {α : Type} {i : Nat} {s : SD} {f : α → D} {d : D} (P : DS → Prop) (b : α → Bool) : ∀ (xs : List α) (δ : DS), P δ → (∀ x ∈ xs, ∀ δ, P δ → (b x = true → ∃ δ2, s (δ.set i (some (sh (f x)))) = some (.nx δ2) ∧ P δ2) ∧ (b x = false → s (δ.set i (some (sh (f x)))) = some (.rt d))) →
    (xs.all b = true → ∃ δ', Dl.forM i s (xs.map f) δ = some (.nx δ') ∧ P δ') ∧ (xs.all b = false → Dl.forM i s (xs.map f) δ = some (.rt d))
  | [], δ, p, _ => ⟨fun _ => ⟨δ, rfl, p⟩, fun h => by cases h⟩
  | x :: xs, δ, p, h => by
    obtain ⟨h1, h2⟩ := h x List.mem_cons_self δ p
    cases hb : b x with
    | false =>
      refine ⟨fun q => (by rw [List.all_cons, hb] at q; cases q), fun _ => ?_⟩
      simp only [List.map_cons, Dl.forM, h2 hb, Option.bind_some]
    | true =>
      obtain ⟨δ2, g1, g2⟩ := h1 hb
      obtain ⟨k1, k2⟩ := forM_all P b xs δ2 g2 fun y hy => h y (List.mem_cons_of_mem _ hy)
      rw [List.all_cons, hb, Bool.true_and]
      refine ⟨fun q => ?_, fun q => ?_⟩
      · obtain ⟨δ', k3, k4⟩ := k1 q
        refine ⟨δ', ?_, k4⟩
        simp only [List.map_cons, Dl.forM, g1, Option.bind_some, k3]
      · simp only [List.map_cons, Dl.forM, g1, Option.bind_some, k2 q]
theorem vComp_map {α : Type} {src : FA} {js : List Nat} {felt : FM} {δ : DS} {xs : List α} {f g : α → D} (hs : src δ = some (xs.map f)) (h : ∀ x ∈ xs, Dl.ownOf felt (shO (some (f x) :: slotsOf js δ)) = some (g x)) (hl : xs.length ≤ 1000) : vComp src js felt δ = some (.lst (xs.map g), δ) := by
  unfold vComp
  rw [hs]
  show ((mapO _ (xs.map f)).bind _) = _
  rw [mapO_map h]
  exact if_pos (by rw [List.length_map]; exact hl)
theorem own_of {felt : FM} {δ δ' : DS} {d : D} (h : felt δ = some (d, δ')) (o : own d = true) : Dl.ownOf felt δ = some d := by unfold Dl.ownOf; rw [h]; exact if_pos o
theorem rangeD_0 (n : Nat) : rangeD 0 (n : Int) 1 = (List.range n).map fun (i : Nat) => D.int (i : Int) := by
  have e : (((n : Int) - 0 + 1 - 1) / 1).toNat = n := by omega
  unfold rangeD
  rw [e]
  congr 1
  funext i
  congr 1
  omega
theorem asR_b {b : Int} (h : 0 ≤ b) (g : b ≤ 1000) : asR [.int b] = some (rangeD 0 b 1) := by
  show (if -(2 ^ 62) ≤ b ∧ b < 2 ^ 62 then some (rangeD 0 b 1) else none) = _
  rw [if_pos (by omega)]
theorem asR_0 {n : Nat} (h : n ≤ 1000) : asR [.int (n : Int)] = some ((List.range n).map fun (i : Nat) => D.int (i : Int)) := by
  rw [asR_b (by omega) (by omega), rangeD_0]
theorem v_rangeB {g : FA} {δ : DS} {b : Int} (h : g δ = some [.int b]) (l : 0 ≤ b) (k : b ≤ 1000) : vRange g δ = some (rangeD 0 b 1, δ) := by
  unfold vRange
  rw [h]
  show ((asR [.int b]).bind _) = _
  rw [asR_b l k]
  rfl
theorem v_range {g : FA} {δ : DS} {n : Nat} (h : g δ = some [.int (n : Int)]) (l : n ≤ 1000) : vRange g δ = some ((List.range n).map fun (i : Nat) => D.int (i : Int), δ) := by
  rw [v_rangeB h (by omega) (by omega), rangeD_0]
theorem src_r {g : FA} {δ : DS} {ds xs : List D} (h : g δ = some ds) (k : asR ds = some xs) : srcR g δ = some xs := by unfold srcR; rw [h]; exact k
theorem range_at {n : Nat} {pre post : List Nat} {x : Nat} (h : List.range n = pre ++ x :: post) : x = pre.length ∧ pre.length < n := by
  have hl : pre.length < n := by
    have := congrArg List.length h
    rw [List.length_range, List.length_append, List.length_cons] at this
    omega
  have h1 : (List.range n)[pre.length]? = some x := by rw [h, List.getElem?_append_right (Nat.le_refl _), Nat.sub_self]; rfl
  rw [List.getElem?_range hl] at h1
  exact ⟨(Option.some.inj h1).symm, hl⟩
theorem st_app {δ : DS} {i : Nat} {fm : FM} {ds : List D} {d : D} (h : δ[i]? = some (some (.lst ds))) (g : fm δ = some (d, δ)) (l : ds.length ≤ 999) : sApp i fm δ = some (.nx (δ.set i (some (.lst (ds ++ [d]))))) := by
  unfold sApp
  rw [h]
  dsimp only
  rw [g]
  dsimp only [Option.bind_some]
  rw [h]
  exact if_pos l
theorem v_catS {fa fb : FD} {δ : DS} {a b : D} {xs ys : List D} (h : fa δ = some a) (g : fb δ = some b) (h' : asL a = some xs) (g' : asL b = some ys) (l : xs.length + ys.length ≤ 1000) (m : imms (xs ++ ys) = true) : vCatS fa fb δ = some (.lst (xs ++ ys), δ) := by
  have e : gCatS a b = some (.lst (xs ++ ys)) := by
    unfold gCatS
    rw [h', g']
    exact if_pos l
  unfold vCatS f2
  rw [h]
  dsimp only [Option.bind_some]
  rw [g]
  dsimp only [Option.bind_some]
  rw [e]
  exact if_pos m
theorem st_un {is : List Nat} {fm : FM} {δ δ' : DS} {ds : List D} (h : fm δ = some (.tup ds, δ')) (l : ds.length = is.length) (i : inAll is δ'.length = true) : sUnM is fm δ = some (.nx (setO is ds δ')) := by
  unfold sUnM
  rw [h]
  dsimp only [Option.bind_some]
  rw [if_pos ⟨l, i⟩]
theorem f_tup2 {f g : FD} {δ : DS} {a b : D} (h : f δ = some a) (k : g δ = some b) : fTup (faCons f (faCons g faNil)) δ = some (.tup [a, b]) := by
  unfold fTup
  rw [fa2 h k]
  rfl
theorem v_tup2 {f g : FM} {δ δ1 δ2 : DS} {a b : D} (h : f δ = some (a, δ1)) (k : g δ1 = some (b, δ2)) : vTup (vCons f (vCons g vNil)) δ = some (.tup [a, b], δ2) := by
  unfold vTup vCons
  rw [h]
  dsimp only [Option.bind_some]
  rw [k]
  rfl
theorem fa3 {f g e : FD} {δ : DS} {a b c : D} (h : f δ = some a) (k : g δ = some b) (l : e δ = some c) : faCons f (faCons g (faCons e faNil)) δ = some [a, b, c] := by
  unfold faCons faNil
  rw [h, k, l]
  rfl
theorem imms_frs (ps : List (Int × Int)) : imms (ps.map fr) = true := imms_mem.mpr fun d m => by obtain ⟨p, _, rfl⟩ := List.mem_map.mp m; rfl
theorem owns_frs : ∀ (ps : List (Int × Int)), owns (ps.map fr) = true
  | [] => rfl
  | p :: ps => by show (own (fr p) && owns (ps.map fr)) = true; rw [owns_frs ps]; rfl
theorem shs_frs : ∀ (ps : List (Int × Int)), shs (ps.map fr) = ps.map fr
  | [] => rfl
  | p :: ps => by show sh (fr p) :: shs (ps.map fr) = _; rw [shs_frs ps]; rfl
theorem frs_inj : ∀ {ps qs : List (Int × Int)}, ps.map fr = qs.map fr → ps = qs
  | [], [], _ => rfl
  | [], _ :: _, h => by cases h
  | _ :: _, [], h => by cases h
  | (a, b) :: ps, (c, e) :: qs, h => by
    have h' : fr (a, b) :: ps.map fr = fr (c, e) :: qs.map fr := h
    injection h' with h1 h2
    cases h1
    rw [frs_inj h2]
def IsP (d : D) (ps : List (Int × Int)) : Prop := sh d = .seq (ps.map fr)
theorem isP_lst (ps : List (Int × Int)) : IsP (.lst (ps.map fr)) ps := by unfold IsP; rw [sh, shs_frs]
theorem IsP.inj {d : D} {ps qs : List (Int × Int)} (h : IsP d ps) (g : IsP d qs) : ps = qs := by
  have := h.symm.trans g
  injection this with this
  exact frs_inj this
def vals (ps : List (Int × Int)) : List (Int × Int) := (0, 1) :: ps
def valAt (ps : List (Int × Int)) (i : Nat) : Int × Int := (vals ps).getD i (0, 1)
def dif (ps : List (Int × Int)) (i j : Nat) : Int × Int := mi (valAt ps i) (valAt ps j)
def lies (T : List (List Bn)) (ps : List (Int × Int)) : Bool := (List.range (ps.length + 1)).all fun i => (List.range (ps.length + 1)).all fun j => kp (dif ps i j) (cellT T i j)
theorem zero_fr {k : Nat} (h : 1 ≤ k) : Fr k ((0, 1) : Int × Int) := ⟨⟨by decide, by unfold gc; simp⟩, Sm.mono (k := 1) (show (0 : Int).natAbs < 2 ^ 1 by decide) h, Sm.mono (k := 1) (show (1 : Int).natAbs < 2 ^ 1 by decide) h⟩
theorem valAt_fr {ps : List (Int × Int)} {k : Nat} (hk : 1 ≤ k) (h : ∀ p ∈ ps, Fr k p) (i : Nat) : Fr k (valAt ps i) := by
  unfold valAt
  rw [List.getD_eq_getElem?_getD]
  cases q : (vals ps)[i]? with
  | none => exact zero_fr hk
  | some p =>
    have m := List.mem_of_getElem? q
    rcases List.mem_cons.mp m with rfl | m
    · exact zero_fr hk
    · exact h p m
theorem ix_vals {ps : List (Int × Int)} {i : Nat} (h : i < ps.length + 1) : gIx (.lst ((vals ps).map fr)) (.int (i : Int)) = some (fr (valAt ps i)) ∧ gIx (.seq ((vals ps).map fr)) (.int (i : Int)) = some (fr (valAt ps i)) := by
  have e : ((vals ps).map fr)[i]? = some (fr (valAt ps i)) := by
    unfold valAt
    have hl : i < (vals ps).length := by unfold vals; rw [List.length_cons]; exact h
    rw [List.getElem?_map, List.getD_eq_getElem?_getD, List.getElem?_eq_getElem hl]
    rfl
  exact ⟨atI_of e, atI_of e⟩
theorem cell_set2 {T : List (List Bn)} {m i j : Nat} {b : Bn} (hs : Sq T m) (hi : i < m) (hj : j < m) (x y : Nat) : cellT (set2 T i j b) x y = if x = i ∧ y = j then b else cellT T x y := by
  obtain ⟨r, h1, h2, h3⟩ := getD_row hs hi
  have hl : i < T.length := by rw [hs.len]; exact hi
  unfold cellT set2
  by_cases hx : x = i
  · subst hx
    have e : (T.set x ((T.getD x []).set j b)).getD x [] = (T.getD x []).set j b := by
      rw [List.getD_eq_getElem?_getD, List.getElem?_set_self hl]
      rfl
    rw [e, h2]
    by_cases hy : y = j
    · subst hy
      rw [if_pos ⟨rfl, rfl⟩, List.getD_eq_getElem?_getD, List.getElem?_set_self (by omega)]
      rfl
    · rw [if_neg fun z => hy z.2, List.getD_eq_getElem?_getD, List.getElem?_set_ne (Ne.symm hy), ← List.getD_eq_getElem?_getD]
  · rw [if_neg fun z => hx z.1]
    have e : (T.set i ((T.getD i []).set j b)).getD x [] = T.getD x [] := by
      rw [List.getD_eq_getElem?_getD, List.getElem?_set_ne (Ne.symm hx), ← List.getD_eq_getElem?_getD]
    rw [e]
def BkT (T : List (List Bn)) : Prop := ∀ i j, Bk 4000 (cellT T i j)
def S_lies_in (ds : List D) (d : D) : Prop := ∃ (d0 d1 : D) (T : List (List Bn)) (ps : List (Int × Int)), IsT d0 T ∧ Sq T (ps.length + 1) ∧ ps.length ≤ 40 ∧ BkT T ∧ IsP d1 ps ∧ (∀ p ∈ ps, Fr 1900 p) ∧ ds = [d0, d1] ∧ d = .bl (lies T ps)
theorem e_lies_in {k : Nat} {d0 d1 : D} {T : List (List Bn)} {ps : List (Int × Int)} (h1 : IsT d0 T) (h2 : Sq T (ps.length + 1)) (h3 : ps.length ≤ 40) (h4 : BkT T) (h5 : IsP d1 ps) (h6 : ∀ p ∈ ps, Fr k p) (hk : k ≤ 1900 := by decide) : fn S_lies_in [d0, d1] = some (.bl (lies T ps)) := fn_eq (fun d' h' => by
  obtain ⟨e0, e1, U, qs, g1, _, _, _, g5, _, h, rfl⟩ := h'
  injection h with a b
  injection b with b _
  subst a b
  rw [h1.inj g1, h5.inj g5]) ⟨d0, d1, T, ps, h1, h2, h3, h4, h5, fun p m => (h6 p m).mono hk, rfl, rfl⟩
theorem eq_frs (n : Nat) (ps : List (Int × Int)) : eqL (eqN (n + 1)) (ps.map fr) (ps.map fr) = some true := eqL_self fun d m => by
  obtain ⟨p, _, rfl⟩ := List.mem_map.mp m
  cases n with
  | zero => show eqL (eqN 0) [D.int p.1, D.int p.2] [D.int p.1, D.int p.2] = _; simp [eqL, eqN, flat_int, eqF]
  | succ n => show eqL (eqN (n + 1)) [D.int p.1, D.int p.2] [D.int p.1, D.int p.2] = _; simp [eqL, eqN, flat_int, eqF]
theorem ne_frs (ps : List (Int × Int)) : gNeN (.lst (ps.map fr)) (.lst (ps.map fr)) = some (.bl false) := by
  unfold gNeN
  have z : eqN 6 (.lst (ps.map fr)) (.lst (ps.map fr)) = some true := eq_frs 4 ps
  rw [z]; rfl
def mxd (c k : Int) : Int := (c * 48271 + k * k * 69621 + 7 * k + 11) % 2147483647 * ((c * 48271 + k * k * 69621 + 7 * k + 11) % 2147483647) % 2147483629
def S__law_mixed (ds : List D) (d : D) : Prop := ∃ c k, 0 ≤ k ∧ k < 100000 ∧ ds = [.int c, .int k] ∧ d = .int (mxd c k)
theorem e__law_mixed {c k : Int} (h : 0 ≤ k) (g : k < 100000) : fn S__law_mixed [.int c, .int k] = some (.int (mxd c k)) := fn_eq (fun d' h' => by
  obtain ⟨c', k', _, _, h2, rfl⟩ := h'
  cases h2; rfl) ⟨c, k, h, g, rfl, rfl⟩
def S__law_lowest (ds : List D) (d : D) : Prop := ∃ t b, 0 < b ∧ Bd b ∧ ds = [.int t, .int b] ∧ d = fr (rd t b)
theorem e__law_lowest {t b : Int} (h : 0 < b) (g : Bd b) : fn S__law_lowest [.int t, .int b] = some (fr (rd t b)) := fn_eq (fun d' h' => by
  obtain ⟨t', b', _, _, h2, rfl⟩ := h'
  cases h2; rfl) ⟨t, b, h, g, rfl, rfl⟩
def dl (p q : Int × Int) : Int × Int := (p.1 * q.2 - q.1 * p.2, p.2 * q.2)
abbrev S__law_less := S2 fun p q => fr (dl p q)
def prt (c : Int) : Int × Int := if c % 8 = 5 then rd (c / 8 % (2 * 10 ^ 45 + 1) - 10 ^ 45) (1 + c % 9973) else rd (c / 48 % 41 - 20) (1 + c / 8 % 6)
theorem prt_fr (c : Int) : Fr 200 (prt c) := by
  unfold prt
  split
  · have hb : 0 < 1 + c % 9973 := by omega
    have h := rd_sm (k := 200) hb (Sm.of (x := c / 8 % (2 * 10 ^ 45 + 1) - 10 ^ 45) (by omega) (by omega)) (Sm.of (by omega) (by omega))
    exact ⟨rd_lo hb, h.1, h.2⟩
  · have hb : 0 < 1 + c / 8 % 6 := by omega
    have h := rd_sm (k := 200) hb (Sm.of (x := c / 48 % 41 - 20) (by omega) (by omega)) (Sm.of (by omega) (by omega))
    exact ⟨rd_lo hb, h.1, h.2⟩
def S__law_part (ds : List D) (d : D) : Prop := ∃ c, ds = [.int c] ∧ d = fr (prt c)
theorem e__law_part {c : Int} : fn S__law_part [.int c] = some (fr (prt c)) := fn_eq (fun d' h' => by
  obtain ⟨c', h2, rfl⟩ := h'
  cases h2; rfl) ⟨c, rfl, rfl⟩
theorem app2_last {δ : DS} {t : Nat} {fk : FD} {fm : FM} {d : D} {Rs row : List D} (h : δ[t]? = some (some (.lst (Rs ++ [.lst row])))) (hk : fk δ = some (.int (Rs.length : Int))) (hf : fm δ = some (d, δ)) (hl : row.length ≤ 999) : sApp2 t fk fm δ = some (.nx (δ.set t (some (.lst (Rs ++ [.lst (row ++ [d])]))))) := by
  have z : L2.ixN (Rs ++ [D.lst row]).length (Rs.length : Int) = some Rs.length := ixN_of (by simp)
  have g : (Rs ++ [D.lst row])[Rs.length]? = some (D.lst row) := by simp
  have e : (Rs ++ [D.lst row]).set Rs.length (.lst (row ++ [d])) = Rs ++ [.lst (row ++ [d])] := by simp
  unfold sApp2
  rw [h]
  dsimp only
  rw [hk]
  dsimp only [Option.bind_some]
  rw [z]
  dsimp only [Option.bind_some]
  rw [g]
  dsimp only
  rw [hf]
  dsimp only [Option.bind_some]
  rw [h]
  dsimp only
  rw [g]
  dsimp only
  rw [if_pos ⟨hl, rfl⟩, e]
theorem sPut2_g {T : List (List Bn)} {m i j : Nat} {b : Bn} (hs : Sq T m) (hi : i < m) (hj : j < m) {δ : DS} {p q r : Nat} {fm : FM} (h1 : δ[p]? = some (some (ownD T))) (h2 : δ[q]? = some (some (.int (i : Int)))) (h3 : δ[r]? = some (some (.int (j : Int)))) (h4 : fm δ = some (bdD b, δ)) :
    sPut2 p (fVar q) (fVar r) fm δ = some (.nx (δ.set p (some (ownD (set2 T i j b))))) := by
  obtain ⟨w, q1, q2, q3, q4, q5⟩ := ix_own hs hi hj
  unfold sPut2
  rw [h4]
  show (if imm (bdD b) = true then _ else _) = _
  rw [if_pos (imm_bd b)]
  dsimp only
  rw [h1]
  unfold ownD fVar
  dsimp only
  rw [h2, h3]
  dsimp only [Option.bind_some]
  rw [ixN_of (show i < (rowsO T).length by rw [len_rowsO, hs.len]; exact hi)]
  dsimp only [Option.bind_some]
  rw [q3]
  dsimp only [Option.bind_some]
  rw [ixN_of (show j < (rowD w).length by rw [len_rowD, q4]; exact hj)]
  dsimp only [Option.bind_some]
  rw [set_rowsO q5]
structure Grown (T : List (List Bn)) (n m : Nat) : Prop where
  len : T.length = n
  row : ∀ r ∈ T, r.length = m
  bk : ∀ r ∈ T, ∀ b ∈ r, Bk 450 b
theorem Grown.sq {T : List (List Bn)} {m : Nat} (h : Grown T m m) : Sq T m := ⟨h.len, h.row⟩
theorem Grown.cell {T : List (List Bn)} {n m : Nat} (h : Grown T n m) (i j : Nat) : Bk 450 (cellT T i j) := by
  unfold cellT
  rw [List.getD_eq_getElem?_getD, List.getD_eq_getElem?_getD]
  cases q : T[i]? with
  | none => trivial
  | some r =>
    rw [Option.getD_some]
    cases p : r[j]? with
    | none => trivial
    | some b => exact h.bk r (List.mem_of_getElem? q) b (List.mem_of_getElem? p)
theorem Grown.snoc {T : List (List Bn)} {n m : Nat} {r : List Bn} (h : Grown T n m) (g : r.length = m) (k : ∀ b ∈ r, Bk 450 b) : Grown (T ++ [r]) (n + 1) m := by
  refine ⟨by rw [List.length_append, h.len]; rfl, fun x hx => ?_, fun x hx => ?_⟩
  · rcases List.mem_append.mp hx with hx | hx
    · exact h.row x hx
    · rw [List.mem_singleton.mp hx]; exact g
  · rcases List.mem_append.mp hx with hx | hx
    · exact h.bk x hx
    · rw [List.mem_singleton.mp hx]; exact k
theorem rowsO_snoc (T : List (List Bn)) (r : List Bn) : rowsO (T ++ [r]) = rowsO T ++ [.lst (rowD r)] := by unfold rowsO; rw [List.map_append]; rfl
theorem rowD_snoc (r : List Bn) (b : Bn) : rowD (r ++ [b]) = rowD r ++ [bdD b] := by unfold rowD; rw [List.map_append]; rfl
theorem kp_rd {t b : Int} (hb : 0 < b) (c : Bn) : kp (t, b) c = kp (rd t b) c := by
  have hg := gc_pos (t := t) hb
  have e1 : (rd t b).1 * gc t b = t := rd_l
  have e2 : (rd t b).2 * gc t b = b := rd_r
  have key : ∀ n : Int, (t < n * b ↔ (rd t b).1 < n * (rd t b).2) ∧ (n * b < t ↔ n * (rd t b).2 < (rd t b).1) := fun n => by
    have e3 : n * b = n * (rd t b).2 * gc t b := by rw [Int.mul_assoc, e2]
    constructor
    · constructor
      · intro h
        have h' : (rd t b).1 * gc t b < n * (rd t b).2 * gc t b := by rw [e1, ← e3]; exact h
        exact Int.lt_of_mul_lt_mul_right h' (Int.le_of_lt hg)
      · intro h
        have := Int.mul_lt_mul_of_pos_right h hg
        rw [e1, ← e3] at this
        exact this
    · constructor
      · intro h
        have h' : n * (rd t b).2 * gc t b < (rd t b).1 * gc t b := by rw [e1, ← e3]; exact h
        exact Int.lt_of_mul_lt_mul_right h' (Int.le_of_lt hg)
      · intro h
        have := Int.mul_lt_mul_of_pos_right h hg
        rw [e1, ← e3] at this
        exact this
  rcases c with _ | ⟨n, s⟩
  · rfl
  · cases s with
    | true =>
      show decide (t * 1 < n * b) = decide ((rd t b).1 * 1 < n * (rd t b).2)
      rw [Int.mul_one, Int.mul_one]
      exact decide_eq_decide.mpr (key n).1
    | false =>
      show (!decide (n * b < t * 1)) = !decide (n * (rd t b).2 < (rd t b).1 * 1)
      rw [Int.mul_one, Int.mul_one, decide_eq_decide.mpr (key n).2]
theorem kp_dl {p q : Int × Int} (hp : 0 < p.2) (hq : 0 < q.2) (c : Bn) : kp (dl p q) c = kp (mi p q) c := kp_rd (Int.mul_pos hp hq) c
theorem dl_fk {k : Nat} {p q : Int × Int} (hp : Fr k p) (hq : Fr k q) (h : k + k + 1 ≤ 4000) : Fk (dl p q) := ⟨Int.mul_pos hp.pos hq.pos, ((hp.s1.mul hq.s2).sub (hq.s1.mul hp.s2)).mono h, (hp.s2.mul hq.s2).mono (by omega)⟩
theorem ne_fr (p : Int × Int) : gNeN (fr p) (fr p) = some (.bl false) := by
  unfold gNeN
  have z : eqN 6 (fr p) (fr p) = some true := by show eqL (eqN 5) [D.int p.1, D.int p.2] [D.int p.1, D.int p.2] = _; simp [eqL, eqN, flat_int, eqF]
  rw [z]
  rfl
def S__law_is_point (ds : List D) (d : D) : Prop := ∃ (d0 : D) (ps : List (Int × Int)), IsP d0 ps ∧ (∀ p ∈ ps, Fr 4000 p) ∧ ds = [d0, .int (ps.length : Int)] ∧ d = .bl true
theorem e__law_is_point {d0 : D} {ps : List (Int × Int)} (h : IsP d0 ps) (g : ∀ p ∈ ps, Fr 4000 p) : fn S__law_is_point [d0, .int (ps.length : Int)] = some (.bl true) := fn_eq (fun d' h' => by
  obtain ⟨_, _, _, _, _, rfl⟩ := h'
  rfl) ⟨d0, ps, h, g, rfl, rfl⟩
abbrev S__law_keeps := S_keeps
abbrev S__law_lies := S_lies_in
theorem kp_or (a n b : Int) (s : Bool) : (decide (a < n * b) || (a == n * b && !s)) = kp (a, b) (some (n, s)) := by
  cases s with
  | true =>
    show _ = decide (a * 1 < n * b)
    rw [Int.mul_one, Bool.not_true, Bool.and_false, Bool.or_false]
  | false =>
    show _ = !decide (n * b < a * 1)
    rw [Int.mul_one, Bool.not_false, Bool.and_true, Bool.eq_iff_iff, Bool.or_eq_true, Bool.not_eq_true', decide_eq_true_iff, decide_eq_false_iff_not, beq_iff_eq]
    omega
theorem eq_lst (ps : List (Int × Int)) : gEqN (.lst (ps.map fr)) (.lst (ps.map fr)) = some (.bl true) := by
  unfold gEqN
  have z : eqN 6 (.lst (ps.map fr)) (.lst (ps.map fr)) = some true := eq_frs 4 ps
  rw [z]; rfl
theorem ne_two (ps qs : List (Int × Int)) : gNeN (.lst [.lst (ps.map fr), .lst (qs.map fr)]) (.lst [.lst (ps.map fr), .lst (qs.map fr)]) = some (.bl false) := by
  unfold gNeN
  have z : eqN 6 (.lst [.lst (ps.map fr), .lst (qs.map fr)]) (.lst [.lst (ps.map fr), .lst (qs.map fr)]) = some true := eqL_self (f := eqN 5) fun d m => by
    simp only [List.mem_cons, List.not_mem_nil, or_false] at m
    rcases m with rfl | rfl
    · exact eq_frs 3 ps
    · exact eq_frs 3 qs
  rw [z]; rfl
theorem st_appX {fo : FM} {fe : FD} {δ : DS} {ds : List D} {d : D} (h : fo δ = some (.lst ds, δ)) (g : fe δ = some d) (l : ds.length ≤ 999) : sAppX fo fe δ = some (.nx δ) := by
  unfold sAppX
  rw [h]
  show ((fe δ).bind _) = _
  rw [g]
  exact if_pos l
theorem sh_fr (p : Int × Int) : sh (fr p) = fr p := rfl
theorem cut_len {ds : List D} {n : Nat} (h : n ≤ ds.length) : Dl.cutD ds none (some (n : Int)) = ds.take n := by
  show (ds.drop 0).take ((if ((n : Int)) < 0 then ((n : Int) + (ds.length : Int)).toNat else min (n : Int).toNat ds.length) - 0) = _
  rw [if_neg (by omega), List.drop_zero]
  congr 1
  omega
theorem st_setS {i : Nat} {f : FM} {δ : DS} {d : D} (h : f δ = some (d, δ)) : sSetM i f δ = some (.nx (δ.set i (some d))) := st_set h
theorem src_ints {ns : List Int} {ps : List (Int × Int)} {δ : DS} (h0 : δ[0]? = some (some (.seq (ns.map D.int)))) (h5 : δ[5]? = some (some (.lst (ps.map fr)))) (hl : ps.length ≤ 6) (hn : ns.length ≤ 63) :
    ∃ ks : List Int, ks.length = ps.length ∧ ((fSl (f2 gCatS (fSl (fVar 0) (faS (f1 gNeg (fC (.int 7)))) faN) (f2 gRep (fLst (faCons (fC (.int 0)) faNil)) (fC (.int 7)))) faN (faS (fCall gLen (faCons (fVar 5) faNil)))) δ).bind asL = some (ks.map D.int) := by
  obtain ⟨ms, e⟩ := cutD_ints ns (some (-7)) none
  have lm : ms.length ≤ ns.length := by
    have l := congrArg List.length e
    unfold Dl.cutD at l
    rw [List.length_take, List.length_drop, List.length_map, List.length_map] at l
    omega
  have z : f2 gCatS (fSl (fVar 0) (faS (f1 gNeg (fC (.int 7)))) faN) (f2 gRep (fLst (faCons (fC (.int 0)) faNil)) (fC (.int 7))) δ = some (.lst ((ms ++ List.replicate 7 0).map D.int)) := by
    have z1 : fSl (fVar 0) (faS (f1 gNeg (fC (.int 7)))) faN δ = some (.lst (ms.map D.int)) := by
      unfold fSl
      rw [fVar_of h0]
      show some (D.lst (Dl.cutD (ns.map D.int) (some (-7)) none)) = _
      rw [e]
    have z2 : f2 gRep (fLst (faCons (fC (.int 0)) faNil)) (fC (.int 7)) δ = some (.lst ((List.replicate 7 (0 : Int)).map D.int)) := rfl
    show ((fSl (fVar 0) (faS (f1 gNeg (fC (.int 7)))) faN δ).bind fun x => (f2 gRep (fLst (faCons (fC (.int 0)) faNil)) (fC (.int 7)) δ).bind fun y => gCatS x y) = _
    rw [z1, z2, List.map_append]
    show (if _ then _ else _) = _
    rw [if_pos (by rw [List.length_map, List.length_map, List.length_replicate]; omega)]
  refine ⟨(ms ++ List.replicate 7 0).take ps.length, by rw [List.length_take, List.length_append, List.length_replicate]; omega, ?_⟩
  unfold fSl
  unfold fSl at z
  rw [z]
  show ((faS (fCall gLen (faCons (fVar 5) faNil)) δ).bind fun h => some (D.lst (Dl.cutD ((ms ++ List.replicate 7 0).map D.int) none h))).bind asL = _
  have z3 : faS (fCall gLen (faCons (fVar 5) faNil)) δ = some (some (ps.length : Int)) := by
    unfold faS fCall faCons
    rw [fVar_of h5]
    show some (some (((ps.map fr).length : Nat) : Int)) = _
    rw [List.length_map]
  rw [z3]
  show some (Dl.cutD ((ms ++ List.replicate 7 0).map D.int) none (some (ps.length : Int))) = _
  rw [cut_len (by rw [List.length_map, List.length_append, List.length_replicate]; omega), List.map_take]
theorem vCompG_map {α : Type} {src : FA} {n : Nat} {js : List Nat} {g : D → DS → Option DS} {fc : FT} {felt : FM} {δ : DS} {f h : α → D} {xs : List α} (hs : src δ = some (xs.map f)) (ht : ∀ x ∈ xs, turnG n js g fc felt δ (f x) = some (some (h x))) (hl : xs.length ≤ 1000) :
    vCompG src n js g fc felt δ = some (.lst (xs.map h), δ) := by
  have m : ∀ ys : List α, (∀ y ∈ ys, turnG n js g fc felt δ (f y) = some (some (h y))) → mapF (turnG n js g fc felt δ) (ys.map f) = some (ys.map h) := by
    intro ys
    induction ys with
    | nil => intro _; rfl
    | cons y ys ih =>
      intro hy
      show ((turnG n js g fc felt δ (f y)).bind _) = _
      rw [hy y List.mem_cons_self]
      show ((mapF (turnG n js g fc felt δ) (ys.map f)).bind _) = _
      rw [ih fun z m => hy z (List.mem_cons_of_mem _ m)]
      rfl
  unfold vCompG
  rw [hs]
  show ((mapF _ _).bind _) = _
  rw [m xs ht]
  show (if (xs.map h).length ≤ 1000 then _ else _) = _
  rw [if_pos (by rw [List.length_map]; exact hl)]
theorem turnG_one {n : Nat} {js : List Nat} {g : D → DS → Option DS} {fc : FT} {felt : FM} {δ δ1 : DS} {d e : D} (h1 : g d (noneTo n (slotsOf js δ)) = some δ1) (h2 : fc δ1 = some true) (h3 : Dl.ownOf felt (shO δ1) = some e) : turnG n js g fc felt δ d = some (some e) := by
  unfold turnG
  rw [h1]
  show ((fc δ1).bind _) = _
  rw [h2]
  show (Dl.ownOf felt (shO δ1)).map some = _
  rw [h3]
  rfl
theorem own_imm {felt : FM} {δ δ' : DS} {e : D} (h : felt δ = some (e, δ')) (o : own e = true) : Dl.ownOf felt δ = some e := by
  unfold Dl.ownOf
  rw [h]
  exact if_pos o
theorem zipD_frs {δ : DS} {g : FA} {ps qs : List (Int × Int)} (h : g δ = some [.seq (ps.map fr), .seq (qs.map fr)]) : zipD g δ = some ((ps.zip qs).map fun p => .tup [fr p.1, fr p.2]) := by
  unfold zipD
  rw [h]
  show some (List.zipWith (fun d e => D.tup [d, e]) (ps.map fr) (qs.map fr)) = _
  rw [List.zipWith_map, List.zip, List.map_zipWith]
def eB (c : Int) : Int := if c % 2 = 0 then 1 + c / 2 % 9 else 1 + c / 2 % 10 ^ 50
theorem eB_pos (c : Int) : 0 < eB c := by unfold eB; split <;> omega
theorem eB_sm (c : Int) : Sm 200 (eB c) := by unfold eB; split <;> exact Sm.of (by omega) (by omega)
def eF (c : Int) : Int × Int := rd (c / 18 % (eB c + 1)) (eB c)
theorem eF_fr (c : Int) : Fr 200 (eF c) := by
  have hb := eB_pos c
  have h0 := Int.emod_nonneg (c / 18) (show eB c + 1 ≠ 0 by omega)
  have h1 := Int.emod_lt_of_pos (c / 18) (show 0 < eB c + 1 by omega)
  have hs := eB_sm c
  have s1 : Sm 200 (c / 18 % (eB c + 1)) := by
    unfold Sm at *
    omega
  have h := rd_sm (k := 200) hb s1 hs
  exact ⟨rd_lo hb, h.1, h.2⟩
def S__law_e (ds : List D) (d : D) : Prop := ∃ c, ds = [.int c] ∧ d = fr (eF c)
theorem e__law_e {c : Int} : fn S__law_e [.int c] = some (fr (eF c)) := fn_eq (fun d' h' => by
  obtain ⟨c', h2, rfl⟩ := h'
  cases h2; rfl) ⟨c, rfl, rfl⟩
def du1 (e : Int × Int) (ps qs : List (Int × Int)) (i : Nat) : Int × Int := du e (ps.getD i (0, 1)) (qs.getD i (0, 1))
def dues (e : Int × Int) (ps qs : List (Int × Int)) : List (Int × Int) := (List.range ps.length).map (du1 e ps qs)
theorem ix_pts {ps : List (Int × Int)} {i : Nat} (h : i < ps.length) : gIx (.seq (ps.map fr)) (.int (i : Int)) = some (fr (ps.getD i (0, 1))) ∧ gIx (.lst (ps.map fr)) (.int (i : Int)) = some (fr (ps.getD i (0, 1))) := by
  have e : (ps.map fr)[i]? = some (fr (ps.getD i (0, 1))) := by
    rw [List.getElem?_map, List.getD_eq_getElem?_getD, List.getElem?_eq_getElem h]
    rfl
  exact ⟨atI_of e, atI_of e⟩
theorem getD_fr {k : Nat} {ps : List (Int × Int)} (hk : 1 ≤ k) (h : ∀ p ∈ ps, Fr k p) (i : Nat) : Fr k (ps.getD i (0, 1)) := by
  rw [List.getD_eq_getElem?_getD]
  cases q : ps[i]? with
  | none => exact zero_fr hk
  | some p => exact h p (List.mem_of_getElem? q)
def S__law_due (ds : List D) (d : D) : Prop := ∃ (d0 d1 : D) (e : Int × Int) (ps qs : List (Int × Int)), IsP d0 ps ∧ IsP d1 qs ∧ Fr 200 e ∧ (∀ p ∈ ps, Fr 200 p) ∧ (∀ p ∈ qs, Fr 200 p) ∧ ps.length = qs.length ∧ ps.length ≤ 40 ∧ ds = [d0, d1, fr e] ∧ d = .lst ((dues e ps qs).map fr)
theorem e__law_due {d0 d1 : D} {e : Int × Int} {ps qs : List (Int × Int)} (h1 : IsP d0 ps) (h2 : IsP d1 qs) (h3 : Fr 200 e) (h4 : ∀ p ∈ ps, Fr 200 p) (h5 : ∀ p ∈ qs, Fr 200 p) (h6 : ps.length = qs.length) (h7 : ps.length ≤ 40) : fn S__law_due [d0, d1, fr e] = some (.lst ((dues e ps qs).map fr)) := fn_eq (fun d' h' => by
  obtain ⟨e0, e1, ⟨x, y⟩, us, vs, g1, g2, _, _, _, _, _, h, rfl⟩ := h'
  obtain ⟨x', y'⟩ := e
  injection h with a b
  injection b with b c
  injection c with c _
  subst a b
  cases c
  rw [h1.inj g1, h2.inj g2]) ⟨d0, d1, e, ps, qs, h1, h2, h3, h4, h5, h6, h7, rfl, rfl⟩
theorem eF_in (c : Int) : 0 ≤ (eF c).1 ∧ (eF c).1 ≤ (eF c).2 := by
  have hb := eB_pos c
  have h0 := Int.emod_nonneg (c / 18) (show eB c + 1 ≠ 0 by omega)
  have h1 := Int.emod_lt_of_pos (c / 18) (show 0 < eB c + 1 by omega)
  have g := gc_pos (t := c / 18 % (eB c + 1)) hb
  unfold eF rd
  dsimp only
  exact ⟨Int.ediv_nonneg h0 (by omega), Int.ediv_le_ediv g (by omega)⟩
theorem dues_len (e : Int × Int) (ps qs : List (Int × Int)) : (dues e ps qs).length = ps.length := by unfold dues; rw [List.length_map, List.length_range]
theorem dues_get {e : Int × Int} {ps qs : List (Int × Int)} {i : Nat} (h : i < ps.length) : (dues e ps qs)[i]? = some (du1 e ps qs i) := by
  unfold dues
  rw [List.getElem?_map, List.getElem?_range h]
  rfl
theorem list_ext {α : Type} {xs ys : List α} (n : Nat) (h1 : xs.length = n) (h2 : ys.length = n) (h : ∀ i, i < n → xs[i]? = ys[i]?) : xs = ys := by
  refine List.ext_getElem? fun i => ?_
  by_cases hi : i < n
  · exact h i hi
  · rw [List.getElem?_eq_none (by omega), List.getElem?_eq_none (by omega)]
theorem dues_zip {e : Int × Int} {ps qs : List (Int × Int)} (h : ps.length = qs.length) : (ps.zip qs).map (fun p => du e p.1 p.2) = dues e ps qs := by
  refine list_ext ps.length (by rw [List.length_map, List.length_zip]; omega) (dues_len e ps qs) fun i hi => ?_
  rw [dues_get hi, List.getElem?_map, (List.getElem?_zip_eq_some (z := (ps[i], qs[i]'(by omega)))).mpr ⟨List.getElem?_eq_getElem hi, List.getElem?_eq_getElem (by omega)⟩]
  unfold du1
  rw [List.getD_eq_getElem?_getD, List.getD_eq_getElem?_getD, List.getElem?_eq_getElem hi, List.getElem?_eq_getElem (by omega)]
  rfl
theorem du_fr {e p q : Int × Int} (he : Fr 200 e) (hp : Fr 200 p) (hq : Fr 200 q) : Fr 1900 (du e p q) := by
  unfold du
  refine Fr.rd (du_den he.pos hp.pos hq.pos) ?_ ?_
  · exact (Sm.add (((hp.s1.mul (hq.s2.mul hp.s2)).mul he.s2).mono (l := 1001) (by decide)) (((he.s1.mul ((hq.s1.mul hp.s2).sub (hp.s1.mul hq.s2))).mul hp.s2).mono (l := 1001) (by decide))).mono (by decide)
  · exact ((hp.s2.mul (hq.s2.mul hp.s2)).mul he.s2).mono (by decide)
theorem dues_fr {e : Int × Int} {ps qs : List (Int × Int)} (he : Fr 200 e) (hp : ∀ p ∈ ps, Fr 200 p) (hq : ∀ p ∈ qs, Fr 200 p) : ∀ p ∈ dues e ps qs, Fr 1900 p := fun p m => by
  unfold dues at m
  obtain ⟨i, _, rfl⟩ := List.mem_map.mp m
  exact du_fr he (getD_fr (by decide) hp i) (getD_fr (by decide) hq i)
theorem dues_zero {ps qs : List (Int × Int)} (hp : ∀ p ∈ ps, Fr 200 p) (hq : ∀ p ∈ qs, Fr 200 p) : dues (0, 1) ps qs = ps := by
  refine list_ext ps.length (dues_len _ _ _) rfl fun i hi => ?_
  rw [dues_get hi]
  unfold du1
  rw [du_zero (getD_fr (by decide) hp i).lw (getD_fr (by decide) hq i).lw, List.getD_eq_getElem?_getD, List.getElem?_eq_getElem hi]
  rfl
theorem dues_one {ps qs : List (Int × Int)} (hl : ps.length = qs.length) (hp : ∀ p ∈ ps, Fr 200 p) (hq : ∀ p ∈ qs, Fr 200 p) : dues (1, 1) ps qs = qs := by
  refine list_ext ps.length (dues_len _ _ _) hl.symm fun i hi => ?_
  rw [dues_get hi]
  unfold du1
  rw [du_one (getD_fr (by decide) hp i).lw (getD_fr (by decide) hq i).lw, List.getD_eq_getElem?_getD, List.getElem?_eq_getElem (by omega)]
  rfl
theorem dues_swap {e : Int × Int} {ps qs : List (Int × Int)} (hl : ps.length = qs.length) (he : Fr 200 e) (hp : ∀ p ∈ ps, Fr 200 p) (hq : ∀ p ∈ qs, Fr 200 p) : dues (rd (e.2 - e.1) e.2) qs ps = dues e ps qs := by
  refine list_ext ps.length (by rw [dues_len, hl]) (dues_len _ _ _) fun i hi => ?_
  rw [dues_get (show i < qs.length by omega), dues_get hi]
  unfold du1
  rw [du_swap he.lw (getD_fr (by decide) hp i).lw (getD_fr (by decide) hq i).lw]
theorem rest_fr {e : Int × Int} (he : Fr 200 e) (h0 : 0 ≤ e.1) (h1 : e.1 ≤ e.2) : Fr 200 (rd (e.2 - e.1) e.2) := Fr.rd he.pos (by have := he.s2; unfold Sm at *; omega) he.s2
theorem valAt_dues {e : Int × Int} {ps qs : List (Int × Int)} (he : Fr 200 e) (hl : ps.length = qs.length) (i : Nat) (hi : i < ps.length + 1) : valAt (dues e ps qs) i = du e (valAt ps i) (valAt qs i) := by
  cases i with
  | zero =>
    show (0, 1) = du e (0, 1) (0, 1)
    have z : Lw ((0, 1) : Int × Int) := lo01
    unfold du
    refine (rd_eq (du_den (p := (0, 1)) (q := (0, 1)) he.pos (by decide) (by decide)) z ?_).symm
    simp
  | succ i =>
    have h1 : ∀ xs : List (Int × Int), valAt xs (i + 1) = xs.getD i (0, 1) := fun xs => by
      unfold valAt vals
      rw [List.getD_eq_getElem?_getD, List.getD_eq_getElem?_getD, List.getElem?_cons_succ]
    rw [h1, h1, h1, List.getD_eq_getElem?_getD, dues_get (by omega)]
    rfl
theorem lies_mid {T : List (List Bn)} {e : Int × Int} {ps qs : List (Int × Int)} (he : Fr 200 e) (h0 : 0 ≤ e.1) (h1 : e.1 ≤ e.2) (hl : ps.length = qs.length) (hp : ∀ p ∈ ps, Fr 200 p) (hq : ∀ p ∈ qs, Fr 200 p) (a : lies T ps = true) (b : lies T qs = true) : lies T (dues e ps qs) = true := by
  unfold lies at *
  rw [dues_len]
  rw [← hl] at b
  rw [List.all_eq_true] at *
  intro i hi
  have a1 := a i hi
  have b1 := b i hi
  rw [List.all_eq_true] at *
  intro j hj
  have i1 := List.mem_range.mp hi
  have j1 := List.mem_range.mp hj
  unfold dif at *
  rw [valAt_dues he hl i i1, valAt_dues he hl j j1]
  exact kp_du he.lw h0 h1 (valAt_fr (by decide) hp i).lw (valAt_fr (by decide) hq i).lw (valAt_fr (by decide) hp j).lw (valAt_fr (by decide) hq j).lw (a1 j hj) (b1 j hj)
def S_mixed (ds : List D) (d : D) : Prop := S__law_due ds d
theorem e_mixed {d0 d1 : D} {e : Int × Int} {ps qs : List (Int × Int)} (h1 : IsP d0 ps) (h2 : IsP d1 qs) (h3 : Fr 200 e) (h4 : ∀ p ∈ ps, Fr 200 p) (h5 : ∀ p ∈ qs, Fr 200 p) (h6 : ps.length = qs.length) (h7 : ps.length ≤ 40) : fn S_mixed [d0, d1, fr e] = some (.lst ((dues e ps qs).map fr)) := e__law_due h1 h2 h3 h4 h5 h6 h7
theorem one_fr : Fr 200 ((1, 1) : Int × Int) := ⟨⟨by decide, by decide⟩, Sm.mono (k := 1) (show (1 : Int).natAbs < 2 ^ 1 by decide) (by decide), Sm.mono (k := 1) (show (1 : Int).natAbs < 2 ^ 1 by decide) (by decide)⟩
theorem mx_val {e p q : Int × Int} (he : Fr 200 e) (hp : Fr 200 p) (hq : Fr 200 q) : Flw (mi (1, 1) e) ∧ Flw (ti (mi (1, 1) e) p) ∧ Flw (ti e q) ∧ pl (ti (mi (1, 1) e) p) (ti e q) = du e p q :=
  ⟨Flw.of (one_fr.mi he), Flw.of ((one_fr.mi he).ti (hp.mono (by decide))), Flw.of (he.ti hq), mx_du he.pos hp.lw hq.lw he.lw⟩
section
variable {P : Program} {w : World} {K : PySem.W.Frag} {mg : Str → Option Value} {base : Heap} {f : Addr} {fd : FuncData}
abbrev s_is_whole : Stmt := top 4
theorem sc_is_whole : FnScope ["thing"] ["thing"] (defScope s_is_whole) := ⟨rfl, rfl, rfl, by decide +kernel, rfl, by decide +kernel, by decide +kernel⟩
theorem ok_is_whole (F : Fun K "is_whole" "is_whole" s_is_whole f fd)    (m_isinstance : mg "isinstance" = none) (m_int : mg "int" = none) (m_bool : mg "bool" = none) : FnOk P w K mg base CX0 1 f fd ["thing"] (pureSp K 1 (fn S_is_whole)) := by
  have sc := sc_is_whole
  refine pure_ok F sc_is_whole (fun cdv A outer s H E ds d hr hG hl => ?_)
  obtain ⟨x, b, h, rfl, rfl⟩ := fn_inv hG
  refine ⟨_, (psd_one (psd_ret (pd_and (pd_callB call_isi (cd_isi ok_isInt) rfl m_isinstance boot_isinstance (pad_cons (pd_var 0) (pad_cons (pd_ty rfl m_int boot_int) pad_nil))) (pd_one (pd_not (pd_callB call_isi (cd_isi ok_isBool) rfl m_isinstance boot_isinstance (pad_cons (pd_var 0) (pad_cons (pd_ty rfl m_bool boot_bool) pad_nil)))))))), ?_⟩
  · show retOf ((?f : SD) [some _]) = _
    cases x <;> simp [gWhole] at h <;> subst h <;> rfl
abbrev s_common_divisor : Stmt := top 5
theorem sc_common_divisor : FnScope ["number", "above_nought", "one", "other", "rest"] ["number", "above_nought"] (defScope s_common_divisor) := ⟨rfl, rfl, rfl, by decide +kernel, rfl, by decide +kernel, by decide +kernel⟩
def cdC : FT := fT (f2 gNe (fVar 3) (fC (.int 0)))
def cdS : SD := sSeq (sSet 4 (f2 (gI (fun _ j => 0 < j) fun i j => .int (i % j)) (fVar 2) (fVar 3))) (sSeq (sSet 2 (fVar 3)) (sSet 3 (fVar 4)))
theorem cd_loop : ∀ (n : Nat) (x y : Int) (u v o : Option D), 0 ≤ y → (y = 0 → 0 ≤ x) → y.toNat < n → ∃ o', sWhile n cdC cdS [u, v, some (.int x), some (.int y), o] = some (.nx [u, v, some (.int (gc x y)), some (.int 0), o'])
  | 0, x, y, u, v, o, h0, h1, h2 => by omega
  | n + 1, x, y, u, v, o, h0, h1, h2 => by
    by_cases h : y = 0
    · subst h
      refine ⟨o, ?_⟩
      rw [gc_zero (h1 rfl)]
      rfl
    · have hy : 0 < y := by omega
      have hc : cdC [u, v, some (.int x), some (.int y), o] = some true := by
        show some (!(y == 0)) = some true
        simp [h]
      have hs : cdS [u, v, some (.int x), some (.int y), o] = some (.nx [u, v, some (.int y), some (.int (x % y)), some (.int (x % y))]) := by
        unfold cdS
        simp only [retOf, sNil, sThen, sSeq, sRet, sDrop, sSet, sIf, sPar, sUn2, sFor, asL, gSet, forD, fVar, fC, f2, f1, fT, asB, fNotT, fAndT, fOrT, fAndV, fOrV, gNot, gNeg, faNil, faCons, fTup, fLst, fCall, gAbs, gInt, gLen_t2, gLen_seq, gIx_t0, gIx_t1, gI0, gAdd_int, gNe_int, gEq_int, gEq_bl, gEq_tup2, gNe_tup2, gIsi_same, Dl.isInt, Dl.isBool, Dl.isTup, Option.bind_some, Option.map_some, List.map_cons, List.map_nil, List.length_cons, List.length_nil, List.getElem?_cons_zero, List.getElem?_cons_succ, List.set_cons_zero, List.set_cons_succ, List.cons_append, List.nil_append, List.append_nil, Bool.not_true, Bool.not_false, beq_self_eq_true, bdD_none, bdD_some, gIsN, isNon, sSetM, sRetM, sDropM, vI, vName, vShare, vWalk, vNil, vCons, vLst, vTup, vCall, sh_bd, gI_pos (C := fun _ j => 0 < j) (i := x) hy]
      obtain ⟨o', ih⟩ := cd_loop n y (x % y) u v (some (.int (x % y))) (Int.emod_nonneg x h) (fun _ => h0) (by have := Int.emod_lt_of_pos x hy; omega)
      refine ⟨o', ?_⟩
      rw [gc_step] at ih
      rw [sWhile_t hc hs]
      exact ih
theorem ok_common_divisor (F : Fun K "common_divisor" "common_divisor" s_common_divisor f fd)     : FnOk P w K mg base CX0 1 f fd ["number", "above_nought"] (pureSp K 2 (fn S_common_divisor)) := by
  have sc := sc_common_divisor
  refine pure_ok F sc_common_divisor (fun cdv A outer s H E ds d hr hG hl => ?_)
  obtain ⟨a, b, hb, rfl, rfl⟩ := fn_inv hG
  refine ⟨_, (psd_cons (psd_set 2 sc.nd (pd_var 0))
      (psd_cons (psd_set 3 sc.nd (pd_var 1))
      (psd_cons (psd_while (b.toNat + 1) PassesOwn.never (ptd_ne hr.units0 (pd_var 3) pd_int)
        (psd_cons (psd_set 4 sc.nd (pd_mod (pd_var 2) (pd_var 3)))
        (psd_cons (psd_set 2 sc.nd (pd_var 3))
        (psd_one (psd_set 3 sc.nd (pd_var 4))))))
      (psd_one (psd_ret (pd_var 2)))))), ?_⟩
  · show retOf ((?f : SD) [some _, some _, none, none, none]) = _
    obtain ⟨o, ho⟩ := cd_loop (b.toNat + 1) a b (some (.int a)) (some (.int b)) none (by omega) (by omega) (by omega)
    show retOf ((sWhile (b.toNat + 1) cdC cdS [some (.int a), some (.int b), some (.int a), some (.int b), none]).bind (sThen (sRet (fVar 2)))) = _
    rw [ho]
    rfl
abbrev s__law_cell_at : Stmt := top 15
theorem sc__law_cell_at : FnScope ["_law_script", "_law_k"] ["_law_script", "_law_k"] (defScope s__law_cell_at) := ⟨rfl, rfl, rfl, by decide +kernel, rfl, by decide +kernel, by decide +kernel⟩
theorem ok__law_cell_at (F : Fun K "_law_cell_at" "_law_cell_at" s__law_cell_at f fd)    (m_len : mg "len" = none) : FnOk P w K mg base CX0 1 f fd ["_law_script", "_law_k"] (pureSp K 2 (fn S__law_cell_at)) := by
  have sc := sc__law_cell_at
  refine pure_ok F sc__law_cell_at (fun cdv A outer s H E ds d hr hG hl => ?_)
  obtain ⟨ns, k, hk, rfl, rfl⟩ := fn_inv hG
  refine ⟨_, (psd_cons (psd_if (ptd_lt (pd_var 1) (pd_callB call_len_seq cd_len rfl m_len PySem.boot_len (pad_cons (pd_var 0) pad_nil))) (psd_one (psd_ret (pd_ix (pd_var 0) (pd_var 1)))) psd_nil)
      (psd_one (psd_ret pd_int))), ?_⟩
  · show retOf ((?f : SD) [some _, some _]) = _
    by_cases hlt : k < (ns.length : Int)
    · have h1 : decide (k < (((ns.map D.int).length : Nat) : Int)) = true := decide_eq_true (by rw [List.length_map]; exact hlt)
      have h2 : gIx (.seq (ns.map D.int)) (.int k) = some (.int (cell ns k)) := by
        show L2.atI (ns.map D.int) k = _
        have ek : k = ((k.toNat : Nat) : Int) := by omega
        have hk2 : k.toNat < ns.length := by omega
        have h3 := atI_nat (xs := ns.map D.int) (j := k.toNat) (v := D.int ns[k.toNat]) (by rw [List.getElem?_map, List.getElem?_eq_getElem hk2] <;> rfl)
        rw [← ek] at h3
        rw [h3]
        unfold cell
        simp [List.getD_eq_getElem?_getD, hk2]
      simp only [retOf, sNil, sThen, sSeq, sRet, sDrop, sSet, sIf, sPar, sUn2, sFor, asL, gSet, forD, fVar, fC, f2, f1, fT, asB, fNotT, fAndT, fOrT, fAndV, fOrV, gNot, gNeg, faNil, faCons, fTup, fLst, fCall, gAbs, gInt, gLen_t2, gLen_seq, gIx_t0, gIx_t1, gI0, gAdd_int, gNe_int, gEq_int, gEq_bl, gEq_tup2, gNe_tup2, gIsi_same, Dl.isInt, Dl.isBool, Dl.isTup, Option.bind_some, Option.map_some, List.map_cons, List.map_nil, List.length_cons, List.length_nil, List.getElem?_cons_zero, List.getElem?_cons_succ, List.set_cons_zero, List.set_cons_succ, List.cons_append, List.nil_append, List.append_nil, Bool.not_true, Bool.not_false, beq_self_eq_true, bdD_none, bdD_some, gIsN, isNon, sSetM, sRetM, sDropM, vI, vName, vShare, vWalk, vNil, vCons, vLst, vTup, vCall, sh_bd, h1, h2]
    · have h1 : decide (k < (((ns.map D.int).length : Nat) : Int)) = false := decide_eq_false (by rw [List.length_map]; exact hlt)
      have h2 : cell ns k = 0 := by
        unfold cell
        rw [List.getD_eq_getElem?_getD, List.getElem?_eq_none (by omega)]
        rfl
      simp only [retOf, sNil, sThen, sSeq, sRet, sDrop, sSet, sIf, sPar, sUn2, sFor, asL, gSet, forD, fVar, fC, f2, f1, fT, asB, fNotT, fAndT, fOrT, fAndV, fOrV, gNot, gNeg, faNil, faCons, fTup, fLst, fCall, gAbs, gInt, gLen_t2, gLen_seq, gIx_t0, gIx_t1, gI0, gAdd_int, gNe_int, gEq_int, gEq_bl, gEq_tup2, gNe_tup2, gIsi_same, Dl.isInt, Dl.isBool, Dl.isTup, Option.bind_some, Option.map_some, List.map_cons, List.map_nil, List.length_cons, List.length_nil, List.getElem?_cons_zero, List.getElem?_cons_succ, List.set_cons_zero, List.set_cons_succ, List.cons_append, List.nil_append, List.append_nil, Bool.not_true, Bool.not_false, beq_self_eq_true, bdD_none, bdD_some, gIsN, isNon, sSetM, sRetM, sDropM, vI, vName, vShare, vWalk, vNil, vCons, vLst, vTup, vCall, sh_bd, h1, h2]
abbrev s__law_mixed : Stmt := top 16
theorem sc__law_mixed : FnScope ["_law_cell", "_law_k", "_law_number"] ["_law_cell", "_law_k"] (defScope s__law_mixed) := ⟨rfl, rfl, rfl, by decide +kernel, rfl, by decide +kernel, by decide +kernel⟩
theorem ok__law_mixed (F : Fun K "_law_mixed" "_law_mixed" s__law_mixed f fd)     : FnOk P w K mg base CX0 1 f fd ["_law_cell", "_law_k"] (freshSp K 2 (fn S__law_mixed)) := by
  have sc := sc__law_mixed
  refine fresh_ok F sc__law_mixed (fun cdv A outer s H E ds d hr hG hl => ?_)
  obtain ⟨c, k, hk0, hk1, rfl, rfl⟩ := fn_inv hG
  have hown : own (.int (mxd c k)) = true := rfl
  refine ⟨_, (pm_cons (pm_set 2 sc.nd (pv_imm (pd_mod (pd_add (pd_add (pd_add (pd_mulW (pd_var 0) pd_int) (pd_mulW (pd_mulW (pd_var 1) (pd_var 1)) pd_int)) (pd_mulW pd_int (pd_var 1))) pd_int) pd_int)))
      (pm_one (pm_ret (pv_imm (pd_mod (pd_mulW (pd_var 2) (pd_var 2)) pd_int))))), ?_, ?own⟩
  case own => first | rfl | exact hown
  · show retOf ((?f : SD) (startM 3 _)) = _
    have e0 : startM 3 [.int c, .int k] = [some (.int c), some (.int k), none] := rfl
    rw [e0]
    have w1 : CMulW c 48271 := .inr (.inr (by decide))
    have w2 : CMulW k k := .inr (.inl (by omega))
    have w3 : CMulW (k * k) 69621 := .inr (.inr (by decide))
    have w4 : CMulW 7 k := .inr (.inl (by decide))
    obtain ⟨n, hn⟩ : ∃ n, n = (c * 48271 + k * k * 69621 + 7 * k + 11) % 2147483647 := ⟨_, rfl⟩
    have n0 : 0 ≤ n := by rw [hn]; exact Int.emod_nonneg _ (by decide)
    have n1 : n < 2147483647 := by rw [hn]; exact Int.emod_lt_of_pos _ (by decide)
    have w5 : CMulW n n := .inr (.inl (by omega))
    have em : mxd c k = n * n % 2147483629 := by rw [hn]; rfl
    rw [em]
    exact rt_of (st_seq (st_set (v_imm (d := .int n) (by simp only [retOf, sNil, sThen, sSeq, sRet, sDrop, sSet, sIf, sPar, sUn2, sFor, asL, gSet, forD, fVar, fC, f2, f1, fT, asB, fNotT, fAndT, fOrT, fAndV, fOrV, gNot, gNeg, faNil, faCons, fTup, fLst, fCall, gAbs, gInt, gLen_t2, gLen_seq, gIx_t0, gIx_t1, gI0, gAdd_int, gNe_int, gEq_int, gEq_bl, gEq_tup2, gNe_tup2, gIsi_same, Dl.isInt, Dl.isBool, Dl.isTup, Option.bind_some, Option.map_some, List.map_cons, List.map_nil, List.length_cons, List.length_nil, List.getElem?_cons_zero, List.getElem?_cons_succ, List.set_cons_zero, List.set_cons_succ, List.cons_append, List.nil_append, List.append_nil, Bool.not_true, Bool.not_false, beq_self_eq_true, bdD_none, bdD_some, gIsN, isNon, sSetM, sRetM, sDropM, vI, vName, vShare, vWalk, vNil, vCons, vLst, vTup, vCall, sh_bd, gI_pos (C := CMulW) w1, gI_pos (C := CMulW) w2, gI_pos (C := CMulW) w3, gI_pos (C := CMulW) w4, gI_pos (C := fun _ j => 0 < j) (i := c * 48271 + k * k * 69621 + 7 * k + 11) (j := 2147483647) (by decide), hn]))) (st_ret (v_imm (by simp only [retOf, sNil, sThen, sSeq, sRet, sDrop, sSet, sIf, sPar, sUn2, sFor, asL, gSet, forD, fVar, fC, f2, f1, fT, asB, fNotT, fAndT, fOrT, fAndV, fOrV, gNot, gNeg, faNil, faCons, fTup, fLst, fCall, gAbs, gInt, gLen_t2, gLen_seq, gIx_t0, gIx_t1, gI0, gAdd_int, gNe_int, gEq_int, gEq_bl, gEq_tup2, gNe_tup2, gIsi_same, Dl.isInt, Dl.isBool, Dl.isTup, Option.bind_some, Option.map_some, List.map_cons, List.map_nil, List.length_cons, List.length_nil, List.getElem?_cons_zero, List.getElem?_cons_succ, List.set_cons_zero, List.set_cons_succ, List.cons_append, List.nil_append, List.append_nil, Bool.not_true, Bool.not_false, beq_self_eq_true, bdD_none, bdD_some, gIsN, isNon, sSetM, sRetM, sDropM, vI, vName, vShare, vWalk, vNil, vCons, vLst, vTup, vCall, sh_bd, gI_pos (C := CMulW) w5, gI_pos (C := fun _ j => 0 < j) (i := n * n) (j := 2147483629) (by decide)]))))
abbrev s__law_lowest : Stmt := top 17
theorem sc__law_lowest : FnScope ["_law_top", "_law_bottom", "_law_one", "_law_other"] ["_law_top", "_law_bottom"] (defScope s__law_lowest) := ⟨rfl, rfl, rfl, by decide +kernel, rfl, by decide +kernel, by decide +kernel⟩
def llC : FT := fT (f2 gGt (fVar 3) (fC (.int 0)))
def llS : SD := sPar 2 3 (faCons (fVar 3) (faCons (f2 (gI (fun _ j => 0 < j) fun i j => .int (i % j)) (fVar 2) (fVar 3)) faNil))
theorem ll_loop : ∀ (n : Nat) (x y : Int) (u v : Option D), 0 ≤ y → (y = 0 → 0 ≤ x) → y.toNat < n → sWhile n llC llS [u, v, some (.int x), some (.int y)] = some (.nx [u, v, some (.int (gc x y)), some (.int 0)])
  | 0, x, y, u, v, h0, h1, h2 => by omega
  | n + 1, x, y, u, v, h0, h1, h2 => by
    by_cases h : y = 0
    · subst h
      rw [gc_zero (h1 rfl)]
      rfl
    · have hy : 0 < y := by omega
      have hc : llC [u, v, some (.int x), some (.int y)] = some true := by
        show some (decide (y > 0)) = some true
        rw [decide_eq_true hy]
      have hs : llS [u, v, some (.int x), some (.int y)] = some (.nx [u, v, some (.int y), some (.int (x % y))]) := by
        unfold llS
        simp only [retOf, sNil, sThen, sSeq, sRet, sDrop, sSet, sIf, sPar, sUn2, sFor, asL, gSet, forD, fVar, fC, f2, f1, fT, asB, fNotT, fAndT, fOrT, fAndV, fOrV, gNot, gNeg, faNil, faCons, fTup, fLst, fCall, gAbs, gInt, gLen_t2, gLen_seq, gIx_t0, gIx_t1, gI0, gAdd_int, gNe_int, gEq_int, gEq_bl, gEq_tup2, gNe_tup2, gIsi_same, Dl.isInt, Dl.isBool, Dl.isTup, Option.bind_some, Option.map_some, List.map_cons, List.map_nil, List.length_cons, List.length_nil, List.getElem?_cons_zero, List.getElem?_cons_succ, List.set_cons_zero, List.set_cons_succ, List.cons_append, List.nil_append, List.append_nil, Bool.not_true, Bool.not_false, beq_self_eq_true, bdD_none, bdD_some, gIsN, isNon, sSetM, sRetM, sDropM, vI, vName, vShare, vWalk, vNil, vCons, vLst, vTup, vCall, sh_bd, gI_pos (C := fun _ j => 0 < j) (i := x) hy]
      have ih := ll_loop n y (x % y) u v (Int.emod_nonneg x h) (fun _ => h0) (by have := Int.emod_lt_of_pos x hy; omega)
      rw [gc_step] at ih
      rw [sWhile_t hc hs]
      exact ih
theorem ok__law_lowest (F : Fun K "_law_lowest" "_law_lowest" s__law_lowest f fd)    (m_abs : mg "abs" = none) : FnOk P w K mg base CX0 1 f fd ["_law_top", "_law_bottom"] (pureSp K 2 (fn S__law_lowest)) := by
  have sc := sc__law_lowest
  refine pure_ok F sc__law_lowest (fun cdv A outer s H E ds d hr hG hl => ?_)
  obtain ⟨t, b, hb, hB, rfl, rfl⟩ := fn_inv hG
  refine ⟨_, (psd_cons (psd_set 2 sc.nd (pd_callB call_abs cd_abs rfl m_abs PyProof.Rows.boot_abs (pad_cons (pd_var 0) pad_nil)))
      (psd_cons (psd_set 3 sc.nd (pd_var 1))
      (psd_cons (psd_while (b.toNat + 1) PassesOwn.never (ptd_gt (pd_var 3) pd_int)
        (psd_one (psd_par 2 3 rfl sc.nd (pad_cons (pd_var 3) (pad_cons (pd_mod (pd_var 2) (pd_var 3)) pad_nil)))))
      (psd_one (psd_ret (pd_tup (pad_cons (pd_fdiv (pd_var 0) (pd_var 2)) (pad_cons (pd_fdiv (pd_var 1) (pd_var 2)) pad_nil)))))))), ?_⟩
  · show retOf ((?f : SD) [some _, some _, none, none]) = _
    have hg := gc_pos (t := t) hb
    have hgB : Bd (gc t b) := bd_le (by omega) (gc_le (t := t) hb) hB
    have ho := ll_loop (b.toNat + 1) (t.natAbs : Int) b (some (.int t)) (some (.int b)) (by omega) (by omega) (by omega)
    rw [gc_abs] at ho
    refine rt_of (st_seq (st_setD (d := .int (t.natAbs : Int)) rfl) (st_seq (st_setD (d := .int b) rfl) (st_seq ho (st_retD (d := fr (rd t b)) ?_))))
    simp only [retOf, sNil, sThen, sSeq, sRet, sDrop, sSet, sIf, sPar, sUn2, sFor, asL, gSet, forD, fVar, fC, f2, f1, fT, asB, fNotT, fAndT, fOrT, fAndV, fOrV, gNot, gNeg, faNil, faCons, fTup, fLst, fCall, gAbs, gInt, gLen_t2, gLen_seq, gIx_t0, gIx_t1, gI0, gAdd_int, gNe_int, gEq_int, gEq_bl, gEq_tup2, gNe_tup2, gIsi_same, Dl.isInt, Dl.isBool, Dl.isTup, Option.bind_some, Option.map_some, List.map_cons, List.map_nil, List.length_cons, List.length_nil, List.getElem?_cons_zero, List.getElem?_cons_succ, List.set_cons_zero, List.set_cons_succ, List.cons_append, List.nil_append, List.append_nil, Bool.not_true, Bool.not_false, beq_self_eq_true, bdD_none, bdD_some, gIsN, isNon, sSetM, sRetM, sDropM, vI, vName, vShare, vWalk, vNil, vCons, vLst, vTup, vCall, sh_bd, gI_pos (C := CDivB) (i := t) ⟨hg, hgB⟩, gI_pos (C := CDivB) (i := b) ⟨hg, hgB⟩]
    rfl
abbrev s__law_less : Stmt := top 18
theorem sc__law_less : FnScope ["_law_one", "_law_other"] ["_law_one", "_law_other"] (defScope s__law_less) := ⟨rfl, rfl, rfl, by decide +kernel, rfl, by decide +kernel, by decide +kernel⟩
theorem ok__law_less (F : Fun K "_law_less" "_law_less" s__law_less f fd)     : FnOk P w K mg base CX0 1 f fd ["_law_one", "_law_other"] (pureSp K 2 (fn S__law_less)) := by
  have sc := sc__law_less
  refine pure_ok F sc__law_less (fun cdv A outer s H E ds d hr hG hl => ?_)
  obtain ⟨⟨a, b⟩, ⟨c, e⟩, hp, hq, rfl, rfl⟩ := fn_inv hG
  refine ⟨_, (psd_one (psd_ret (pd_tup (pad_cons (pd_sub (pd_mul (pd_ix (pd_var 0) pd_int) (pd_ix (pd_var 1) pd_int)) (pd_mul (pd_ix (pd_var 1) pd_int) (pd_ix (pd_var 0) pd_int))) (pad_cons (pd_mul (pd_ix (pd_var 0) pd_int) (pd_ix (pd_var 1) pd_int)) pad_nil))))), ?_⟩
  · show retOf ((?f : SD) [some _, some _]) = _
    simp only [retOf, sNil, sThen, sSeq, sRet, sDrop, sSet, sIf, sPar, sUn2, sFor, asL, gSet, forD, fVar, fC, f2, f1, fT, asB, fNotT, fAndT, fOrT, fAndV, fOrV, gNot, gNeg, faNil, faCons, fTup, fLst, fCall, gAbs, gInt, gLen_t2, gLen_seq, gIx_t0, gIx_t1, gI0, gAdd_int, gNe_int, gEq_int, gEq_bl, gEq_tup2, gNe_tup2, gIsi_same, Dl.isInt, Dl.isBool, Dl.isTup, Option.bind_some, Option.map_some, List.map_cons, List.map_nil, List.length_cons, List.length_nil, List.getElem?_cons_zero, List.getElem?_cons_succ, List.set_cons_zero, List.set_cons_succ, List.cons_append, List.nil_append, List.append_nil, Bool.not_true, Bool.not_false, beq_self_eq_true, bdD_none, bdD_some, gIsN, isNon, sSetM, sRetM, sDropM, vI, vName, vShare, vWalk, vNil, vCons, vLst, vTup, vCall, sh_bd, gI_pos (C := CMulB) (i := a) (j := e) ⟨hp.s1.bd, hq.s2.bd⟩, gI_pos (C := CMulB) (i := c) (j := b) ⟨hq.s1.bd, hp.s2.bd⟩, gI_pos (C := CMulB) (i := b) (j := e) ⟨hp.s2.bd, hq.s2.bd⟩]
    rfl
abbrev s__law_whole : Stmt := top 23
theorem sc__law_whole : FnScope ["_law_found"] ["_law_found"] (defScope s__law_whole) := ⟨rfl, rfl, rfl, by decide +kernel, rfl, by decide +kernel, by decide +kernel⟩
theorem ok__law_whole (F : Fun K "_law_whole" "_law_whole" s__law_whole f fd)    (m_isinstance : mg "isinstance" = none) (m_int : mg "int" = none) (m_bool : mg "bool" = none) : FnOk P w K mg base CX0 1 f fd ["_law_found"] (pureSp K 1 (fn S__law_whole)) := by
  have sc := sc__law_whole
  refine pure_ok F sc__law_whole (fun cdv A outer s H E ds d hr hG hl => ?_)
  obtain ⟨x, b, h, rfl, rfl⟩ := fn_inv hG
  refine ⟨_, (psd_one (psd_ret (pd_and (pd_callB call_isi (cd_isi ok_isInt) rfl m_isinstance boot_isinstance (pad_cons (pd_var 0) (pad_cons (pd_ty rfl m_int boot_int) pad_nil))) (pd_one (pd_not (pd_callB call_isi (cd_isi ok_isBool) rfl m_isinstance boot_isinstance (pad_cons (pd_var 0) (pad_cons (pd_ty rfl m_bool boot_bool) pad_nil)))))))), ?_⟩
  · show retOf ((?f : SD) [some _]) = _
    cases x <;> simp [gWhole] at h <;> subst h <;> rfl
abbrev s__law_keeps : Stmt := top 24
theorem sc__law_keeps : FnScope ["_law_part_here", "_law_bound"] ["_law_part_here", "_law_bound"] (defScope s__law_keeps) := ⟨rfl, rfl, rfl, by decide +kernel, rfl, by decide +kernel, by decide +kernel⟩
theorem ok__law_keeps (F : Fun K "_law_keeps" "_law_keeps" s__law_keeps f fd)     : FnOk P w K mg base CX0 1 f fd ["_law_part_here", "_law_bound"] (pureSp K 2 (fn S__law_keeps)) := by
  have sc := sc__law_keeps
  refine pure_ok F sc__law_keeps (fun cdv A outer s H E ds d hr hG hl => ?_)
  obtain ⟨⟨a, b⟩, c, hp, hc, rfl, rfl⟩ := fn_inv hG
  refine ⟨_, (psd_cons (psd_if (ptd_isN (pd_var 1) pd_non) (psd_one (psd_ret pd_bl)) psd_nil)
      (psd_one (psd_ret (pd_or (pd_lt (pd_ix (pd_var 0) pd_int) (pd_mul (pd_ix (pd_var 1) pd_int) (pd_ix (pd_var 0) pd_int))) (pd_one (pd_and (pd_eq hr.units0 (pd_ix (pd_var 0) pd_int) (pd_mul (pd_ix (pd_var 1) pd_int) (pd_ix (pd_var 0) pd_int))) (pd_one (pd_not (pd_ix (pd_var 1) pd_int))))))))), ?_⟩
  · show retOf ((?f : SD) [some _, some _]) = _
    rcases c with _ | ⟨n, s⟩
    · rfl
    · have mb : CMulB n b := ⟨Sm.mono (show Sm 4000 n from hc) (by decide), hp.s2.bd⟩
      rw [← kp_or]
      cases h1 : decide (a < n * b) with
      | true => simp only [retOf, sNil, sThen, sSeq, sRet, sDrop, sSet, sIf, sPar, sUn2, sFor, asL, gSet, forD, fVar, fC, f2, f1, fT, asB, fNotT, fAndT, fOrT, fAndV, fOrV, gNot, gNeg, faNil, faCons, fTup, fLst, fCall, gAbs, gInt, gLen_t2, gLen_seq, gIx_t0, gIx_t1, gI0, gAdd_int, gNe_int, gEq_int, gEq_bl, gEq_tup2, gNe_tup2, gIsi_same, Dl.isInt, Dl.isBool, Dl.isTup, Option.bind_some, Option.map_some, List.map_cons, List.map_nil, List.length_cons, List.length_nil, List.getElem?_cons_zero, List.getElem?_cons_succ, List.set_cons_zero, List.set_cons_succ, List.cons_append, List.nil_append, List.append_nil, Bool.not_true, Bool.not_false, beq_self_eq_true, bdD_none, bdD_some, gIsN, isNon, sSetM, sRetM, sDropM, vI, vName, vShare, vWalk, vNil, vCons, vLst, vTup, vCall, sh_bd, gLt, gEq_int, gI_pos (C := CMulB) mb, h1, Bool.true_or]
      | false =>
        cases h2 : (a == n * b) with
        | true => simp only [retOf, sNil, sThen, sSeq, sRet, sDrop, sSet, sIf, sPar, sUn2, sFor, asL, gSet, forD, fVar, fC, f2, f1, fT, asB, fNotT, fAndT, fOrT, fAndV, fOrV, gNot, gNeg, faNil, faCons, fTup, fLst, fCall, gAbs, gInt, gLen_t2, gLen_seq, gIx_t0, gIx_t1, gI0, gAdd_int, gNe_int, gEq_int, gEq_bl, gEq_tup2, gNe_tup2, gIsi_same, Dl.isInt, Dl.isBool, Dl.isTup, Option.bind_some, Option.map_some, List.map_cons, List.map_nil, List.length_cons, List.length_nil, List.getElem?_cons_zero, List.getElem?_cons_succ, List.set_cons_zero, List.set_cons_succ, List.cons_append, List.nil_append, List.append_nil, Bool.not_true, Bool.not_false, beq_self_eq_true, bdD_none, bdD_some, gIsN, isNon, sSetM, sRetM, sDropM, vI, vName, vShare, vWalk, vNil, vCons, vLst, vTup, vCall, sh_bd, gLt, gEq_int, gI_pos (C := CMulB) mb, h1, h2, Bool.false_or, Bool.true_and]
        | false => simp only [retOf, sNil, sThen, sSeq, sRet, sDrop, sSet, sIf, sPar, sUn2, sFor, asL, gSet, forD, fVar, fC, f2, f1, fT, asB, fNotT, fAndT, fOrT, fAndV, fOrV, gNot, gNeg, faNil, faCons, fTup, fLst, fCall, gAbs, gInt, gLen_t2, gLen_seq, gIx_t0, gIx_t1, gI0, gAdd_int, gNe_int, gEq_int, gEq_bl, gEq_tup2, gNe_tup2, gIsi_same, Dl.isInt, Dl.isBool, Dl.isTup, Option.bind_some, Option.map_some, List.map_cons, List.map_nil, List.length_cons, List.length_nil, List.getElem?_cons_zero, List.getElem?_cons_succ, List.set_cons_zero, List.set_cons_succ, List.cons_append, List.nil_append, List.append_nil, Bool.not_true, Bool.not_false, beq_self_eq_true, bdD_none, bdD_some, gIsN, isNon, sSetM, sRetM, sDropM, vI, vName, vShare, vWalk, vNil, vCons, vLst, vTup, vCall, sh_bd, gLt, gEq_int, gI_pos (C := CMulB) mb, h1, h2, Bool.false_or, Bool.false_and]
abbrev s_lowest : Stmt := top 7
theorem sc_lowest : FnScope ["top", "bottom", "divisor"] ["top", "bottom"] (defScope s_lowest) := ⟨rfl, rfl, rfl, by decide +kernel, rfl, by decide +kernel, by decide +kernel⟩
theorem ok_lowest (F : Fun K "lowest" "lowest" s_lowest f fd)  (hcommon_divisor : Has P w K mg base 1 "common_divisor" ["number", "above_nought"] (fn S_common_divisor))   : FnOk P w K mg base CX0 2 f fd ["top", "bottom"] (pureSp K 2 (fn S_lowest)) := by
  have sc := sc_lowest
  refine pure_ok F sc_lowest (fun cdv A outer s H E ds d hr hG hl => ?_)
  obtain ⟨t, b, hb, hB, rfl, rfl⟩ := fn_inv hG
  refine ⟨_, (psd_cons (psd_set 2 sc.nd (pd_callH hcommon_divisor hr (pad_cons (pd_var 0) (pad_cons (pd_var 1) pad_nil))))
      (psd_one (psd_ret (pd_tup (pad_cons (pd_fdiv (pd_var 0) (pd_var 2)) (pad_cons (pd_fdiv (pd_var 1) (pd_var 2)) pad_nil)))))), ?_⟩
  · show retOf ((?f : SD) [some _, some _, none]) = _
    have hg := gc_pos (t := t) hb
    have hgB : Bd (gc t b) := bd_le (by omega) (gc_le (t := t) hb) hB
    simp only [retOf, sNil, sThen, sSeq, sRet, sDrop, sSet, sIf, sPar, sUn2, sFor, asL, gSet, forD, fVar, fC, f2, f1, fT, asB, fNotT, fAndT, fOrT, fAndV, fOrV, gNot, gNeg, faNil, faCons, fTup, fLst, fCall, gAbs, gInt, gLen_t2, gLen_seq, gIx_t0, gIx_t1, gI0, gAdd_int, gNe_int, gEq_int, gEq_bl, gEq_tup2, gNe_tup2, gIsi_same, Dl.isInt, Dl.isBool, Dl.isTup, Option.bind_some, Option.map_some, List.map_cons, List.map_nil, List.length_cons, List.length_nil, List.getElem?_cons_zero, List.getElem?_cons_succ, List.set_cons_zero, List.set_cons_succ, List.cons_append, List.nil_append, List.append_nil, Bool.not_true, Bool.not_false, beq_self_eq_true, bdD_none, bdD_some, gIsN, isNon, sSetM, sRetM, sDropM, vI, vName, vShare, vWalk, vNil, vCons, vLst, vTup, vCall, sh_bd, e_common_divisor (a := t) hb, gI_pos (C := CDivB) (i := t) ⟨hg, hgB⟩, gI_pos (C := CDivB) (i := b) ⟨hg, hgB⟩]
    rfl
abbrev s_summed : Stmt := top 10
theorem sc_summed : FnScope ["one", "top", "bottom", "shared", "part", "total", "left"] ["one", "top", "bottom"] (defScope s_summed) := ⟨rfl, rfl, rfl, by decide +kernel, rfl, by decide +kernel, by decide +kernel⟩
theorem ok_summed (F : Fun K "summed" "summed" s_summed f fd)  (hcommon_divisor : Has P w K mg base 1 "common_divisor" ["number", "above_nought"] (fn S_common_divisor))   : FnOk P w K mg base CX0 2 f fd ["one", "top", "bottom"] (pureSp K 3 (fn S_summed)) := by
  have sc := sc_summed
  refine pure_ok F sc_summed (fun cdv A outer s H E ds d hr hG hl => ?_)
  obtain ⟨⟨a, b⟩, ⟨c, e⟩, hp, hq, rfl, rfl⟩ := fn_inv hG
  refine ⟨_, (psd_cons (psd_set 3 sc.nd (pd_callH hcommon_divisor hr (pad_cons (pd_ix (pd_var 0) pd_int) (pad_cons (pd_var 2) pad_nil))))
      (psd_cons (psd_set 4 sc.nd (pd_fdiv (pd_ix (pd_var 0) pd_int) (pd_var 3)))
      (psd_cons (psd_set 5 sc.nd (pd_add (pd_mul (pd_ix (pd_var 0) pd_int) (pd_fdiv (pd_var 2) (pd_var 3))) (pd_mul (pd_var 1) (pd_var 4))))
      (psd_cons (psd_set 6 sc.nd (pd_callH hcommon_divisor hr (pad_cons (pd_var 5) (pad_cons (pd_var 3) pad_nil))))
      (psd_one (psd_ret (pd_tup (pad_cons (pd_fdiv (pd_var 5) (pd_var 6)) (pad_cons (pd_mul (pd_var 4) (pd_fdiv (pd_var 2) (pd_var 6))) pad_nil))))))))), ?_⟩
  · show retOf ((?f : SD) [some _, some _, some _, none, none, none, none]) = _
    have hb : 0 < b := hp.pos
    have he : 0 < e := hq.pos
    have hg := gc_pos (t := b) he
    have hgB : Bd (gc b e) := bd_le (by omega) (gc_le (t := b) he) hq.s2.bd
    have b1 : Bd (b / gc b e) := md_div hp.s2 hg gc_dvd_l
    have b2 : Bd (e / gc b e) := md_div hq.s2 hg gc_dvd_r
    have hl := gc_pos (t := a * (e / gc b e) + c * (b / gc b e)) hg
    have hlB : Bd (gc (a * (e / gc b e) + c * (b / gc b e)) (gc b e)) := bd_le (by omega) (gc_le (t := a * (e / gc b e) + c * (b / gc b e)) hg) hgB
    have b3 : Bd (e / gc (a * (e / gc b e) + c * (b / gc b e)) (gc b e)) := md_div hq.s2 hl (Int.dvd_trans gc_dvd_r gc_dvd_r)
    simp only [retOf, sNil, sThen, sSeq, sRet, sDrop, sSet, sIf, sPar, sUn2, sFor, asL, gSet, forD, fVar, fC, f2, f1, fT, asB, fNotT, fAndT, fOrT, fAndV, fOrV, gNot, gNeg, faNil, faCons, fTup, fLst, fCall, gAbs, gInt, gLen_t2, gLen_seq, gIx_t0, gIx_t1, gI0, gAdd_int, gNe_int, gEq_int, gEq_bl, gEq_tup2, gNe_tup2, gIsi_same, Dl.isInt, Dl.isBool, Dl.isTup, Option.bind_some, Option.map_some, List.map_cons, List.map_nil, List.length_cons, List.length_nil, List.getElem?_cons_zero, List.getElem?_cons_succ, List.set_cons_zero, List.set_cons_succ, List.cons_append, List.nil_append, List.append_nil, Bool.not_true, Bool.not_false, beq_self_eq_true, bdD_none, bdD_some, gIsN, isNon, sSetM, sRetM, sDropM, vI, vName, vShare, vWalk, vNil, vCons, vLst, vTup, vCall, sh_bd, e_common_divisor (a := b) he, gI_pos (C := CDivB) (i := b) ⟨hg, hgB⟩, gI_pos (C := CDivB) (i := e) ⟨hg, hgB⟩, gI_pos (C := CMulB) (i := a) (j := e / gc b e) ⟨hp.s1.bd, b2⟩, gI_pos (C := CMulB) (i := c) (j := b / gc b e) ⟨hq.s1.bd, b1⟩,
      e_common_divisor (a := a * (e / gc b e) + c * (b / gc b e)) hg, gI_pos (C := CDivB) (i := a * (e / gc b e) + c * (b / gc b e)) ⟨hl, hlB⟩, gI_pos (C := CDivB) (i := e) ⟨hl, hlB⟩, gI_pos (C := CMulB) (i := b / gc b e) ⟨b1, b3⟩]
    rfl
abbrev s_times : Stmt := top 11
theorem sc_times : FnScope ["one", "other", "first", "second"] ["one", "other"] (defScope s_times) := ⟨rfl, rfl, rfl, by decide +kernel, rfl, by decide +kernel, by decide +kernel⟩
theorem ok_times (F : Fun K "times" "times" s_times f fd)  (hcommon_divisor : Has P w K mg base 1 "common_divisor" ["number", "above_nought"] (fn S_common_divisor))   : FnOk P w K mg base CX0 2 f fd ["one", "other"] (pureSp K 2 (fn S_times)) := by
  have sc := sc_times
  refine pure_ok F sc_times (fun cdv A outer s H E ds d hr hG hl => ?_)
  obtain ⟨⟨a, b⟩, ⟨c, e⟩, hp, hq, rfl, rfl⟩ := fn_inv hG
  refine ⟨_, (psd_cons (psd_set 2 sc.nd (pd_callH hcommon_divisor hr (pad_cons (pd_ix (pd_var 0) pd_int) (pad_cons (pd_ix (pd_var 1) pd_int) pad_nil))))
      (psd_cons (psd_set 3 sc.nd (pd_callH hcommon_divisor hr (pad_cons (pd_ix (pd_var 1) pd_int) (pad_cons (pd_ix (pd_var 0) pd_int) pad_nil))))
      (psd_one (psd_ret (pd_tup (pad_cons (pd_mul (pd_fdiv (pd_ix (pd_var 0) pd_int) (pd_var 2)) (pd_fdiv (pd_ix (pd_var 1) pd_int) (pd_var 3))) (pad_cons (pd_mul (pd_fdiv (pd_ix (pd_var 0) pd_int) (pd_var 3)) (pd_fdiv (pd_ix (pd_var 1) pd_int) (pd_var 2))) pad_nil))))))), ?_⟩
  · show retOf ((?f : SD) [some _, some _, none, none]) = _
    have hb : 0 < b := hp.pos
    have he : 0 < e := hq.pos
    have hf := gc_pos (t := a) he
    have hs := gc_pos (t := c) hb
    have fB : Bd (gc a e) := bd_le (by omega) (gc_le (t := a) he) hq.s2.bd
    have sB : Bd (gc c b) := bd_le (by omega) (gc_le (t := c) hb) hp.s2.bd
    have b1 : Bd (a / gc a e) := md_div hp.s1 hf gc_dvd_l
    have b2 : Bd (e / gc a e) := md_div hq.s2 hf gc_dvd_r
    have b3 : Bd (c / gc c b) := md_div hq.s1 hs gc_dvd_l
    have b4 : Bd (b / gc c b) := md_div hp.s2 hs gc_dvd_r
    have e0 : ti (a, b) (c, e) = tm a b c e := ti_tm hp.lw hq.lw
    simp only [retOf, sNil, sThen, sSeq, sRet, sDrop, sSet, sIf, sPar, sUn2, sFor, asL, gSet, forD, fVar, fC, f2, f1, fT, asB, fNotT, fAndT, fOrT, fAndV, fOrV, gNot, gNeg, faNil, faCons, fTup, fLst, fCall, gAbs, gInt, gLen_t2, gLen_seq, gIx_t0, gIx_t1, gI0, gAdd_int, gNe_int, gEq_int, gEq_bl, gEq_tup2, gNe_tup2, gIsi_same, Dl.isInt, Dl.isBool, Dl.isTup, Option.bind_some, Option.map_some, List.map_cons, List.map_nil, List.length_cons, List.length_nil, List.getElem?_cons_zero, List.getElem?_cons_succ, List.set_cons_zero, List.set_cons_succ, List.cons_append, List.nil_append, List.append_nil, Bool.not_true, Bool.not_false, beq_self_eq_true, bdD_none, bdD_some, gIsN, isNon, sSetM, sRetM, sDropM, vI, vName, vShare, vWalk, vNil, vCons, vLst, vTup, vCall, sh_bd, e_common_divisor (a := a) he, e_common_divisor (a := c) hb, gI_pos (C := CDivB) (i := a) ⟨hf, fB⟩, gI_pos (C := CDivB) (i := e) ⟨hf, fB⟩, gI_pos (C := CDivB) (i := c) ⟨hs, sB⟩, gI_pos (C := CDivB) (i := b) ⟨hs, sB⟩,
      gI_pos (C := CMulB) (i := a / gc a e) (j := c / gc c b) ⟨b1, b3⟩, gI_pos (C := CMulB) (i := b / gc c b) (j := e / gc a e) ⟨b4, b2⟩, e0]
    rfl
abbrev s__law_any_table : Stmt := top 19
theorem sc__law_any_table : FnScope ["_law_seed", "_law_k", "_law_most", "_law_cell", "_law_table", "_law_i", "_law_j", "_law_digit", "_law_bound", "_law_drawn"] ["_law_seed", "_law_k", "_law_most"] (defScope s__law_any_table) := ⟨rfl, rfl, rfl, by decide +kernel, rfl, by decide +kernel, by decide +kernel⟩
def S__law_any_table (ds : List D) (d : D) : Prop := retOf (((sSeq (sSetM 3 (vName 0)) (sSeq (sSetM 4 (vLst vNil)) (sSeq (sForM (vRange (faCons (f2 gAdd (fVar 1) (fC (.int 1))) faNil)) 5 (sSeq (sApp 4 (vLst vNil)) (sForM (vRange (faCons (f2 gAdd (fVar 1) (fC (.int 1))) faNil)) 6 (sSeq (sSetM 7 (vI (f2 (gI (fun _ j => 0 < j) fun i j => .int (i % j)) (fVar 3) (f2 gAdd (f2 (gI CMulB fun i j => .int (i * j)) (fC (.int 4)) (fVar 2)) (fC (.int 3)))))) (sSeq (sIf (fT (f2 gIn (fVar 3) (fTup (faCons (fC (.int 0)) (faCons (f1 gNeg (fC (.int 1))) faNil))))) (sSeq (sSetM 9 (vCall (fn S__law_mixed) (faCons (fVar 0) (faCons (f2 gAdd (f2 (gI CMulB fun i j => .int (i * j)) (fC (.int 9)) (fVar 5)) (fVar 6)) faNil)))) (sSetM 7 (vI (f2 gIx (fLst (faCons (fC (.int 0)) (faCons (fC (.int 0)) (faCons (f2 gAdd (fC (.int 1)) (f2 (gI (fun _ j => 0 < j) fun i j => .int (i % j)) (f2 (gI CDivB fun i j => .int (i / j)) (fVar 9) (fC (.int 3))) (f2 gAdd (f2 (gI CMulB fun i j => .int (i * j)) (fC (.int 4)) (fVar 2)) (fC (.int 2))))) faNil)))) (f2 (gI (fun _ j => 0 < j) fun i j => .int (i % j)) (fVar 9) (fC (.int 3))))))) sNil) (sSeq (sSetM 3 (vI (f2 (gI CDivB fun i j => .int (i / j)) (fVar 3) (f2 gAdd (f2 (gI CMulB fun i j => .int (i * j)) (fC (.int 4)) (fVar 2)) (fC (.int 3)))))) (sSeq (sSetM 8 (vI (fC .non))) (sSeq (sIf (fT (f2 gGt (fVar 7) (fC (.int 0)))) (sSetM 8 (vI (fTup (faCons (f2 (gI0 fun i j => .int (i - j)) (f2 (gI CDivB fun i j => .int (i / j)) (f2 (gI0 fun i j => .int (i - j)) (fVar 7) (fC (.int 1))) (fC (.int 2))) (fVar 2)) (faCons (f2 gEqN (f2 (gI (fun _ j => 0 < j) fun i j => .int (i % j)) (fVar 7) (fC (.int 2))) (fC (.int 0))) faNil))))) sNil) (sApp2 4 (fVar 5) (vName 8)))))))))) (sRetM (vName 4)))))) (startM 10 ds)) = some d ∧ own d = true
theorem at_in (seed k most c : Int) (T : List (List Bn)) (r : List Bn) (i j : Nat) (o7 o8 o9 : Option D) (hm0 : 0 ≤ most) (hm1 : most ≤ 10 ^ 55) (hT : T.length = i) (hr : r.length = j) (hi : i ≤ 40) (hj : j ≤ 40) : ∃ (c' : Int) (b : Bn) (p7 p9 : Option D), Bk 450 b ∧
    ((sSeq (sSetM 7 (vI (f2 (gI (fun _ j => 0 < j) fun i j => .int (i % j)) (fVar 3) (f2 gAdd (f2 (gI CMulB fun i j => .int (i * j)) (fC (.int 4)) (fVar 2)) (fC (.int 3)))))) (sSeq (sIf (fT (f2 gIn (fVar 3) (fTup (faCons (fC (.int 0)) (faCons (f1 gNeg (fC (.int 1))) faNil))))) (sSeq (sSetM 9 (vCall (fn S__law_mixed) (faCons (fVar 0) (faCons (f2 gAdd (f2 (gI CMulB fun i j => .int (i * j)) (fC (.int 9)) (fVar 5)) (fVar 6)) faNil)))) (sSetM 7 (vI (f2 gIx (fLst (faCons (fC (.int 0)) (faCons (fC (.int 0)) (faCons (f2 gAdd (fC (.int 1)) (f2 (gI (fun _ j => 0 < j) fun i j => .int (i % j)) (f2 (gI CDivB fun i j => .int (i / j)) (fVar 9) (fC (.int 3))) (f2 gAdd (f2 (gI CMulB fun i j => .int (i * j)) (fC (.int 4)) (fVar 2)) (fC (.int 2))))) faNil)))) (f2 (gI (fun _ j => 0 < j) fun i j => .int (i % j)) (fVar 9) (fC (.int 3))))))) sNil) (sSeq (sSetM 3 (vI (f2 (gI CDivB fun i j => .int (i / j)) (fVar 3) (f2 gAdd (f2 (gI CMulB fun i j => .int (i * j)) (fC (.int 4)) (fVar 2)) (fC (.int 3)))))) (sSeq (sSetM 8 (vI (fC .non))) (sSeq (sIf (fT (f2 gGt (fVar 7) (fC (.int 0)))) (sSetM 8 (vI (fTup (faCons (f2 (gI0 fun i j => .int (i - j)) (f2 (gI CDivB fun i j => .int (i / j)) (f2 (gI0 fun i j => .int (i - j)) (fVar 7) (fC (.int 1))) (fC (.int 2))) (fVar 2)) (faCons (f2 gEqN (f2 (gI (fun _ j => 0 < j) fun i j => .int (i % j)) (fVar 7) (fC (.int 2))) (fC (.int 0))) faNil))))) sNil) (sApp2 4 (fVar 5) (vName 8)))))))) [some (.int seed), some (.int k), some (.int most), some (.int c), some (.lst (rowsO T ++ [.lst (rowD r)])), some (.int (i : Int)), some (.int (j : Int)), o7, o8, o9] = some (.nx [some (.int seed), some (.int k), some (.int most), some (.int c'), some (.lst (rowsO T ++ [.lst (rowD (r ++ [b]))])), some (.int (i : Int)), some (.int (j : Int)), p7, some (bdD b), p9]) := by
  have m1 : CMulB 4 most := ⟨bd_sm, bd_of (k := 200) (Sm.of (by omega) (by omega))⟩
  have hd : 0 < 4 * most + 3 := by omega
  have hd2 : 0 < 4 * most + 2 := by omega
  have dv : CDivB c (4 * most + 3) := ⟨hd, bd_of (k := 200) (Sm.of (by omega) (by omega))⟩
  have mi9 : CMulB 9 (i : Int) := ⟨bd_sm, bd_sm (by omega)⟩
  have mx := e__law_mixed (c := seed) (k := 9 * (i : Int) + (j : Int)) (by omega) (by omega)
  obtain ⟨w, hw⟩ : ∃ w, w = mxd seed (9 * (i : Int) + (j : Int)) := ⟨_, rfl⟩
  rw [← hw] at mx
  have d3 : CDivB w 3 := ⟨by decide, bd_sm⟩
  have hin : gIn (.int c) (.tup [.int 0, .int (-1)]) = some (.bl (c == 0 || c == -1)) := by
    show some (D.bl ([D.int 0, D.int (-1)].any fun y => eqF y (.int c))) = _
    have e1 : ((0 : Int) == c) = (c == 0) := by rw [Bool.eq_iff_iff, beq_iff_eq, beq_iff_eq]; exact eq_comm
    have e2 : ((-1 : Int) == c) = (c == -1) := by rw [Bool.eq_iff_iff, beq_iff_eq, beq_iff_eq]; exact eq_comm
    show some (D.bl (((0 : Int) == c) || (((-1 : Int) == c) || false))) = _
    rw [e1, e2, Bool.or_false]
  obtain ⟨g, p9, hg0, hg1, hst⟩ : ∃ (g : Int) (p9 : Option D), 0 ≤ g ∧ g ≤ 4 * most + 3 ∧ ((sIf (fT (f2 gIn (fVar 3) (fTup (faCons (fC (.int 0)) (faCons (f1 gNeg (fC (.int 1))) faNil))))) (sSeq (sSetM 9 (vCall (fn S__law_mixed) (faCons (fVar 0) (faCons (f2 gAdd (f2 (gI CMulB fun i j => .int (i * j)) (fC (.int 9)) (fVar 5)) (fVar 6)) faNil)))) (sSetM 7 (vI (f2 gIx (fLst (faCons (fC (.int 0)) (faCons (fC (.int 0)) (faCons (f2 gAdd (fC (.int 1)) (f2 (gI (fun _ j => 0 < j) fun i j => .int (i % j)) (f2 (gI CDivB fun i j => .int (i / j)) (fVar 9) (fC (.int 3))) (f2 gAdd (f2 (gI CMulB fun i j => .int (i * j)) (fC (.int 4)) (fVar 2)) (fC (.int 2))))) faNil)))) (f2 (gI (fun _ j => 0 < j) fun i j => .int (i % j)) (fVar 9) (fC (.int 3))))))) sNil)) [some (.int seed), some (.int k), some (.int most), some (.int c), some (.lst (rowsO T ++ [.lst (rowD r)])), some (.int (i : Int)), some (.int (j : Int)), some (.int (c % (4 * most + 3))), o8, o9] = some (.nx [some (.int seed), some (.int k), some (.int most), some (.int c), some (.lst (rowsO T ++ [.lst (rowD r)])), some (.int (i : Int)), some (.int (j : Int)), some (.int g), o8, p9]) := by
    cases hc : (c == 0 || c == -1) with
    | false =>
      have q0 := Int.emod_nonneg c (show 4 * most + 3 ≠ 0 by omega)
      have q1 := Int.emod_lt_of_pos c hd
      exact ⟨c % (4 * most + 3), o9, q0, by omega, st_ifF (by simp only [retOf, sNil, sThen, sSeq, sRet, sDrop, sSet, sIf, sPar, sUn2, sFor, asL, gSet, forD, fVar, fC, f2, f1, fT, asB, fNotT, fAndT, fOrT, fAndV, fOrV, gNot, gNeg, faNil, faCons, fTup, fLst, fCall, gAbs, gInt, gLen_t2, gLen_seq, gIx_t0, gIx_t1, gI0, gAdd_int, gNe_int, gEq_int, gEq_bl, gEq_tup2, gNe_tup2, gIsi_same, Dl.isInt, Dl.isBool, Dl.isTup, Option.bind_some, Option.map_some, List.map_cons, List.map_nil, List.length_cons, List.length_nil, List.getElem?_cons_zero, List.getElem?_cons_succ, List.set_cons_zero, List.set_cons_succ, List.cons_append, List.nil_append, List.append_nil, Bool.not_true, Bool.not_false, beq_self_eq_true, bdD_none, bdD_some, gIsN, isNon, sSetM, sRetM, sDropM, vI, vName, vShare, vWalk, vNil, vCons, vLst, vTup, vCall, sh_bd, hin, hc]) rfl⟩
    | true =>
      have r0 := Int.emod_nonneg (w / 3) (show 4 * most + 2 ≠ 0 by omega)
      have r1 := Int.emod_lt_of_pos (w / 3) hd2
      have w3 : w % 3 = 0 ∨ w % 3 = 1 ∨ w % 3 = 2 := by omega
      obtain ⟨g, hg0, hg1, hg⟩ : ∃ g : Int, 0 ≤ g ∧ g ≤ 4 * most + 3 ∧ gIx (.lst [.int 0, .int 0, .int (1 + w / 3 % (4 * most + 2))]) (.int (w % 3)) = some (.int g) := by
        rcases w3 with q | q | q
        · exact ⟨0, by omega, by omega, by rw [q]; rfl⟩
        · exact ⟨0, by omega, by omega, by rw [q]; rfl⟩
        · exact ⟨1 + w / 3 % (4 * most + 2), by omega, by omega, by rw [q]; rfl⟩
      exact ⟨g, some (.int w), hg0, hg1, st_ifT (by simp only [retOf, sNil, sThen, sSeq, sRet, sDrop, sSet, sIf, sPar, sUn2, sFor, asL, gSet, forD, fVar, fC, f2, f1, fT, asB, fNotT, fAndT, fOrT, fAndV, fOrV, gNot, gNeg, faNil, faCons, fTup, fLst, fCall, gAbs, gInt, gLen_t2, gLen_seq, gIx_t0, gIx_t1, gI0, gAdd_int, gNe_int, gEq_int, gEq_bl, gEq_tup2, gNe_tup2, gIsi_same, Dl.isInt, Dl.isBool, Dl.isTup, Option.bind_some, Option.map_some, List.map_cons, List.map_nil, List.length_cons, List.length_nil, List.getElem?_cons_zero, List.getElem?_cons_succ, List.set_cons_zero, List.set_cons_succ, List.cons_append, List.nil_append, List.append_nil, Bool.not_true, Bool.not_false, beq_self_eq_true, bdD_none, bdD_some, gIsN, isNon, sSetM, sRetM, sDropM, vI, vName, vShare, vWalk, vNil, vCons, vLst, vTup, vCall, sh_bd, hin, hc]) (st_seq (st_set (v_call (ds := [.int seed, .int (9 * (i : Int) + (j : Int))]) (by simp only [retOf, sNil, sThen, sSeq, sRet, sDrop, sSet, sIf, sPar, sUn2, sFor, asL, gSet, forD, fVar, fC, f2, f1, fT, asB, fNotT, fAndT, fOrT, fAndV, fOrV, gNot, gNeg, faNil, faCons, fTup, fLst, fCall, gAbs, gInt, gLen_t2, gLen_seq, gIx_t0, gIx_t1, gI0, gAdd_int, gNe_int, gEq_int, gEq_bl, gEq_tup2, gNe_tup2, gIsi_same, Dl.isInt, Dl.isBool, Dl.isTup, Option.bind_some, Option.map_some, List.map_cons, List.map_nil, List.length_cons, List.length_nil, List.getElem?_cons_zero, List.getElem?_cons_succ, List.set_cons_zero, List.set_cons_succ, List.cons_append, List.nil_append, List.append_nil, Bool.not_true, Bool.not_false, beq_self_eq_true, bdD_none, bdD_some, gIsN, isNon, sSetM, sRetM, sDropM, vI, vName, vShare, vWalk, vNil, vCons, vLst, vTup, vCall, sh_bd, gI_pos (C := CMulB) mi9]) mx rfl)) (st_set (v_imm (d := .int g) (by simp only [retOf, sNil, sThen, sSeq, sRet, sDrop, sSet, sIf, sPar, sUn2, sFor, asL, gSet, forD, fVar, fC, f2, f1, fT, asB, fNotT, fAndT, fOrT, fAndV, fOrV, gNot, gNeg, faNil, faCons, fTup, fLst, fCall, gAbs, gInt, gLen_t2, gLen_seq, gIx_t0, gIx_t1, gI0, gAdd_int, gNe_int, gEq_int, gEq_bl, gEq_tup2, gNe_tup2, gIsi_same, Dl.isInt, Dl.isBool, Dl.isTup, Option.bind_some, Option.map_some, List.map_cons, List.map_nil, List.length_cons, List.length_nil, List.getElem?_cons_zero, List.getElem?_cons_succ, List.set_cons_zero, List.set_cons_succ, List.cons_append, List.nil_append, List.append_nil, Bool.not_true, Bool.not_false, beq_self_eq_true, bdD_none, bdD_some, gIsN, isNon, sSetM, sRetM, sDropM, vI, vName, vShare, vWalk, vNil, vCons, vLst, vTup, vCall, sh_bd, gI_pos (C := CDivB) d3, gI_pos (C := CMulB) m1, gI_pos (C := fun _ j => 0 < j) (i := w / 3) hd2, gI_pos (C := fun _ j => 0 < j) (i := w) (j := 3) (by decide), hg]))))⟩
  have dg : CDivB (g - 1) 2 := ⟨by decide, bd_sm⟩
  obtain ⟨b, hb, hst2⟩ : ∃ b : Bn, Bk 450 b ∧ ((sIf (fT (f2 gGt (fVar 7) (fC (.int 0)))) (sSetM 8 (vI (fTup (faCons (f2 (gI0 fun i j => .int (i - j)) (f2 (gI CDivB fun i j => .int (i / j)) (f2 (gI0 fun i j => .int (i - j)) (fVar 7) (fC (.int 1))) (fC (.int 2))) (fVar 2)) (faCons (f2 gEqN (f2 (gI (fun _ j => 0 < j) fun i j => .int (i % j)) (fVar 7) (fC (.int 2))) (fC (.int 0))) faNil))))) sNil)) [some (.int seed), some (.int k), some (.int most), some (.int (c / (4 * most + 3))), some (.lst (rowsO T ++ [.lst (rowD r)])), some (.int (i : Int)), some (.int (j : Int)), some (.int g), some .non, p9] = some (.nx [some (.int seed), some (.int k), some (.int most), some (.int (c / (4 * most + 3))), some (.lst (rowsO T ++ [.lst (rowD r)])), some (.int (i : Int)), some (.int (j : Int)), some (.int g), some (bdD b), p9]) := by
    by_cases h : 0 < g
    · have h1 : decide (0 < g) = true := decide_eq_true h
      refine ⟨some ((g - 1) / 2 - most, g % 2 == 0), Sm.mono (k := 200) (Sm.of (by omega) (by omega)) (by decide), st_ifT (by simp only [retOf, sNil, sThen, sSeq, sRet, sDrop, sSet, sIf, sPar, sUn2, sFor, asL, gSet, forD, fVar, fC, f2, f1, fT, asB, fNotT, fAndT, fOrT, fAndV, fOrV, gNot, gNeg, faNil, faCons, fTup, fLst, fCall, gAbs, gInt, gLen_t2, gLen_seq, gIx_t0, gIx_t1, gI0, gAdd_int, gNe_int, gEq_int, gEq_bl, gEq_tup2, gNe_tup2, gIsi_same, Dl.isInt, Dl.isBool, Dl.isTup, Option.bind_some, Option.map_some, List.map_cons, List.map_nil, List.length_cons, List.length_nil, List.getElem?_cons_zero, List.getElem?_cons_succ, List.set_cons_zero, List.set_cons_succ, List.cons_append, List.nil_append, List.append_nil, Bool.not_true, Bool.not_false, beq_self_eq_true, bdD_none, bdD_some, gIsN, isNon, sSetM, sRetM, sDropM, vI, vName, vShare, vWalk, vNil, vCons, vLst, vTup, vCall, sh_bd, gGt, gLt, h1]) (st_set (v_imm (by simp only [retOf, sNil, sThen, sSeq, sRet, sDrop, sSet, sIf, sPar, sUn2, sFor, asL, gSet, forD, fVar, fC, f2, f1, fT, asB, fNotT, fAndT, fOrT, fAndV, fOrV, gNot, gNeg, faNil, faCons, fTup, fLst, fCall, gAbs, gInt, gLen_t2, gLen_seq, gIx_t0, gIx_t1, gI0, gAdd_int, gNe_int, gEq_int, gEq_bl, gEq_tup2, gNe_tup2, gIsi_same, Dl.isInt, Dl.isBool, Dl.isTup, Option.bind_some, Option.map_some, List.map_cons, List.map_nil, List.length_cons, List.length_nil, List.getElem?_cons_zero, List.getElem?_cons_succ, List.set_cons_zero, List.set_cons_succ, List.cons_append, List.nil_append, List.append_nil, Bool.not_true, Bool.not_false, beq_self_eq_true, bdD_none, bdD_some, gIsN, isNon, sSetM, sRetM, sDropM, vI, vName, vShare, vWalk, vNil, vCons, vLst, vTup, vCall, sh_bd, gEqN_int, gI_pos (C := CDivB) dg, gI_pos (C := fun _ j => 0 < j) (i := g) (j := 2) (by decide)])))⟩
    · have h1 : decide (0 < g) = false := decide_eq_false h
      exact ⟨none, trivial, st_ifF (by simp only [retOf, sNil, sThen, sSeq, sRet, sDrop, sSet, sIf, sPar, sUn2, sFor, asL, gSet, forD, fVar, fC, f2, f1, fT, asB, fNotT, fAndT, fOrT, fAndV, fOrV, gNot, gNeg, faNil, faCons, fTup, fLst, fCall, gAbs, gInt, gLen_t2, gLen_seq, gIx_t0, gIx_t1, gI0, gAdd_int, gNe_int, gEq_int, gEq_bl, gEq_tup2, gNe_tup2, gIsi_same, Dl.isInt, Dl.isBool, Dl.isTup, Option.bind_some, Option.map_some, List.map_cons, List.map_nil, List.length_cons, List.length_nil, List.getElem?_cons_zero, List.getElem?_cons_succ, List.set_cons_zero, List.set_cons_succ, List.cons_append, List.nil_append, List.append_nil, Bool.not_true, Bool.not_false, beq_self_eq_true, bdD_none, bdD_some, gIsN, isNon, sSetM, sRetM, sDropM, vI, vName, vShare, vWalk, vNil, vCons, vLst, vTup, vCall, sh_bd, gGt, gLt, h1]) rfl⟩
  refine ⟨c / (4 * most + 3), b, some (.int g), p9, hb, ?_⟩
  refine st_seq (st_set (v_imm (d := .int (c % (4 * most + 3))) (by simp only [retOf, sNil, sThen, sSeq, sRet, sDrop, sSet, sIf, sPar, sUn2, sFor, asL, gSet, forD, fVar, fC, f2, f1, fT, asB, fNotT, fAndT, fOrT, fAndV, fOrV, gNot, gNeg, faNil, faCons, fTup, fLst, fCall, gAbs, gInt, gLen_t2, gLen_seq, gIx_t0, gIx_t1, gI0, gAdd_int, gNe_int, gEq_int, gEq_bl, gEq_tup2, gNe_tup2, gIsi_same, Dl.isInt, Dl.isBool, Dl.isTup, Option.bind_some, Option.map_some, List.map_cons, List.map_nil, List.length_cons, List.length_nil, List.getElem?_cons_zero, List.getElem?_cons_succ, List.set_cons_zero, List.set_cons_succ, List.cons_append, List.nil_append, List.append_nil, Bool.not_true, Bool.not_false, beq_self_eq_true, bdD_none, bdD_some, gIsN, isNon, sSetM, sRetM, sDropM, vI, vName, vShare, vWalk, vNil, vCons, vLst, vTup, vCall, sh_bd, gI_pos (C := CMulB) m1, gI_pos (C := fun _ j => 0 < j) (i := c) hd]))) (st_seq hst (st_seq (st_set (v_imm (d := .int (c / (4 * most + 3))) (by simp only [retOf, sNil, sThen, sSeq, sRet, sDrop, sSet, sIf, sPar, sUn2, sFor, asL, gSet, forD, fVar, fC, f2, f1, fT, asB, fNotT, fAndT, fOrT, fAndV, fOrV, gNot, gNeg, faNil, faCons, fTup, fLst, fCall, gAbs, gInt, gLen_t2, gLen_seq, gIx_t0, gIx_t1, gI0, gAdd_int, gNe_int, gEq_int, gEq_bl, gEq_tup2, gNe_tup2, gIsi_same, Dl.isInt, Dl.isBool, Dl.isTup, Option.bind_some, Option.map_some, List.map_cons, List.map_nil, List.length_cons, List.length_nil, List.getElem?_cons_zero, List.getElem?_cons_succ, List.set_cons_zero, List.set_cons_succ, List.cons_append, List.nil_append, List.append_nil, Bool.not_true, Bool.not_false, beq_self_eq_true, bdD_none, bdD_some, gIsN, isNon, sSetM, sRetM, sDropM, vI, vName, vShare, vWalk, vNil, vCons, vLst, vTup, vCall, sh_bd, gI_pos (C := CMulB) m1, gI_pos (C := CDivB) dv]))) (st_seq (st_set (v_imm (d := .non) rfl)) (st_seq hst2 ?_))))
  rw [rowD_snoc]
  exact app2_last rfl (by rw [len_rowsO, hT]; rfl) (vName_bd rfl) (by rw [len_rowD]; omega)
theorem t__law_any_table {seed k most : Int} (hk0 : 0 ≤ k) (hk1 : k ≤ 40) (hm0 : 0 ≤ most) (hm1 : most ≤ 10 ^ 55) : ∃ T, Grown T (k.toNat + 1) (k.toNat + 1) ∧ fn S__law_any_table [.int seed, .int k, .int most] = some (ownD T) := by
  obtain ⟨n, rfl⟩ : ∃ n : Nat, k = (n : Int) := ⟨k.toNat, by omega⟩
  have en : ((n : Int)).toNat = n := by omega
  rw [en]
  have hr := fun o5 o6 o7 o8 o9 c t => v_range (g := faCons (f2 gAdd (fVar 1) (fC (.int 1))) faNil) (δ := [some (.int seed), some (.int (n : Int)), some (.int most), c, t, o5, o6, o7, o8, o9]) (n := n + 1) rfl (by omega)
  have inner : ∀ (c : Int) (T : List (List Bn)) (i : Nat) (o6 o7 o8 o9 : Option D), T.length = i → i ≤ 40 → ∃ δ', Dl.forM 6 ((sSeq (sSetM 7 (vI (f2 (gI (fun _ j => 0 < j) fun i j => .int (i % j)) (fVar 3) (f2 gAdd (f2 (gI CMulB fun i j => .int (i * j)) (fC (.int 4)) (fVar 2)) (fC (.int 3)))))) (sSeq (sIf (fT (f2 gIn (fVar 3) (fTup (faCons (fC (.int 0)) (faCons (f1 gNeg (fC (.int 1))) faNil))))) (sSeq (sSetM 9 (vCall (fn S__law_mixed) (faCons (fVar 0) (faCons (f2 gAdd (f2 (gI CMulB fun i j => .int (i * j)) (fC (.int 9)) (fVar 5)) (fVar 6)) faNil)))) (sSetM 7 (vI (f2 gIx (fLst (faCons (fC (.int 0)) (faCons (fC (.int 0)) (faCons (f2 gAdd (fC (.int 1)) (f2 (gI (fun _ j => 0 < j) fun i j => .int (i % j)) (f2 (gI CDivB fun i j => .int (i / j)) (fVar 9) (fC (.int 3))) (f2 gAdd (f2 (gI CMulB fun i j => .int (i * j)) (fC (.int 4)) (fVar 2)) (fC (.int 2))))) faNil)))) (f2 (gI (fun _ j => 0 < j) fun i j => .int (i % j)) (fVar 9) (fC (.int 3))))))) sNil) (sSeq (sSetM 3 (vI (f2 (gI CDivB fun i j => .int (i / j)) (fVar 3) (f2 gAdd (f2 (gI CMulB fun i j => .int (i * j)) (fC (.int 4)) (fVar 2)) (fC (.int 3)))))) (sSeq (sSetM 8 (vI (fC .non))) (sSeq (sIf (fT (f2 gGt (fVar 7) (fC (.int 0)))) (sSetM 8 (vI (fTup (faCons (f2 (gI0 fun i j => .int (i - j)) (f2 (gI CDivB fun i j => .int (i / j)) (f2 (gI0 fun i j => .int (i - j)) (fVar 7) (fC (.int 1))) (fC (.int 2))) (fVar 2)) (faCons (f2 gEqN (f2 (gI (fun _ j => 0 < j) fun i j => .int (i % j)) (fVar 7) (fC (.int 2))) (fC (.int 0))) faNil))))) sNil) (sApp2 4 (fVar 5) (vName 8)))))))) ((List.range (n + 1)).map fun (i : Nat) => D.int (i : Int)) [some (.int seed), some (.int (n : Int)), some (.int most), some (.int c), some (.lst (rowsO T ++ [.lst (rowD [])])), some (.int (i : Int)), o6, o7, o8, o9] = some (.nx δ') ∧ ∃ (c : Int) (r : List Bn) (o6 o7 o8 o9 : Option D), r.length = (List.range (n + 1)).length ∧ (∀ b ∈ r, Bk 450 b) ∧ δ' = [some (.int seed), some (.int (n : Int)), some (.int most), some (.int c), some (.lst (rowsO T ++ [.lst (rowD r)])), some (.int (i : Int)), o6, o7, o8, o9] := by
    intro c T i o6 o7 o8 o9 hT hi
    refine forM_pre (f := fun (i : Nat) => D.int (i : Int)) (fun pre δ => ∃ (c : Int) (r : List Bn) (o6 o7 o8 o9 : Option D), r.length = pre.length ∧ (∀ b ∈ r, Bk 450 b) ∧ δ = [some (.int seed), some (.int (n : Int)), some (.int most), some (.int c), some (.lst (rowsO T ++ [.lst (rowD r)])), some (.int (i : Int)), o6, o7, o8, o9]) (List.range (n + 1)) ?_ (List.range (n + 1)) [] _ rfl ⟨c, [], o6, o7, o8, o9, rfl, (fun _ m => nomatch m), rfl⟩
    rintro pre x post _ hx ⟨c, r, o6, o7, o8, o9, hr, hb, rfl⟩
    obtain ⟨rfl, hl⟩ := range_at hx
    obtain ⟨c', b, p7, p9, hbb, st⟩ := at_in seed (n : Int) most c T r i pre.length o7 o8 o9 hm0 hm1 hT hr hi (by omega)
    refine ⟨_, st, c', r ++ [b], _, _, _, _, by rw [List.length_append, List.length_append, hr]; rfl, fun z hz => ?_, rfl⟩
    rcases List.mem_append.mp hz with hz | hz
    · exact hb z hz
    · rw [List.mem_singleton.mp hz]; exact hbb
  obtain ⟨_, w, c, T, o5, o6, o7, o8, o9, hG, rfl⟩ := forM_pre (i := 5) (s := ((sSeq (sApp 4 (vLst vNil)) (sForM (vRange (faCons (f2 gAdd (fVar 1) (fC (.int 1))) faNil)) 6 (sSeq (sSetM 7 (vI (f2 (gI (fun _ j => 0 < j) fun i j => .int (i % j)) (fVar 3) (f2 gAdd (f2 (gI CMulB fun i j => .int (i * j)) (fC (.int 4)) (fVar 2)) (fC (.int 3)))))) (sSeq (sIf (fT (f2 gIn (fVar 3) (fTup (faCons (fC (.int 0)) (faCons (f1 gNeg (fC (.int 1))) faNil))))) (sSeq (sSetM 9 (vCall (fn S__law_mixed) (faCons (fVar 0) (faCons (f2 gAdd (f2 (gI CMulB fun i j => .int (i * j)) (fC (.int 9)) (fVar 5)) (fVar 6)) faNil)))) (sSetM 7 (vI (f2 gIx (fLst (faCons (fC (.int 0)) (faCons (fC (.int 0)) (faCons (f2 gAdd (fC (.int 1)) (f2 (gI (fun _ j => 0 < j) fun i j => .int (i % j)) (f2 (gI CDivB fun i j => .int (i / j)) (fVar 9) (fC (.int 3))) (f2 gAdd (f2 (gI CMulB fun i j => .int (i * j)) (fC (.int 4)) (fVar 2)) (fC (.int 2))))) faNil)))) (f2 (gI (fun _ j => 0 < j) fun i j => .int (i % j)) (fVar 9) (fC (.int 3))))))) sNil) (sSeq (sSetM 3 (vI (f2 (gI CDivB fun i j => .int (i / j)) (fVar 3) (f2 gAdd (f2 (gI CMulB fun i j => .int (i * j)) (fC (.int 4)) (fVar 2)) (fC (.int 3)))))) (sSeq (sSetM 8 (vI (fC .non))) (sSeq (sIf (fT (f2 gGt (fVar 7) (fC (.int 0)))) (sSetM 8 (vI (fTup (faCons (f2 (gI0 fun i j => .int (i - j)) (f2 (gI CDivB fun i j => .int (i / j)) (f2 (gI0 fun i j => .int (i - j)) (fVar 7) (fC (.int 1))) (fC (.int 2))) (fVar 2)) (faCons (f2 gEqN (f2 (gI (fun _ j => 0 < j) fun i j => .int (i % j)) (fVar 7) (fC (.int 2))) (fC (.int 0))) faNil))))) sNil) (sApp2 4 (fVar 5) (vName 8))))))))))) (f := fun (i : Nat) => D.int (i : Int)) (fun pre δ => ∃ (c : Int) (T : List (List Bn)) (o5 o6 o7 o8 o9 : Option D), Grown T pre.length (n + 1) ∧ δ = [some (.int seed), some (.int (n : Int)), some (.int most), some (.int c), some (ownD T), o5, o6, o7, o8, o9]) (List.range (n + 1)) (by
    rintro pre x post _ hx ⟨c, T, o5, o6, o7, o8, o9, hG, rfl⟩
    obtain ⟨rfl, hl⟩ := range_at hx
    obtain ⟨_, w, c', r, p6, p7, p8, p9, h1, h2, rfl⟩ := inner c T pre.length o6 o7 o8 o9 hG.len (by omega)
    refine ⟨_, st_seq (st_app (ds := rowsO T) (d := .lst []) rfl rfl (by rw [len_rowsO, hG.len]; omega)) (st_for (hr _ _ _ _ _ _ _) w), c', T ++ [r], some (.int (pre.length : Int)), p6, p7, p8, p9, ?_, ?_⟩
    · rw [List.length_append]
      exact hG.snoc (by rw [h1, List.length_range]) h2
    · unfold ownD
      rw [rowsO_snoc]) (List.range (n + 1)) [] [some (.int seed), some (.int (n : Int)), some (.int most), some (.int seed), some (.lst []), none, none, none, none, none] rfl ⟨seed, [], none, none, none, none, none, ⟨rfl, (fun _ m => nomatch m), (fun _ m => nomatch m)⟩, rfl⟩
  have key : S__law_any_table [.int seed, .int (n : Int), .int most] (ownD T) := ⟨rt_of (δ := [some (.int seed), some (.int (n : Int)), some (.int most), none, none, none, none, none, none, none]) (st_seq (st_set (d := .int seed) rfl) (st_seq (st_set (d := .lst []) rfl) (st_seq (st_for (hr _ _ _ _ _ _ _) w) (st_ret (v_move rfl))))), own_ownD T⟩
  exact ⟨T, by rw [List.length_range] at hG; exact hG, fn_eq (fun d' h' => Option.some.inj (h'.1.symm.trans key.1)) key⟩
theorem ok__law_any_table (F : Fun K "_law_any_table" "_law_any_table" s__law_any_table f fd)  (hLmixed : HasF P w K mg base 1 "_law_mixed" ["_law_cell", "_law_k"] (fn S__law_mixed))  (m_range : mg "range" = none) : FnOk P w K mg base CX0 2 f fd ["_law_seed", "_law_k", "_law_most"] (freshSp K 3 (fn S__law_any_table)) := by
  have sc := sc__law_any_table
  refine fresh_ok F sc__law_any_table (fun cdv A outer s H E ds d hr hG hl => ?_)
  have hb := fn_inv hG
  have hown := hb.2
  refine ⟨_, (pm_cons (pm_set 3 sc.nd (pv_name 0))
      (pm_cons (pm_set 4 sc.nd (pv_lst pva_nil))
      (pm_cons (pm_for 5 sc.nd PassesOwn.never rfl (pim_range1 rfl m_range (pad_cons (pd_add (pd_var 1) pd_int) pad_nil))
        (pm_cons (pm_app 4 (pe_bm PySem.F.plainAttrs_list PySem.F.slot_list_append PySem.F.type_list_append mt_append (pvi 4) (pa_cons (pv_lst pva_nil) pa_nil)))
        (pm_one (pm_for 6 sc.nd PassesOwn.never rfl (pim_range1 rfl m_range (pad_cons (pd_add (pd_var 1) pd_int) pad_nil))
          (pm_cons (pm_set 7 sc.nd (pv_imm (pd_mod (pd_var 3) (pd_add (pd_mul pd_int (pd_var 2)) pd_int))))
          (pm_cons (pm_if (ptd_in (pd_var 3) (pd_tup (pad_cons pd_int (pad_cons (pd_neg pd_int) pad_nil)))) (pm_cons (pm_set 9 sc.nd (pv_call hLmixed hr (pad_cons (pd_var 0) (pad_cons (pd_add (pd_mul pd_int (pd_var 5)) (pd_var 6)) pad_nil))))
            (pm_one (pm_set 7 sc.nd (pv_imm (pd_ix (pd_lst (pad_cons pd_int (pad_cons pd_int (pad_cons (pd_add pd_int (pd_mod (pd_fdiv (pd_var 9) pd_int) (pd_add (pd_mul pd_int (pd_var 2)) pd_int))) pad_nil)))) (pd_mod (pd_var 9) pd_int)))))) pm_nil)
          (pm_cons (pm_set 3 sc.nd (pv_imm (pd_fdiv (pd_var 3) (pd_add (pd_mul pd_int (pd_var 2)) pd_int))))
          (pm_cons (pm_set 8 sc.nd (pv_imm pd_non))
          (pm_cons (pm_if (ptd_gt (pd_var 7) pd_int) (pm_one (pm_set 8 sc.nd (pv_imm (pd_tup (pad_cons (pd_sub (pd_fdiv (pd_sub (pd_var 7) pd_int) pd_int) (pd_var 2)) (pad_cons (pd_eqN hr.units (pd_mod (pd_var 7) pd_int) pd_int) pad_nil)))))) pm_nil)
          (pm_one (pm_app2 4 (pe_bm PySem.F.plainAttrs_list PySem.F.slot_list_append PySem.F.type_list_append mt_append (pe_ix ix_list (pvi 4) (pd_var 5) (fun _ _ => rfl)) (pa_cons (pv_name 8) pa_nil)))))))))))))
      (pm_one (pm_ret (pv_name 4)))))), ?_, ?own⟩
  case own => first | rfl | exact hown
  · show retOf ((?f : SD) (startM 10 _)) = _
    exact hb.1
abbrev s__law_part : Stmt := top 20
theorem sc__law_part : FnScope ["_law_cell"] ["_law_cell"] (defScope s__law_part) := ⟨rfl, rfl, rfl, by decide +kernel, rfl, by decide +kernel, by decide +kernel⟩
theorem ok__law_part (F : Fun K "_law_part" "_law_part" s__law_part f fd)  (hLlowest : Has P w K mg base 1 "_law_lowest" ["_law_top", "_law_bottom"] (fn S__law_lowest))   : FnOk P w K mg base CX0 2 f fd ["_law_cell"] (pureSp K 1 (fn S__law_part)) := by
  have sc := sc__law_part
  refine pure_ok F sc__law_part (fun cdv A outer s H E ds d hr hG hl => ?_)
  obtain ⟨c, rfl, rfl⟩ := fn_inv hG
  refine ⟨_, (psd_cons (psd_if (ptd_eq hr.units0 (pd_mod (pd_var 0) pd_int) pd_int) (psd_one (psd_ret (pd_callH hLlowest hr (pad_cons (pd_sub (pd_mod (pd_fdiv (pd_var 0) pd_int) (pd_add (pd_mul pd_int (pd_pow pd_int pd_int)) pd_int)) (pd_pow pd_int pd_int)) (pad_cons (pd_add pd_int (pd_mod (pd_var 0) pd_int)) pad_nil))))) psd_nil)
      (psd_one (psd_ret (pd_callH hLlowest hr (pad_cons (pd_sub (pd_mod (pd_fdiv (pd_var 0) pd_int) pd_int) pd_int) (pad_cons (pd_add pd_int (pd_mod (pd_fdiv (pd_var 0) pd_int) pd_int)) pad_nil)))))), ?_⟩
  · show retOf ((?f : SD) [some _]) = _
    have b8 : CDivB c 8 := ⟨by decide, bd_sm⟩
    have b48 : CDivB c 48 := ⟨by decide, bd_sm⟩
    have bp : CPow 10 45 := ⟨by decide, by decide, by decide⟩
    have e45 : (45 : Int).toNat = 45 := rfl
    have bm : CMulB 2 (10 ^ 45) := ⟨bd_sm, bd_of (k := 200) (show (10 ^ 45 : Int).natAbs < 2 ^ 200 by decide)⟩
    by_cases h : c % 8 = 5
    · have h1 : (c % 8 == 5) = true := by simp [h]
      simp only [retOf, sNil, sThen, sSeq, sRet, sDrop, sSet, sIf, sPar, sUn2, sFor, asL, gSet, forD, fVar, fC, f2, f1, fT, asB, fNotT, fAndT, fOrT, fAndV, fOrV, gNot, gNeg, faNil, faCons, fTup, fLst, fCall, gAbs, gInt, gLen_t2, gLen_seq, gIx_t0, gIx_t1, gI0, gAdd_int, gNe_int, gEq_int, gEq_bl, gEq_tup2, gNe_tup2, gIsi_same, Dl.isInt, Dl.isBool, Dl.isTup, Option.bind_some, Option.map_some, List.map_cons, List.map_nil, List.length_cons, List.length_nil, List.getElem?_cons_zero, List.getElem?_cons_succ, List.set_cons_zero, List.set_cons_succ, List.cons_append, List.nil_append, List.append_nil, Bool.not_true, Bool.not_false, beq_self_eq_true, bdD_none, bdD_some, gIsN, isNon, sSetM, sRetM, sDropM, vI, vName, vShare, vWalk, vNil, vCons, vLst, vTup, vCall, sh_bd, gI_pos (C := fun _ j => 0 < j) (i := c) (j := 8) (by decide), h1, gI_pos (C := CDivB) b8, gI_pos (C := CPow) bp, e45, gI_pos (C := CMulB) bm, gI_pos (C := fun _ j => 0 < j) (i := c / 8) (j := 2 * 10 ^ 45 + 1) (by decide), gI_pos (C := fun _ j => 0 < j) (i := c) (j := 9973) (by decide), e__law_lowest (t := c / 8 % (2 * 10 ^ 45 + 1) - 10 ^ 45) (b := 1 + c % 9973) (by omega) (bd_sm (by omega))]
      unfold prt
      rw [if_pos h]
    · have h1 : (c % 8 == 5) = false := by simp [h]
      simp only [retOf, sNil, sThen, sSeq, sRet, sDrop, sSet, sIf, sPar, sUn2, sFor, asL, gSet, forD, fVar, fC, f2, f1, fT, asB, fNotT, fAndT, fOrT, fAndV, fOrV, gNot, gNeg, faNil, faCons, fTup, fLst, fCall, gAbs, gInt, gLen_t2, gLen_seq, gIx_t0, gIx_t1, gI0, gAdd_int, gNe_int, gEq_int, gEq_bl, gEq_tup2, gNe_tup2, gIsi_same, Dl.isInt, Dl.isBool, Dl.isTup, Option.bind_some, Option.map_some, List.map_cons, List.map_nil, List.length_cons, List.length_nil, List.getElem?_cons_zero, List.getElem?_cons_succ, List.set_cons_zero, List.set_cons_succ, List.cons_append, List.nil_append, List.append_nil, Bool.not_true, Bool.not_false, beq_self_eq_true, bdD_none, bdD_some, gIsN, isNon, sSetM, sRetM, sDropM, vI, vName, vShare, vWalk, vNil, vCons, vLst, vTup, vCall, sh_bd, gI_pos (C := fun _ j => 0 < j) (i := c) (j := 8) (by decide), h1, gI_pos (C := CDivB) b8, gI_pos (C := CDivB) b48, gI_pos (C := fun _ j => 0 < j) (i := c / 48) (j := 41) (by decide), gI_pos (C := fun _ j => 0 < j) (i := c / 8) (j := 6) (by decide), e__law_lowest (t := c / 48 % 41 - 20) (b := 1 + c / 8 % 6) (by omega) (bd_sm (by omega))]
      unfold prt
      rw [if_neg h]
abbrev s__law_planted : Stmt := top 21
theorem sc__law_planted : FnScope ["_law_script", "_law_point", "_law_parts", "_law_table", "_law_i", "_law_j", "_law_drawn", "_law_number", "_law_bound", "_law_top", "_law_bottom"] ["_law_script", "_law_point"] (defScope s__law_planted) := ⟨rfl, rfl, rfl, by decide +kernel, rfl, by decide +kernel, by decide +kernel⟩
def S__law_planted (ds : List D) (d : D) : Prop := retOf (((sSeq (sSetM 2 (vCatS (fLst (faCons (fTup (faCons (fC (.int 0)) (faCons (fC (.int 1)) faNil))) faNil)) (fVar 1))) (sSeq (sSetM 3 (vLst vNil)) (sSeq (sForM (vRange (faCons (fCall gLen (faCons (fVar 2) faNil)) faNil)) 4 (sSeq (sApp 3 (vLst vNil)) (sForM (vRange (faCons (fCall gLen (faCons (fVar 2) faNil)) faNil)) 5 (sSeq (sUnM [9, 10] (vI (fCall (fn S__law_less) (faCons (f2 gIx (fVar 2) (fVar 4)) (faCons (f2 gIx (fVar 2) (fVar 5)) faNil))))) (sSeq (sSetM 6 (vCall (fn S__law_mixed) (faCons (fCall (fn S__law_cell_at) (faCons (fVar 0) (faCons (f2 gAdd (f2 gAdd (fC (.int 8)) (f2 (gI CMulB fun i j => .int (i * j)) (fCall gLen (faCons (fVar 2) faNil)) (fVar 4))) (fVar 5)) faNil))) (faCons (f2 gAdd (f2 (gI CMulB fun i j => .int (i * j)) (fC (.int 9)) (fVar 4)) (fVar 5)) faNil)))) (sSeq (sSetM 7 (vI (f2 gAdd (f1 gNeg (f2 (gI CDivB fun i j => .int (i / j)) (f1 gNeg (fVar 9)) (fVar 10))) (f2 (gI (fun _ j => 0 < j) fun i j => .int (i % j)) (f2 (gI CDivB fun i j => .int (i / j)) (fVar 6) (fC (.int 8))) (fC (.int 3)))))) (sSeq (sSetM 8 (vI (fTup (faCons (fVar 7) (faCons (fAndV (f2 gGt (f2 (gI CMulB fun i j => .int (i * j)) (fVar 7) (fVar 10)) (fVar 9)) (f2 gEqN (f2 (gI (fun _ j => 0 < j) fun i j => .int (i % j)) (f2 (gI CDivB fun i j => .int (i / j)) (fVar 6) (fC (.int 24))) (fC (.int 2))) (fC (.int 1)))) faNil))))) (sSeq (sIf (fOrT (fT (f2 gLt (f2 (gI (fun _ j => 0 < j) fun i j => .int (i % j)) (fVar 6) (fC (.int 8))) (fC (.int 3)))) (fAndT (fT (f2 gEqN (fVar 4) (fVar 5))) (fT (f2 gLt (f2 (gI (fun _ j => 0 < j) fun i j => .int (i % j)) (fVar 6) (fC (.int 8))) (fC (.int 6)))))) (sSetM 8 (vI (fC .non))) sNil) (sApp2 3 (fVar 4) (vName 8)))))))))) (sRetM (vName 3)))))) (startM 11 ds)) = some d ∧ own d = true
theorem snoc_kp {f : Nat → Int × Int} {r : List Bn} {b : Bn} (h : ∀ j, kp (f j) (r.getD j none) = true) (g : kp (f r.length) b = true) (j : Nat) : kp (f j) ((r ++ [b]).getD j none) = true := by
  rw [List.getD_eq_getElem?_getD]
  by_cases e : j < r.length
  · rw [List.getElem?_append_left e, ← List.getD_eq_getElem?_getD]; exact h j
  · by_cases e2 : j = r.length
    · subst e2
      rw [List.getElem?_append_right (Nat.le_refl _), Nat.sub_self]; exact g
    · rw [List.getElem?_eq_none (by rw [List.length_append, List.length_singleton]; omega)]; rfl
theorem snoc_cell {f : Nat → Nat → Int × Int} {T : List (List Bn)} {r : List Bn} (h : ∀ i j, kp (f i j) (cellT T i j) = true) (g : ∀ j, kp (f T.length j) (r.getD j none) = true) (i j : Nat) : kp (f i j) (cellT (T ++ [r]) i j) = true := by
  have hh := h i j
  unfold cellT at *
  rw [List.getD_eq_getElem?_getD (l := T ++ [r])]
  by_cases e : i < T.length
  · rw [List.getElem?_append_left e, ← List.getD_eq_getElem?_getD]; exact hh
  · by_cases e2 : i = T.length
    · subst e2
      rw [List.getElem?_append_right (Nat.le_refl _), Nat.sub_self]; exact g j
    · rw [List.getElem?_eq_none (by rw [List.length_append, List.length_singleton]; omega)]; rfl
theorem pl_in (ns : List Int) (P : D) (ps : List (Int × Int)) (T : List (List Bn)) (r : List Bn) (i j : Nat) (o6 o7 o8 o9 o10 : Option D) (hp : ∀ p ∈ ps, Fr 200 p) (hT : T.length = i) (hr : r.length = j) (hl : ps.length ≤ 40) (hi : i < ps.length + 1) (hj : j < ps.length + 1) : ∃ (b : Bn) (p6 p7 p9 p10 : Option D), (Bk 450 b ∧ kp (dif ps i j) b = true) ∧
    ((sSeq (sUnM [9, 10] (vI (fCall (fn S__law_less) (faCons (f2 gIx (fVar 2) (fVar 4)) (faCons (f2 gIx (fVar 2) (fVar 5)) faNil))))) (sSeq (sSetM 6 (vCall (fn S__law_mixed) (faCons (fCall (fn S__law_cell_at) (faCons (fVar 0) (faCons (f2 gAdd (f2 gAdd (fC (.int 8)) (f2 (gI CMulB fun i j => .int (i * j)) (fCall gLen (faCons (fVar 2) faNil)) (fVar 4))) (fVar 5)) faNil))) (faCons (f2 gAdd (f2 (gI CMulB fun i j => .int (i * j)) (fC (.int 9)) (fVar 4)) (fVar 5)) faNil)))) (sSeq (sSetM 7 (vI (f2 gAdd (f1 gNeg (f2 (gI CDivB fun i j => .int (i / j)) (f1 gNeg (fVar 9)) (fVar 10))) (f2 (gI (fun _ j => 0 < j) fun i j => .int (i % j)) (f2 (gI CDivB fun i j => .int (i / j)) (fVar 6) (fC (.int 8))) (fC (.int 3)))))) (sSeq (sSetM 8 (vI (fTup (faCons (fVar 7) (faCons (fAndV (f2 gGt (f2 (gI CMulB fun i j => .int (i * j)) (fVar 7) (fVar 10)) (fVar 9)) (f2 gEqN (f2 (gI (fun _ j => 0 < j) fun i j => .int (i % j)) (f2 (gI CDivB fun i j => .int (i / j)) (fVar 6) (fC (.int 24))) (fC (.int 2))) (fC (.int 1)))) faNil))))) (sSeq (sIf (fOrT (fT (f2 gLt (f2 (gI (fun _ j => 0 < j) fun i j => .int (i % j)) (fVar 6) (fC (.int 8))) (fC (.int 3)))) (fAndT (fT (f2 gEqN (fVar 4) (fVar 5))) (fT (f2 gLt (f2 (gI (fun _ j => 0 < j) fun i j => .int (i % j)) (fVar 6) (fC (.int 8))) (fC (.int 6)))))) (sSetM 8 (vI (fC .non))) sNil) (sApp2 3 (fVar 4) (vName 8)))))))) [some (.seq (ns.map D.int)), some P, some (.lst ((vals ps).map fr)), some (.lst (rowsO T ++ [.lst (rowD r)])), some (.int (i : Int)), some (.int (j : Int)), o6, o7, o8, o9, o10] = some (.nx [some (.seq (ns.map D.int)), some P, some (.lst ((vals ps).map fr)), some (.lst (rowsO T ++ [.lst (rowD (r ++ [b]))])), some (.int (i : Int)), some (.int (j : Int)), p6, p7, some (bdD b), p9, p10]) := by
  have a := valAt_fr (by decide) hp i
  have b := valAt_fr (by decide) hp j
  obtain ⟨top, htop⟩ : ∃ t, t = (valAt ps i).1 * (valAt ps j).2 - (valAt ps j).1 * (valAt ps i).2 := ⟨_, rfl⟩
  obtain ⟨bot, hbot⟩ : ∃ t, t = (valAt ps i).2 * (valAt ps j).2 := ⟨_, rfl⟩
  have hb : 0 < bot := by rw [hbot]; exact Int.mul_pos a.pos b.pos
  have s1 : Sm 401 top := by rw [htop]; exact (a.s1.mul b.s2).sub (b.s1.mul a.s2)
  have s2 : Sm 401 bot := by rw [hbot]; exact (a.s2.mul b.s2).mono (by decide)
  have le : fn S__law_less [fr (valAt ps i), fr (valAt ps j)] = some (.tup [.int top, .int bot]) := by
    rw [htop, hbot]
    exact e2 (op := fun p q => fr (dl p q)) (Fk.of a) (Fk.of b)
  have len : gLen [.lst ((vals ps).map fr)] = some (.int ((ps.length : Int) + 1)) := by
    show some (D.int (((vals ps).map fr).length : Int)) = _
    rw [List.length_map]
    rfl
  have ml : CMulB ((ps.length : Int) + 1) (i : Int) := ⟨bd_sm (by omega), bd_sm (by omega)⟩
  have mi9 : CMulB 9 (i : Int) := ⟨bd_sm, bd_sm (by omega)⟩
  have hli : (0 : Int) ≤ ((ps.length : Int) + 1) * (i : Int) := Int.mul_nonneg (by omega) (by omega)
  have ca := e__law_cell_at (ns := ns) (k := 8 + ((ps.length : Int) + 1) * (i : Int) + (j : Int)) (by omega)
  have mx := e__law_mixed (c := cell ns (8 + ((ps.length : Int) + 1) * (i : Int) + (j : Int))) (k := 9 * (i : Int) + (j : Int)) (by omega) (by omega)
  obtain ⟨w, hw⟩ : ∃ w, w = mxd (cell ns (8 + ((ps.length : Int) + 1) * (i : Int) + (j : Int))) (9 * (i : Int) + (j : Int)) := ⟨_, rfl⟩
  rw [← hw] at mx
  have dn : CDivB (-top) bot := ⟨hb, bd_of (k := 401) s2⟩
  have d8 : CDivB w 8 := ⟨by decide, bd_sm⟩
  have d24 : CDivB w 24 := ⟨by decide, bd_sm⟩
  obtain ⟨nb, hnb⟩ : ∃ nb, nb = -(-top / bot) + w / 8 % 3 := ⟨_, rfl⟩
  have s3 : Sm 402 nb := by
    rw [hnb]
    have h1 : Sm 401 (-(-top / bot)) := by
      show (-(-top / bot)).natAbs < 2 ^ 401
      rw [Int.natAbs_neg]
      refine Nat.lt_of_le_of_lt (Int.natAbs_ediv_le_natAbs _ _) ?_
      rw [Int.natAbs_neg]
      exact s1
    exact h1.add (y := w / 8 % 3) (Sm.mono (k := 10) (Sm.of (by omega) (by omega)) (by decide))
  have mb : CMulB nb bot := ⟨bd_of (k := 402) s3, bd_of (k := 401) s2⟩
  obtain ⟨t, ht, hts⟩ : ∃ t : Bool, (fAndV (f2 gGt (f2 (gI CMulB fun i j => .int (i * j)) (fVar 7) (fVar 10)) (fVar 9)) (f2 gEqN (f2 (gI (fun _ j => 0 < j) fun i j => .int (i % j)) (f2 (gI CDivB fun i j => .int (i / j)) (fVar 6) (fC (.int 24))) (fC (.int 2))) (fC (.int 1))) [some (.seq (ns.map D.int)), some P, some (.lst ((vals ps).map fr)), some (.lst (rowsO T ++ [.lst (rowD r)])), some (.int (i : Int)), some (.int (j : Int)), some (.int w), some (.int nb), o8, some (.int top), some (.int bot)] = some (.bl t)) ∧ (t = true → top < nb * bot) := by
    by_cases h : top < nb * bot
    · have h1 : decide (top < nb * bot) = true := decide_eq_true h
      exact ⟨w / 24 % 2 == 1, by simp only [retOf, sNil, sThen, sSeq, sRet, sDrop, sSet, sIf, sPar, sUn2, sFor, asL, gSet, forD, fVar, fC, f2, f1, fT, asB, fNotT, fAndT, fOrT, fAndV, fOrV, gNot, gNeg, faNil, faCons, fTup, fLst, fCall, gAbs, gInt, gLen_t2, gLen_seq, gIx_t0, gIx_t1, gI0, gAdd_int, gNe_int, gEq_int, gEq_bl, gEq_tup2, gNe_tup2, gIsi_same, Dl.isInt, Dl.isBool, Dl.isTup, Option.bind_some, Option.map_some, List.map_cons, List.map_nil, List.length_cons, List.length_nil, List.getElem?_cons_zero, List.getElem?_cons_succ, List.set_cons_zero, List.set_cons_succ, List.cons_append, List.nil_append, List.append_nil, Bool.not_true, Bool.not_false, beq_self_eq_true, bdD_none, bdD_some, gIsN, isNon, sSetM, sRetM, sDropM, vI, vName, vShare, vWalk, vNil, vCons, vLst, vTup, vCall, sh_bd, gGt, gLt, gEqN_int, gI_pos (C := CMulB) mb, h1, gI_pos (C := CDivB) d24, gI_pos (C := fun _ j => 0 < j) (i := w / 24) (j := 2) (by decide)], fun _ => h⟩
    · have h1 : decide (top < nb * bot) = false := decide_eq_false h
      exact ⟨false, by simp only [retOf, sNil, sThen, sSeq, sRet, sDrop, sSet, sIf, sPar, sUn2, sFor, asL, gSet, forD, fVar, fC, f2, f1, fT, asB, fNotT, fAndT, fOrT, fAndV, fOrV, gNot, gNeg, faNil, faCons, fTup, fLst, fCall, gAbs, gInt, gLen_t2, gLen_seq, gIx_t0, gIx_t1, gI0, gAdd_int, gNe_int, gEq_int, gEq_bl, gEq_tup2, gNe_tup2, gIsi_same, Dl.isInt, Dl.isBool, Dl.isTup, Option.bind_some, Option.map_some, List.map_cons, List.map_nil, List.length_cons, List.length_nil, List.getElem?_cons_zero, List.getElem?_cons_succ, List.set_cons_zero, List.set_cons_succ, List.cons_append, List.nil_append, List.append_nil, Bool.not_true, Bool.not_false, beq_self_eq_true, bdD_none, bdD_some, gIsN, isNon, sSetM, sRetM, sDropM, vI, vName, vShare, vWalk, vNil, vCons, vLst, vTup, vCall, sh_bd, gGt, gLt, gI_pos (C := CMulB) mb, h1], fun z => nomatch z⟩
  have kn : kp (dif ps i j) none = true := rfl
  have ks : kp (dif ps i j) (some (nb, t)) = true := by
    have e1 : kp (dif ps i j) (some (nb, t)) = kp (top, bot) (some (nb, t)) := by
      rw [htop, hbot]
      exact (kp_dl a.pos b.pos _).symm
    rw [e1, kp_iff]
    have c1 : -top / bot * bot ≤ -top := Int.ediv_mul_le _ (by omega)
    have c2 : nb * bot = -(-top / bot * bot) + w / 8 % 3 * bot := by rw [hnb, Int.add_mul, Int.neg_mul]
    have c3 : 0 ≤ w / 8 % 3 * bot := Int.mul_nonneg (by omega) (by omega)
    cases t with
    | true => exact hts rfl
    | false => show top ≤ nb * bot; omega
  obtain ⟨bb, hbb, hst⟩ : ∃ b : Bn, (Bk 450 b ∧ kp (dif ps i j) b = true) ∧ ((sIf (fOrT (fT (f2 gLt (f2 (gI (fun _ j => 0 < j) fun i j => .int (i % j)) (fVar 6) (fC (.int 8))) (fC (.int 3)))) (fAndT (fT (f2 gEqN (fVar 4) (fVar 5))) (fT (f2 gLt (f2 (gI (fun _ j => 0 < j) fun i j => .int (i % j)) (fVar 6) (fC (.int 8))) (fC (.int 6)))))) (sSetM 8 (vI (fC .non))) sNil)) [some (.seq (ns.map D.int)), some P, some (.lst ((vals ps).map fr)), some (.lst (rowsO T ++ [.lst (rowD r)])), some (.int (i : Int)), some (.int (j : Int)), some (.int w), some (.int nb), some (.tup [.int nb, .bl t]), some (.int top), some (.int bot)] = some (.nx [some (.seq (ns.map D.int)), some P, some (.lst ((vals ps).map fr)), some (.lst (rowsO T ++ [.lst (rowD r)])), some (.int (i : Int)), some (.int (j : Int)), some (.int w), some (.int nb), some (bdD b), some (.int top), some (.int bot)]) := by
    have yes : Bk 450 (some (nb, t)) ∧ kp (dif ps i j) (some (nb, t)) = true := ⟨Sm.mono (k := 402) s3 (by decide), ks⟩
    by_cases h3 : w % 8 < 3
    · have q3 : decide (w % 8 < 3) = true := decide_eq_true h3
      exact ⟨none, ⟨trivial, kn⟩, st_ifT (by simp only [retOf, sNil, sThen, sSeq, sRet, sDrop, sSet, sIf, sPar, sUn2, sFor, asL, gSet, forD, fVar, fC, f2, f1, fT, asB, fNotT, fAndT, fOrT, fAndV, fOrV, gNot, gNeg, faNil, faCons, fTup, fLst, fCall, gAbs, gInt, gLen_t2, gLen_seq, gIx_t0, gIx_t1, gI0, gAdd_int, gNe_int, gEq_int, gEq_bl, gEq_tup2, gNe_tup2, gIsi_same, Dl.isInt, Dl.isBool, Dl.isTup, Option.bind_some, Option.map_some, List.map_cons, List.map_nil, List.length_cons, List.length_nil, List.getElem?_cons_zero, List.getElem?_cons_succ, List.set_cons_zero, List.set_cons_succ, List.cons_append, List.nil_append, List.append_nil, Bool.not_true, Bool.not_false, beq_self_eq_true, bdD_none, bdD_some, gIsN, isNon, sSetM, sRetM, sDropM, vI, vName, vShare, vWalk, vNil, vCons, vLst, vTup, vCall, sh_bd, gLt, gI_pos (C := fun _ j => 0 < j) (i := w) (j := 8) (by decide), q3]) rfl⟩
    · have q3 : decide (w % 8 < 3) = false := decide_eq_false h3
      cases hij : ((i : Int) == (j : Int)) with
      | false => exact ⟨some (nb, t), yes, st_ifF (by simp only [retOf, sNil, sThen, sSeq, sRet, sDrop, sSet, sIf, sPar, sUn2, sFor, asL, gSet, forD, fVar, fC, f2, f1, fT, asB, fNotT, fAndT, fOrT, fAndV, fOrV, gNot, gNeg, faNil, faCons, fTup, fLst, fCall, gAbs, gInt, gLen_t2, gLen_seq, gIx_t0, gIx_t1, gI0, gAdd_int, gNe_int, gEq_int, gEq_bl, gEq_tup2, gNe_tup2, gIsi_same, Dl.isInt, Dl.isBool, Dl.isTup, Option.bind_some, Option.map_some, List.map_cons, List.map_nil, List.length_cons, List.length_nil, List.getElem?_cons_zero, List.getElem?_cons_succ, List.set_cons_zero, List.set_cons_succ, List.cons_append, List.nil_append, List.append_nil, Bool.not_true, Bool.not_false, beq_self_eq_true, bdD_none, bdD_some, gIsN, isNon, sSetM, sRetM, sDropM, vI, vName, vShare, vWalk, vNil, vCons, vLst, vTup, vCall, sh_bd, gLt, gEqN_int, gI_pos (C := fun _ j => 0 < j) (i := w) (j := 8) (by decide), q3, hij]) rfl⟩
      | true =>
        by_cases h6 : w % 8 < 6
        · have q6 : decide (w % 8 < 6) = true := decide_eq_true h6
          exact ⟨none, ⟨trivial, kn⟩, st_ifT (by simp only [retOf, sNil, sThen, sSeq, sRet, sDrop, sSet, sIf, sPar, sUn2, sFor, asL, gSet, forD, fVar, fC, f2, f1, fT, asB, fNotT, fAndT, fOrT, fAndV, fOrV, gNot, gNeg, faNil, faCons, fTup, fLst, fCall, gAbs, gInt, gLen_t2, gLen_seq, gIx_t0, gIx_t1, gI0, gAdd_int, gNe_int, gEq_int, gEq_bl, gEq_tup2, gNe_tup2, gIsi_same, Dl.isInt, Dl.isBool, Dl.isTup, Option.bind_some, Option.map_some, List.map_cons, List.map_nil, List.length_cons, List.length_nil, List.getElem?_cons_zero, List.getElem?_cons_succ, List.set_cons_zero, List.set_cons_succ, List.cons_append, List.nil_append, List.append_nil, Bool.not_true, Bool.not_false, beq_self_eq_true, bdD_none, bdD_some, gIsN, isNon, sSetM, sRetM, sDropM, vI, vName, vShare, vWalk, vNil, vCons, vLst, vTup, vCall, sh_bd, gLt, gEqN_int, gI_pos (C := fun _ j => 0 < j) (i := w) (j := 8) (by decide), q3, hij, q6]) rfl⟩
        · have q6 : decide (w % 8 < 6) = false := decide_eq_false h6
          exact ⟨some (nb, t), yes, st_ifF (by simp only [retOf, sNil, sThen, sSeq, sRet, sDrop, sSet, sIf, sPar, sUn2, sFor, asL, gSet, forD, fVar, fC, f2, f1, fT, asB, fNotT, fAndT, fOrT, fAndV, fOrV, gNot, gNeg, faNil, faCons, fTup, fLst, fCall, gAbs, gInt, gLen_t2, gLen_seq, gIx_t0, gIx_t1, gI0, gAdd_int, gNe_int, gEq_int, gEq_bl, gEq_tup2, gNe_tup2, gIsi_same, Dl.isInt, Dl.isBool, Dl.isTup, Option.bind_some, Option.map_some, List.map_cons, List.map_nil, List.length_cons, List.length_nil, List.getElem?_cons_zero, List.getElem?_cons_succ, List.set_cons_zero, List.set_cons_succ, List.cons_append, List.nil_append, List.append_nil, Bool.not_true, Bool.not_false, beq_self_eq_true, bdD_none, bdD_some, gIsN, isNon, sSetM, sRetM, sDropM, vI, vName, vShare, vWalk, vNil, vCons, vLst, vTup, vCall, sh_bd, gLt, gEqN_int, gI_pos (C := fun _ j => 0 < j) (i := w) (j := 8) (by decide), q3, hij, q6]) rfl⟩
  refine ⟨bb, some (.int w), some (.int nb), some (.int top), some (.int bot), hbb, ?_⟩
  refine st_seq (st_un (ds := [.int top, .int bot]) (v_imm (by simp only [retOf, sNil, sThen, sSeq, sRet, sDrop, sSet, sIf, sPar, sUn2, sFor, asL, gSet, forD, fVar, fC, f2, f1, fT, asB, fNotT, fAndT, fOrT, fAndV, fOrV, gNot, gNeg, faNil, faCons, fTup, fLst, fCall, gAbs, gInt, gLen_t2, gLen_seq, gIx_t0, gIx_t1, gI0, gAdd_int, gNe_int, gEq_int, gEq_bl, gEq_tup2, gNe_tup2, gIsi_same, Dl.isInt, Dl.isBool, Dl.isTup, Option.bind_some, Option.map_some, List.map_cons, List.map_nil, List.length_cons, List.length_nil, List.getElem?_cons_zero, List.getElem?_cons_succ, List.set_cons_zero, List.set_cons_succ, List.cons_append, List.nil_append, List.append_nil, Bool.not_true, Bool.not_false, beq_self_eq_true, bdD_none, bdD_some, gIsN, isNon, sSetM, sRetM, sDropM, vI, vName, vShare, vWalk, vNil, vCons, vLst, vTup, vCall, sh_bd, (ix_vals hi).1, (ix_vals hj).1, le])) rfl rfl) (st_seq (st_set (v_call (ds := [.int (cell ns (8 + ((ps.length : Int) + 1) * (i : Int) + (j : Int))), .int (9 * (i : Int) + (j : Int))]) ?ar mx rfl)) (st_seq (st_set (v_imm (d := .int nb) ?nb)) (st_seq (st_set (v_imm (d := .tup [.int nb, .bl t]) ?tp)) (st_seq hst ?_))))
  case ar => simp only [setO, retOf, sNil, sThen, sSeq, sRet, sDrop, sSet, sIf, sPar, sUn2, sFor, asL, gSet, forD, fVar, fC, f2, f1, fT, asB, fNotT, fAndT, fOrT, fAndV, fOrV, gNot, gNeg, faNil, faCons, fTup, fLst, fCall, gAbs, gInt, gLen_t2, gLen_seq, gIx_t0, gIx_t1, gI0, gAdd_int, gNe_int, gEq_int, gEq_bl, gEq_tup2, gNe_tup2, gIsi_same, Dl.isInt, Dl.isBool, Dl.isTup, Option.bind_some, Option.map_some, List.map_cons, List.map_nil, List.length_cons, List.length_nil, List.getElem?_cons_zero, List.getElem?_cons_succ, List.set_cons_zero, List.set_cons_succ, List.cons_append, List.nil_append, List.append_nil, Bool.not_true, Bool.not_false, beq_self_eq_true, bdD_none, bdD_some, gIsN, isNon, sSetM, sRetM, sDropM, vI, vName, vShare, vWalk, vNil, vCons, vLst, vTup, vCall, sh_bd, len, gI_pos (C := CMulB) ml, ca, gI_pos (C := CMulB) mi9]
  case nb => simp only [setO, retOf, sNil, sThen, sSeq, sRet, sDrop, sSet, sIf, sPar, sUn2, sFor, asL, gSet, forD, fVar, fC, f2, f1, fT, asB, fNotT, fAndT, fOrT, fAndV, fOrV, gNot, gNeg, faNil, faCons, fTup, fLst, fCall, gAbs, gInt, gLen_t2, gLen_seq, gIx_t0, gIx_t1, gI0, gAdd_int, gNe_int, gEq_int, gEq_bl, gEq_tup2, gNe_tup2, gIsi_same, Dl.isInt, Dl.isBool, Dl.isTup, Option.bind_some, Option.map_some, List.map_cons, List.map_nil, List.length_cons, List.length_nil, List.getElem?_cons_zero, List.getElem?_cons_succ, List.set_cons_zero, List.set_cons_succ, List.cons_append, List.nil_append, List.append_nil, Bool.not_true, Bool.not_false, beq_self_eq_true, bdD_none, bdD_some, gIsN, isNon, sSetM, sRetM, sDropM, vI, vName, vShare, vWalk, vNil, vCons, vLst, vTup, vCall, sh_bd, gI_pos (C := CDivB) dn, gI_pos (C := CDivB) d8, gI_pos (C := fun _ j => 0 < j) (i := w / 8) (j := 3) (by decide), hnb]
  case tp => exact f_tup2 (a := .int nb) (b := .bl t) rfl ht
  rw [rowD_snoc]
  exact app2_last rfl (by rw [len_rowsO, hT]; rfl) (vName_bd rfl) (by rw [len_rowD]; omega)
theorem t__law_planted {ns : List Int} {d1 : D} {ps : List (Int × Int)} (h1 : IsP d1 ps) (hp : ∀ p ∈ ps, Fr 200 p) (hl : ps.length ≤ 40) : ∃ T, Grown T (ps.length + 1) (ps.length + 1) ∧ (∀ i, i < ps.length + 1 → ∀ j, j < ps.length + 1 → kp (dif ps i j) (cellT T i j) = true) ∧ fn S__law_planted [.seq (ns.map D.int), d1] = some (ownD T) := by
  have e0 : startM 11 [.seq (ns.map D.int), d1] = [some (.seq (ns.map D.int)), some (.seq (ps.map fr)), none, none, none, none, none, none, none, none, none] := by
    show [some (sh (.seq (ns.map D.int))), some (sh d1), none, none, none, none, none, none, none, none, none] = _
    rw [sh, shs_ints, show sh d1 = _ from h1]
  have len : gLen [.lst ((vals ps).map fr)] = some (.int ((ps.length + 1 : Nat) : Int)) := by
    show some (D.int (((vals ps).map fr).length : Int)) = _
    rw [List.length_map]
    rfl
  have hr := fun t o4 o5 o6 o7 o8 o9 o10 => v_range (g := faCons (fCall gLen (faCons (fVar 2) faNil)) faNil) (δ := [some (.seq (ns.map D.int)), some (.seq (ps.map fr)), some (.lst ((vals ps).map fr)), t, o4, o5, o6, o7, o8, o9, o10]) (n := ps.length + 1) (by simp only [retOf, sNil, sThen, sSeq, sRet, sDrop, sSet, sIf, sPar, sUn2, sFor, asL, gSet, forD, fVar, fC, f2, f1, fT, asB, fNotT, fAndT, fOrT, fAndV, fOrV, gNot, gNeg, faNil, faCons, fTup, fLst, fCall, gAbs, gInt, gLen_t2, gLen_seq, gIx_t0, gIx_t1, gI0, gAdd_int, gNe_int, gEq_int, gEq_bl, gEq_tup2, gNe_tup2, gIsi_same, Dl.isInt, Dl.isBool, Dl.isTup, Option.bind_some, Option.map_some, List.map_cons, List.map_nil, List.length_cons, List.length_nil, List.getElem?_cons_zero, List.getElem?_cons_succ, List.set_cons_zero, List.set_cons_succ, List.cons_append, List.nil_append, List.append_nil, Bool.not_true, Bool.not_false, beq_self_eq_true, bdD_none, bdD_some, gIsN, isNon, sSetM, sRetM, sDropM, vI, vName, vShare, vWalk, vNil, vCons, vLst, vTup, vCall, sh_bd, len]) (by omega)
  have inner : ∀ (T : List (List Bn)) (i : Nat) (o5 o6 o7 o8 o9 o10 : Option D), T.length = i → i < ps.length + 1 → ∃ δ', Dl.forM 5 ((sSeq (sUnM [9, 10] (vI (fCall (fn S__law_less) (faCons (f2 gIx (fVar 2) (fVar 4)) (faCons (f2 gIx (fVar 2) (fVar 5)) faNil))))) (sSeq (sSetM 6 (vCall (fn S__law_mixed) (faCons (fCall (fn S__law_cell_at) (faCons (fVar 0) (faCons (f2 gAdd (f2 gAdd (fC (.int 8)) (f2 (gI CMulB fun i j => .int (i * j)) (fCall gLen (faCons (fVar 2) faNil)) (fVar 4))) (fVar 5)) faNil))) (faCons (f2 gAdd (f2 (gI CMulB fun i j => .int (i * j)) (fC (.int 9)) (fVar 4)) (fVar 5)) faNil)))) (sSeq (sSetM 7 (vI (f2 gAdd (f1 gNeg (f2 (gI CDivB fun i j => .int (i / j)) (f1 gNeg (fVar 9)) (fVar 10))) (f2 (gI (fun _ j => 0 < j) fun i j => .int (i % j)) (f2 (gI CDivB fun i j => .int (i / j)) (fVar 6) (fC (.int 8))) (fC (.int 3)))))) (sSeq (sSetM 8 (vI (fTup (faCons (fVar 7) (faCons (fAndV (f2 gGt (f2 (gI CMulB fun i j => .int (i * j)) (fVar 7) (fVar 10)) (fVar 9)) (f2 gEqN (f2 (gI (fun _ j => 0 < j) fun i j => .int (i % j)) (f2 (gI CDivB fun i j => .int (i / j)) (fVar 6) (fC (.int 24))) (fC (.int 2))) (fC (.int 1)))) faNil))))) (sSeq (sIf (fOrT (fT (f2 gLt (f2 (gI (fun _ j => 0 < j) fun i j => .int (i % j)) (fVar 6) (fC (.int 8))) (fC (.int 3)))) (fAndT (fT (f2 gEqN (fVar 4) (fVar 5))) (fT (f2 gLt (f2 (gI (fun _ j => 0 < j) fun i j => .int (i % j)) (fVar 6) (fC (.int 8))) (fC (.int 6)))))) (sSetM 8 (vI (fC .non))) sNil) (sApp2 3 (fVar 4) (vName 8)))))))) ((List.range (ps.length + 1)).map fun (i : Nat) => D.int (i : Int)) [some (.seq (ns.map D.int)), some (.seq (ps.map fr)), some (.lst ((vals ps).map fr)), some (.lst (rowsO T ++ [.lst (rowD [])])), some (.int (i : Int)), o5, o6, o7, o8, o9, o10] = some (.nx δ') ∧ ∃ (r : List Bn) (o5 o6 o7 o8 o9 o10 : Option D), r.length = (List.range (ps.length + 1)).length ∧ (∀ b ∈ r, Bk 450 b) ∧ (∀ j, kp (dif ps i j) (r.getD j none) = true) ∧ δ' = [some (.seq (ns.map D.int)), some (.seq (ps.map fr)), some (.lst ((vals ps).map fr)), some (.lst (rowsO T ++ [.lst (rowD r)])), some (.int (i : Int)), o5, o6, o7, o8, o9, o10] := by
    intro T i o5 o6 o7 o8 o9 o10 hT hi
    refine forM_pre (f := fun (i : Nat) => D.int (i : Int)) (fun pre δ => ∃ (r : List Bn) (o5 o6 o7 o8 o9 o10 : Option D), r.length = pre.length ∧ (∀ b ∈ r, Bk 450 b) ∧ (∀ j, kp (dif ps i j) (r.getD j none) = true) ∧ δ = [some (.seq (ns.map D.int)), some (.seq (ps.map fr)), some (.lst ((vals ps).map fr)), some (.lst (rowsO T ++ [.lst (rowD r)])), some (.int (i : Int)), o5, o6, o7, o8, o9, o10]) (List.range (ps.length + 1)) ?_ (List.range (ps.length + 1)) [] _ rfl ⟨[], o5, o6, o7, o8, o9, o10, rfl, (fun _ m => nomatch m), (fun _ => rfl), rfl⟩
    rintro pre x post _ hx ⟨r, o5, o6, o7, o8, o9, o10, hr, hb, hk, rfl⟩
    obtain ⟨rfl, hl'⟩ := range_at hx
    obtain ⟨b, p6, p7, p9, p10, hbb, st⟩ := pl_in ns (.seq (ps.map fr)) ps T r i pre.length o6 o7 o8 o9 o10 hp hT hr hl hi hl'
    refine ⟨_, st, r ++ [b], _, _, _, _, _, _, by rw [List.length_append, List.length_append, hr]; rfl, fun z hz => ?_, fun j => snoc_kp hk (by rw [hr]; exact hbb.2) j, rfl⟩
    rcases List.mem_append.mp hz with hz | hz
    · exact hb z hz
    · rw [List.mem_singleton.mp hz]; exact hbb.1
  obtain ⟨_, w, T, o4, o5, o6, o7, o8, o9, o10, hG, hK, rfl⟩ := forM_pre (i := 4) (s := ((sSeq (sApp 3 (vLst vNil)) (sForM (vRange (faCons (fCall gLen (faCons (fVar 2) faNil)) faNil)) 5 (sSeq (sUnM [9, 10] (vI (fCall (fn S__law_less) (faCons (f2 gIx (fVar 2) (fVar 4)) (faCons (f2 gIx (fVar 2) (fVar 5)) faNil))))) (sSeq (sSetM 6 (vCall (fn S__law_mixed) (faCons (fCall (fn S__law_cell_at) (faCons (fVar 0) (faCons (f2 gAdd (f2 gAdd (fC (.int 8)) (f2 (gI CMulB fun i j => .int (i * j)) (fCall gLen (faCons (fVar 2) faNil)) (fVar 4))) (fVar 5)) faNil))) (faCons (f2 gAdd (f2 (gI CMulB fun i j => .int (i * j)) (fC (.int 9)) (fVar 4)) (fVar 5)) faNil)))) (sSeq (sSetM 7 (vI (f2 gAdd (f1 gNeg (f2 (gI CDivB fun i j => .int (i / j)) (f1 gNeg (fVar 9)) (fVar 10))) (f2 (gI (fun _ j => 0 < j) fun i j => .int (i % j)) (f2 (gI CDivB fun i j => .int (i / j)) (fVar 6) (fC (.int 8))) (fC (.int 3)))))) (sSeq (sSetM 8 (vI (fTup (faCons (fVar 7) (faCons (fAndV (f2 gGt (f2 (gI CMulB fun i j => .int (i * j)) (fVar 7) (fVar 10)) (fVar 9)) (f2 gEqN (f2 (gI (fun _ j => 0 < j) fun i j => .int (i % j)) (f2 (gI CDivB fun i j => .int (i / j)) (fVar 6) (fC (.int 24))) (fC (.int 2))) (fC (.int 1)))) faNil))))) (sSeq (sIf (fOrT (fT (f2 gLt (f2 (gI (fun _ j => 0 < j) fun i j => .int (i % j)) (fVar 6) (fC (.int 8))) (fC (.int 3)))) (fAndT (fT (f2 gEqN (fVar 4) (fVar 5))) (fT (f2 gLt (f2 (gI (fun _ j => 0 < j) fun i j => .int (i % j)) (fVar 6) (fC (.int 8))) (fC (.int 6)))))) (sSetM 8 (vI (fC .non))) sNil) (sApp2 3 (fVar 4) (vName 8))))))))))) (f := fun (i : Nat) => D.int (i : Int)) (fun pre δ => ∃ (T : List (List Bn)) (o4 o5 o6 o7 o8 o9 o10 : Option D), Grown T pre.length (ps.length + 1) ∧ (∀ i j, kp (dif ps i j) (cellT T i j) = true) ∧ δ = [some (.seq (ns.map D.int)), some (.seq (ps.map fr)), some (.lst ((vals ps).map fr)), some (ownD T), o4, o5, o6, o7, o8, o9, o10]) (List.range (ps.length + 1)) (by
    rintro pre x post _ hx ⟨T, o4, o5, o6, o7, o8, o9, o10, hG, hK, rfl⟩
    obtain ⟨rfl, hl'⟩ := range_at hx
    obtain ⟨_, w, r, p5, p6, p7, p8, p9, p10, h1, h2, h3, rfl⟩ := inner T pre.length o5 o6 o7 o8 o9 o10 hG.len hl'
    refine ⟨_, st_seq (st_app (ds := rowsO T) (d := .lst []) rfl rfl (by rw [len_rowsO, hG.len]; omega)) (st_for (hr _ _ _ _ _ _ _ _) w), T ++ [r], some (.int (pre.length : Int)), p5, p6, p7, p8, p9, p10, ?_, fun i j => snoc_cell hK (by rw [hG.len]; exact h3) i j, ?_⟩
    · rw [List.length_append]
      exact hG.snoc (by rw [h1, List.length_range]) h2
    · unfold ownD
      rw [rowsO_snoc]) (List.range (ps.length + 1)) [] [some (.seq (ns.map D.int)), some (.seq (ps.map fr)), some (.lst ((vals ps).map fr)), some (.lst []), none, none, none, none, none, none, none] rfl ⟨[], none, none, none, none, none, none, none, ⟨rfl, (fun _ m => nomatch m), (fun _ m => nomatch m)⟩, (fun _ _ => rfl), rfl⟩
  have cat : vCatS (fLst (faCons (fTup (faCons (fC (.int 0)) (faCons (fC (.int 1)) faNil))) faNil)) (fVar 1) [some (.seq (ns.map D.int)), some (.seq (ps.map fr)), none, none, none, none, none, none, none, none, none] = some (.lst ((vals ps).map fr), [some (.seq (ns.map D.int)), some (.seq (ps.map fr)), none, none, none, none, none, none, none, none, none]) := v_catS (a := .lst [fr (0, 1)]) (xs := [fr (0, 1)]) (ys := ps.map fr) rfl rfl rfl rfl (by rw [List.length_map]; simp only [List.length_cons, List.length_nil]; omega) (imms_frs (vals ps))
  have key : S__law_planted [.seq (ns.map D.int), d1] (ownD T) := by
    refine ⟨?_, own_ownD T⟩
    rw [e0]
    exact rt_of (st_seq (st_set cat) (st_seq (st_set (d := .lst []) rfl) (st_seq (st_for (hr _ _ _ _ _ _ _ _) w) (st_ret (v_move rfl)))))
  exact ⟨T, by rw [List.length_range] at hG; exact hG, fun i _ j _ => hK i j, fn_eq (fun d' h' => Option.some.inj (h'.1.symm.trans key.1)) key⟩
theorem ok__law_planted (F : Fun K "_law_planted" "_law_planted" s__law_planted f fd)  (hLless : Has P w K mg base 1 "_law_less" ["_law_one", "_law_other"] (fn S__law_less)) (hLmixed : HasF P w K mg base 1 "_law_mixed" ["_law_cell", "_law_k"] (fn S__law_mixed)) (hLcell_at : Has P w K mg base 1 "_law_cell_at" ["_law_script", "_law_k"] (fn S__law_cell_at))  (m_range : mg "range" = none) (m_len : mg "len" = none) : FnOk P w K mg base CX0 2 f fd ["_law_script", "_law_point"] (freshSp K 2 (fn S__law_planted)) := by
  have sc := sc__law_planted
  refine fresh_ok F sc__law_planted (fun cdv A outer s H E ds d hr hG hl => ?_)
  have hb := fn_inv hG
  have hown := hb.2
  refine ⟨_, (pm_cons (pm_set 2 sc.nd (pv_catS (pd_lst (pad_cons (pd_tup (pad_cons pd_int (pad_cons pd_int pad_nil))) pad_nil)) (pd_var 1)))
      (pm_cons (pm_set 3 sc.nd (pv_lst pva_nil))
      (pm_cons (pm_for 4 sc.nd PassesOwn.never rfl (pim_range1 rfl m_range (pad_cons (pd_callB call_len_seq cd_len rfl m_len PySem.boot_len (pad_cons (pd_var 2) pad_nil)) pad_nil))
        (pm_cons (pm_app 3 (pe_bm PySem.F.plainAttrs_list PySem.F.slot_list_append PySem.F.type_list_append mt_append (pvi 3) (pa_cons (pv_lst pva_nil) pa_nil)))
        (pm_one (pm_for 5 sc.nd PassesOwn.never rfl (pim_range1 rfl m_range (pad_cons (pd_callB call_len_seq cd_len rfl m_len PySem.boot_len (pad_cons (pd_var 2) pad_nil)) pad_nil))
          (pm_cons (pm_un [9, 10] (pv_imm (pd_callH hLless hr (pad_cons (pd_ix (pd_var 2) (pd_var 4)) (pad_cons (pd_ix (pd_var 2) (pd_var 5)) pad_nil)))) (pg_tup rfl (pgs_cons (pgN 9 sc.nd) (pgs_cons (pgN 10 sc.nd) pgs_nil))))
          (pm_cons (pm_set 6 sc.nd (pv_call hLmixed hr (pad_cons (pd_callH hLcell_at hr (pad_cons (pd_var 0) (pad_cons (pd_add (pd_add pd_int (pd_mul (pd_callB call_len_seq cd_len rfl m_len PySem.boot_len (pad_cons (pd_var 2) pad_nil)) (pd_var 4))) (pd_var 5)) pad_nil))) (pad_cons (pd_add (pd_mul pd_int (pd_var 4)) (pd_var 5)) pad_nil))))
          (pm_cons (pm_set 7 sc.nd (pv_imm (pd_add (pd_neg (pd_fdiv (pd_neg (pd_var 9)) (pd_var 10))) (pd_mod (pd_fdiv (pd_var 6) pd_int) pd_int))))
          (pm_cons (pm_set 8 sc.nd (pv_imm (pd_tup (pad_cons (pd_var 7) (pad_cons (pd_and (pd_gt (pd_mul (pd_var 7) (pd_var 10)) (pd_var 9)) (pd_one (pd_eqN hr.units (pd_mod (pd_fdiv (pd_var 6) pd_int) pd_int) pd_int))) pad_nil)))))
          (pm_cons (pm_if (PWD.pt (pwd_or (ptd_lt (pd_mod (pd_var 6) pd_int) pd_int) (pwd_or1 (PWD.pt (pwd_and (ptd_eqN hr.units (pd_var 4) (pd_var 5)) (pwd_and1 (ptd_lt (pd_mod (pd_var 6) pd_int) pd_int))))))) (pm_one (pm_set 8 sc.nd (pv_imm pd_non))) pm_nil)
          (pm_one (pm_app2 3 (pe_bm PySem.F.plainAttrs_list PySem.F.slot_list_append PySem.F.type_list_append mt_append (pe_ix ix_list (pvi 3) (pd_var 4) (fun _ _ => rfl)) (pa_cons (pv_name 8) pa_nil)))))))))))))
      (pm_one (pm_ret (pv_name 3)))))), ?_, ?own⟩
  case own => first | rfl | exact hown
  · show retOf ((?f : SD) (startM 11 _)) = _
    exact hb.1
abbrev s__law_lies : Stmt := top 25
theorem sc__law_lies : FnScope ["_law_table", "_law_point", "_law_parts", "_law_i", "_law_j"] ["_law_table", "_law_point"] (defScope s__law_lies) := ⟨rfl, rfl, rfl, by decide +kernel, rfl, by decide +kernel, by decide +kernel⟩
theorem ok__law_lies (F : Fun K "_law_lies" "_law_lies" s__law_lies f fd)  (hLkeeps : Has P w K mg base 1 "_law_keeps" ["_law_part_here", "_law_bound"] (fn S__law_keeps)) (hLless : Has P w K mg base 1 "_law_less" ["_law_one", "_law_other"] (fn S__law_less))  (m_range : mg "range" = none) (m_len : mg "len" = none) : FnOk P w K mg base CX0 2 f fd ["_law_table", "_law_point"] (freshSp K 2 (fn S__law_lies)) := by
  have sc := sc__law_lies
  refine fresh_ok F sc__law_lies (fun cdv A outer s H E ds d hr hG hl => ?_)
  obtain ⟨d0, d1, T, ps, h1, h2, h3, h4, h5, h6, rfl, rfl⟩ := fn_inv hG
  have hown : own (.bl (lies T ps)) = true := rfl
  refine ⟨_, (pm_cons (pm_set 2 sc.nd (pv_catS (pd_lst (pad_cons (pd_tup (pad_cons pd_int (pad_cons pd_int pad_nil))) pad_nil)) (pd_var 1)))
      (pm_cons (pm_for 3 sc.nd PassesOwn.never rfl (pim_range1 rfl m_range (pad_cons (pd_callB call_len_seq cd_len rfl m_len PySem.boot_len (pad_cons (pd_var 2) pad_nil)) pad_nil))
        (pm_one (pm_for 4 sc.nd PassesOwn.never rfl (pim_range1 rfl m_range (pad_cons (pd_callB call_len_seq cd_len rfl m_len PySem.boot_len (pad_cons (pd_var 2) pad_nil)) pad_nil))
          (pm_one (pm_if (ptd_not (ptd_val (pd_callH hLkeeps hr (pad_cons (pd_callH hLless hr (pad_cons (pd_ix (pd_var 2) (pd_var 3)) (pad_cons (pd_ix (pd_var 2) (pd_var 4)) pad_nil))) (pad_cons (pd_ix (pd_ix (pd_var 0) (pd_var 3)) (pd_var 4)) pad_nil))))) (pm_one (pm_ret (pv_imm pd_bl))) pm_nil)))))
      (pm_one (pm_ret (pv_imm pd_bl))))), ?_, ?own⟩
  case own => first | rfl | exact hown
  · show retOf ((?f : SD) (startM 5 _)) = _
    have e0 : startM 5 [d0, d1] = [some (tabD T), some (.seq (ps.map fr)), none, none, none] := by
      show [some (sh d0), some (sh d1), none, none, none] = _
      rw [show sh d0 = _ from h1, show sh d1 = _ from h5]
    rw [e0]
    have len : gLen [.lst ((vals ps).map fr)] = some (.int ((ps.length + 1 : Nat) : Int)) := by
      show some (D.int (((vals ps).map fr).length : Int)) = _
      rw [List.length_map]
      rfl
    have hv := fun o3 o4 : Option D => v_range (g := faCons (fCall gLen (faCons (fVar 2) faNil)) faNil) (δ := [some (tabD T), some (.seq (ps.map fr)), some (.lst ((vals ps).map fr)), o3, o4]) (n := ps.length + 1) (by simp only [retOf, sNil, sThen, sSeq, sRet, sDrop, sSet, sIf, sPar, sUn2, sFor, asL, gSet, forD, fVar, fC, f2, f1, fT, asB, fNotT, fAndT, fOrT, fAndV, fOrV, gNot, gNeg, faNil, faCons, fTup, fLst, fCall, gAbs, gInt, gLen_t2, gLen_seq, gIx_t0, gIx_t1, gI0, gAdd_int, gNe_int, gEq_int, gEq_bl, gEq_tup2, gNe_tup2, gIsi_same, Dl.isInt, Dl.isBool, Dl.isTup, Option.bind_some, Option.map_some, List.map_cons, List.map_nil, List.length_cons, List.length_nil, List.getElem?_cons_zero, List.getElem?_cons_succ, List.set_cons_zero, List.set_cons_succ, List.cons_append, List.nil_append, List.append_nil, Bool.not_true, Bool.not_false, beq_self_eq_true, bdD_none, bdD_some, gIsN, isNon, sSetM, sRetM, sDropM, vI, vName, vShare, vWalk, vNil, vCons, vLst, vTup, vCall, sh_bd, len]) (by omega)
    have inn := fun (i : Nat) (hi : i < ps.length + 1) (o : Option D) => forM_all (i := 4) (s := ((sIf (fNotT (fT (fCall (fn S__law_keeps) (faCons (fCall (fn S__law_less) (faCons (f2 gIx (fVar 2) (fVar 3)) (faCons (f2 gIx (fVar 2) (fVar 4)) faNil))) (faCons (f2 gIx (f2 gIx (fVar 0) (fVar 3)) (fVar 4)) faNil))))) (sRetM (vI (fC (.bl false)))) sNil))) (f := fun (i : Nat) => D.int (i : Int)) (d := .bl false) (fun δ => ∃ o, δ = [some (tabD T), some (.seq (ps.map fr)), some (.lst ((vals ps).map fr)), some (.int (i : Int)), o]) (fun j => kp (dif ps i j) (cellT T i j)) (List.range (ps.length + 1)) [some (tabD T), some (.seq (ps.map fr)), some (.lst ((vals ps).map fr)), some (.int (i : Int)), o] ⟨_, rfl⟩ (by
      rintro j hj _ ⟨o, rfl⟩
      have hj := List.mem_range.mp hj
      obtain ⟨r, q1, q2⟩ := ix_tab h2 hi hj
      have fi := valAt_fr (by decide) h6 i
      have fj := valAt_fr (by decide) h6 j
      have kk : fn S__law_keeps [fr (dl (valAt ps i) (valAt ps j)), bdD (cellT T i j)] = some (.bl (kp (dif ps i j) (cellT T i j))) := by
        have := e_keeps (dl_fk fi fj (by decide)) (h4 i j)
        rw [kp_dl fi.pos fj.pos] at this
        exact this
      refine ⟨fun hb => ⟨_, st_if (b := false) (by simp only [retOf, sNil, sThen, sSeq, sRet, sDrop, sSet, sIf, sPar, sUn2, sFor, asL, gSet, forD, fVar, fC, f2, f1, fT, asB, fNotT, fAndT, fOrT, fAndV, fOrV, gNot, gNeg, faNil, faCons, fTup, fLst, fCall, gAbs, gInt, gLen_t2, gLen_seq, gIx_t0, gIx_t1, gI0, gAdd_int, gNe_int, gEq_int, gEq_bl, gEq_tup2, gNe_tup2, gIsi_same, Dl.isInt, Dl.isBool, Dl.isTup, Option.bind_some, Option.map_some, List.map_cons, List.map_nil, List.length_cons, List.length_nil, List.getElem?_cons_zero, List.getElem?_cons_succ, List.set_cons_zero, List.set_cons_succ, List.cons_append, List.nil_append, List.append_nil, Bool.not_true, Bool.not_false, beq_self_eq_true, bdD_none, bdD_some, gIsN, isNon, sSetM, sRetM, sDropM, vI, vName, vShare, vWalk, vNil, vCons, vLst, vTup, vCall, sh_bd, sh_int, (ix_vals hi).1, (ix_vals hj).1, q1, q2, e2 (op := fun p q => fr (dl p q)) (Fk.of fi) (Fk.of fj), kk, hb]) rfl, _, rfl⟩, fun hb => ?_⟩
      exact st_if (b := true) (by simp only [retOf, sNil, sThen, sSeq, sRet, sDrop, sSet, sIf, sPar, sUn2, sFor, asL, gSet, forD, fVar, fC, f2, f1, fT, asB, fNotT, fAndT, fOrT, fAndV, fOrV, gNot, gNeg, faNil, faCons, fTup, fLst, fCall, gAbs, gInt, gLen_t2, gLen_seq, gIx_t0, gIx_t1, gI0, gAdd_int, gNe_int, gEq_int, gEq_bl, gEq_tup2, gNe_tup2, gIsi_same, Dl.isInt, Dl.isBool, Dl.isTup, Option.bind_some, Option.map_some, List.map_cons, List.map_nil, List.length_cons, List.length_nil, List.getElem?_cons_zero, List.getElem?_cons_succ, List.set_cons_zero, List.set_cons_succ, List.cons_append, List.nil_append, List.append_nil, Bool.not_true, Bool.not_false, beq_self_eq_true, bdD_none, bdD_some, gIsN, isNon, sSetM, sRetM, sDropM, vI, vName, vShare, vWalk, vNil, vCons, vLst, vTup, vCall, sh_bd, sh_int, (ix_vals hi).1, (ix_vals hj).1, q1, q2, e2 (op := fun p q => fr (dl p q)) (Fk.of fi) (Fk.of fj), kk, hb]) (st_ret (v_imm rfl)))
    obtain ⟨k1, k2⟩ := forM_all (i := 3) (s := ((sForM (vRange (faCons (fCall gLen (faCons (fVar 2) faNil)) faNil)) 4 (sIf (fNotT (fT (fCall (fn S__law_keeps) (faCons (fCall (fn S__law_less) (faCons (f2 gIx (fVar 2) (fVar 3)) (faCons (f2 gIx (fVar 2) (fVar 4)) faNil))) (faCons (f2 gIx (f2 gIx (fVar 0) (fVar 3)) (fVar 4)) faNil))))) (sRetM (vI (fC (.bl false)))) sNil)))) (f := fun (i : Nat) => D.int (i : Int)) (d := .bl false) (fun δ => ∃ o p, δ = [some (tabD T), some (.seq (ps.map fr)), some (.lst ((vals ps).map fr)), o, p]) (fun i => (List.range (ps.length + 1)).all fun j => kp (dif ps i j) (cellT T i j)) (List.range (ps.length + 1)) [some (tabD T), some (.seq (ps.map fr)), some (.lst ((vals ps).map fr)), none, none] ⟨_, _, rfl⟩ (by
      rintro i hi _ ⟨o, p, rfl⟩
      have hi := List.mem_range.mp hi
      obtain ⟨w1, w2⟩ := inn i hi p
      refine ⟨fun hb => ?_, fun hb => st_for (hv _ _) (w2 hb)⟩
      obtain ⟨_, f1, o', rfl⟩ := w1 hb
      exact ⟨_, st_for (hv _ _) f1, _, _, rfl⟩)
    have cat : vCatS (fLst (faCons (fTup (faCons (fC (.int 0)) (faCons (fC (.int 1)) faNil))) faNil)) (fVar 1) [some (tabD T), some (.seq (ps.map fr)), none, none, none] = some (.lst ((vals ps).map fr), [some (tabD T), some (.seq (ps.map fr)), none, none, none]) := v_catS (a := .lst [fr (0, 1)]) (xs := [fr (0, 1)]) (ys := ps.map fr) rfl rfl rfl rfl (by rw [List.length_map]; simp only [List.length_cons, List.length_nil]; omega) (imms_frs (vals ps))
    have ea : lies T ps = (List.range (ps.length + 1)).all fun i => (List.range (ps.length + 1)).all fun j => kp (dif ps i j) (cellT T i j) := rfl
    refine rt_of (st_seq (st_set cat) ?_)
    dsimp only [List.set_cons_zero, List.set_cons_succ]
    cases hq : lies T ps with
    | true =>
      obtain ⟨_, w, o, p, rfl⟩ := k1 (ea ▸ hq)
      exact st_seq (st_for (hv _ _) w) (st_ret (v_imm rfl))
    | false => exact st_seq' (st_for (hv _ _) (k2 (ea ▸ hq)))
abbrev s__law_is_point : Stmt := top 26
theorem sc__law_is_point : FnScope ["_law_found", "_law_many", "_law_part_here"] ["_law_found", "_law_many"] (defScope s__law_is_point) := ⟨rfl, rfl, rfl, by decide +kernel, rfl, by decide +kernel, by decide +kernel⟩
theorem ok__law_is_point (F : Fun K "_law_is_point" "_law_is_point" s__law_is_point f fd)  (hLlowest : Has P w K mg base 1 "_law_lowest" ["_law_top", "_law_bottom"] (fn S__law_lowest)) (hLwhole : Has P w K mg base 1 "_law_whole" ["_law_found"] (fn S__law_whole))  (m_isinstance : mg "isinstance" = none) (m_list : mg "list" = none) (m_len : mg "len" = none) (m_tuple : mg "tuple" = none) (m_all : mg "all" = none) : FnOk P w K mg base CX0 2 f fd ["_law_found", "_law_many"] (freshSp K 2 (fn S__law_is_point)) := by
  have sc := sc__law_is_point
  refine fresh_ok F sc__law_is_point (fun cdv A outer s H E ds d hr hG hl => ?_)
  obtain ⟨d0, ps, h, g, rfl, rfl⟩ := fn_inv hG
  have hown : own (.bl true) = true := rfl
  refine ⟨_, (pm_cons (pm_if (PWD.pt (pwd_or (ptd_not (ptd_val (pd_callB call_isi (cd_isi ok_isLst) rfl m_isinstance boot_isinstance (pad_cons (pd_var 0) (pad_cons (pd_ty rfl m_list boot_list) pad_nil))))) (pwd_or1 (ptd_neN hr.units (pd_callB call_len_seq cd_len rfl m_len PySem.boot_len (pad_cons (pd_var 0) pad_nil)) (pd_var 1))))) (pm_one (pm_ret (pv_imm pd_bl))) pm_nil)
      (pm_cons (pm_for 2 sc.nd PassesOwn.never rfl (pim_list (pv_share 0))
        (pm_cons (pm_if (PWD.pt (pwd_or (ptd_not (ptd_val (pd_callB call_isi (cd_isi ok_isTup) rfl m_isinstance boot_isinstance (pad_cons (pd_var 2) (pad_cons (pd_ty rfl m_tuple boot_tuple) pad_nil))))) (pwd_or (ptd_neN hr.units (pd_callB call_len_seq cd_len rfl m_len PySem.boot_len (pad_cons (pd_var 2) pad_nil)) pd_int) (pwd_or1 (ptd_not (ptd_val (pd_callB (call_all rfl) cd_all rfl m_all boot_allB (pad_cons (pd_comp (by exact (pid_tup (pd_var 2))) (N := ["_law_one"]) (js := []) (cl := []) (fun _ _ _ _ _ => by exact (pd_callH hLwhole hr (pad_cons (pd_var 0) pad_nil))) (by exact CompOk.nil)) pad_nil)))))))) (pm_one (pm_ret (pv_imm pd_bl))) pm_nil)
        (pm_one (pm_if (PWD.pt (pwd_or (ptd_lt (pd_ix (pd_var 2) pd_int) pd_int) (pwd_or1 (ptd_neN hr.units (pd_callH hLlowest hr (pad_cons (pd_ix (pd_var 2) pd_int) (pad_cons (pd_ix (pd_var 2) pd_int) pad_nil))) (pd_var 2))))) (pm_one (pm_ret (pv_imm pd_bl))) pm_nil))))
      (pm_one (pm_ret (pv_imm pd_bl))))), ?_, ?own⟩
  case own => first | rfl | exact hown
  · show retOf ((?f : SD) (startM 3 _)) = _
    have e0 : startM 3 [d0, .int (ps.length : Int)] = [some (.seq (ps.map fr)), some (.int (ps.length : Int)), none] := by
      show [some (sh d0), some (sh (.int (ps.length : Int))), none] = _
      rw [show sh d0 = _ from h]
      rfl
    rw [e0]
    have shP : sh (.seq (ps.map fr)) = .seq (ps.map fr) := by rw [sh, shs_frs]
    have len : gLen [.seq (ps.map fr)] = some (.int (ps.length : Int)) := by
      show some (D.int ((ps.map fr).length : Int)) = _
      rw [List.length_map]
    have nn : gNeN (.int (ps.length : Int)) (.int (ps.length : Int)) = some (.bl false) := by
      show some (D.bl (!((ps.length : Int) == (ps.length : Int)))) = _
      rw [beq_self_eq_true]
      rfl
    have il : isLst (.seq (ps.map fr)) = some true := rfl
    obtain ⟨_, w, o, rfl⟩ := forM_keep (i := 2) (s := ((sSeq (sIf (fOrT (fNotT (fT (fCall (gIsi "tuple" isTup) (faCons (fVar 2) (faCons (fC (.ty "tuple")) faNil))))) (fOrT (fT (f2 gNeN (fCall gLen (faCons (fVar 2) faNil)) (fC (.int 2)))) (fNotT (fT (fCall gAll (faCons (fComp (fun δ => ((fVar 2) δ).bind asT) [] (fCall (fn S__law_whole) (faCons (fVar 0) faNil))) faNil)))))) (sRetM (vI (fC (.bl false)))) sNil) (sIf (fOrT (fT (f2 gLt (f2 gIx (fVar 2) (fC (.int 1))) (fC (.int 1)))) (fT (f2 gNeN (fCall (fn S__law_lowest) (faCons (f2 gIx (fVar 2) (fC (.int 0))) (faCons (f2 gIx (fVar 2) (fC (.int 1))) faNil))) (fVar 2)))) (sRetM (vI (fC (.bl false)))) sNil)))) (fun δ => ∃ o, δ = [some (.seq (ps.map fr)), some (.int (ps.length : Int)), o]) (ps.map fr) [some (.seq (ps.map fr)), some (.int (ps.length : Int)), none] ⟨_, rfl⟩ (by
      rintro d hd _ ⟨o, rfl⟩
      obtain ⟨⟨a, b⟩, hp, rfl⟩ := List.mem_map.mp hd
      have hf := g _ hp
      have hb : 0 < b := hf.pos
      have lo := e__law_lowest (t := a) (b := b) hb (hf.s2.mono (by decide))
      have er : rd a b = (a, b) := rd_of_lo hf.lw
      rw [er] at lo
      have q1 : decide (b < 1) = false := decide_eq_false (by omega)
      have l2 : gLen [.tup [.int a, .int b]] = some (.int 2) := rfl
      have n2 : gNeN (.int 2) (.int 2) = some (.bl false) := rfl
      have al : gAll [.lst [.bl true, .bl true]] = some (.bl true) := rfl
      have sf : sh (fr (a, b)) = .tup [.int a, .int b] := rfl
      have nf : gNeN (.tup [.int a, .int b]) (.tup [.int a, .int b]) = some (.bl false) := ne_fr (a, b)
      rw [sf]
      refine ⟨_, st_seq (st_ifF ?_ rfl) (st_ifF ?_ rfl), _, rfl⟩
      · simp only [retOf, sNil, sThen, sSeq, sRet, sDrop, sSet, sIf, sPar, sUn2, sFor, asL, gSet, forD, fVar, fC, f2, f1, fT, asB, fNotT, fAndT, fOrT, fAndV, fOrV, gNot, gNeg, faNil, faCons, fTup, fLst, fCall, gAbs, gInt, gLen_t2, gLen_seq, gIx_t0, gIx_t1, gI0, gAdd_int, gNe_int, gEq_int, gEq_bl, gEq_tup2, gNe_tup2, gIsi_same, Dl.isInt, Dl.isBool, Dl.isTup, Option.bind_some, Option.map_some, List.map_cons, List.map_nil, List.length_cons, List.length_nil, List.getElem?_cons_zero, List.getElem?_cons_succ, List.set_cons_zero, List.set_cons_succ, List.cons_append, List.nil_append, List.append_nil, Bool.not_true, Bool.not_false, beq_self_eq_true, bdD_none, bdD_some, gIsN, isNon, sSetM, sRetM, sDropM, vI, vName, vShare, vWalk, vNil, vCons, vLst, vTup, vCall, sh_bd, l2, n2, fComp, slotsOf, asT, mapO, e_is_whole (x := .int a) (b := true) rfl, e_is_whole (x := .int b) (b := true) rfl, Nat.reduceAdd, Nat.reduceLeDiff, if_true, al]
      · simp only [retOf, sNil, sThen, sSeq, sRet, sDrop, sSet, sIf, sPar, sUn2, sFor, asL, gSet, forD, fVar, fC, f2, f1, fT, asB, fNotT, fAndT, fOrT, fAndV, fOrV, gNot, gNeg, faNil, faCons, fTup, fLst, fCall, gAbs, gInt, gLen_t2, gLen_seq, gIx_t0, gIx_t1, gI0, gAdd_int, gNe_int, gEq_int, gEq_bl, gEq_tup2, gNe_tup2, gIsi_same, Dl.isInt, Dl.isBool, Dl.isTup, Option.bind_some, Option.map_some, List.map_cons, List.map_nil, List.length_cons, List.length_nil, List.getElem?_cons_zero, List.getElem?_cons_succ, List.set_cons_zero, List.set_cons_succ, List.cons_append, List.nil_append, List.append_nil, Bool.not_true, Bool.not_false, beq_self_eq_true, bdD_none, bdD_some, gIsN, isNon, sSetM, sRetM, sDropM, vI, vName, vShare, vWalk, vNil, vCons, vLst, vTup, vCall, sh_bd, gLt, q1, lo, nf])
    exact rt_of (st_seq (st_ifF (by simp only [retOf, sNil, sThen, sSeq, sRet, sDrop, sSet, sIf, sPar, sUn2, sFor, asL, gSet, forD, fVar, fC, f2, f1, fT, asB, fNotT, fAndT, fOrT, fAndV, fOrV, gNot, gNeg, faNil, faCons, fTup, fLst, fCall, gAbs, gInt, gLen_t2, gLen_seq, gIx_t0, gIx_t1, gI0, gAdd_int, gNe_int, gEq_int, gEq_bl, gEq_tup2, gNe_tup2, gIsi_same, Dl.isInt, Dl.isBool, Dl.isTup, Option.bind_some, Option.map_some, List.map_cons, List.map_nil, List.length_cons, List.length_nil, List.getElem?_cons_zero, List.getElem?_cons_succ, List.set_cons_zero, List.set_cons_succ, List.cons_append, List.nil_append, List.append_nil, Bool.not_true, Bool.not_false, beq_self_eq_true, bdD_none, bdD_some, gIsN, isNon, sSetM, sRetM, sDropM, vI, vName, vShare, vWalk, vNil, vCons, vLst, vTup, vCall, sh_bd, il, len, nn]) rfl) (st_seq (st_for (st_walk rfl shP shP) w) (st_ret (v_imm rfl))))
abbrev s__law_e : Stmt := top 27
theorem sc__law_e : FnScope ["_law_cell", "_law_bottom"] ["_law_cell"] (defScope s__law_e) := ⟨rfl, rfl, rfl, by decide +kernel, rfl, by decide +kernel, by decide +kernel⟩
theorem ok__law_e (F : Fun K "_law_e" "_law_e" s__law_e f fd)  (hLlowest : Has P w K mg base 1 "_law_lowest" ["_law_top", "_law_bottom"] (fn S__law_lowest))   : FnOk P w K mg base CX0 2 f fd ["_law_cell"] (pureSp K 1 (fn S__law_e)) := by
  have sc := sc__law_e
  refine pure_ok F sc__law_e (fun cdv A outer s H E ds d hr hG hl => ?_)
  obtain ⟨c, rfl, rfl⟩ := fn_inv hG
  refine ⟨_, (psd_cons (psd_set 1 sc.nd (pd_ix (pd_lst (pad_cons (pd_add pd_int (pd_mod (pd_fdiv (pd_var 0) pd_int) pd_int)) (pad_cons (pd_add pd_int (pd_mod (pd_fdiv (pd_var 0) pd_int) (pd_pow pd_int pd_int))) pad_nil))) (pd_mod (pd_var 0) pd_int)))
      (psd_one (psd_ret (pd_callH hLlowest hr (pad_cons (pd_mod (pd_fdiv (pd_var 0) pd_int) (pd_add (pd_var 1) pd_int)) (pad_cons (pd_var 1) pad_nil)))))), ?_⟩
  · show retOf ((?f : SD) [some _, none]) = _
    have d2 : CDivB c 2 := ⟨by decide, bd_sm⟩
    have d18 : CDivB c 18 := ⟨by decide, bd_sm⟩
    have bp : CPow 10 50 := ⟨by decide, by decide, by decide⟩
    have e50 : (50 : Int).toNat = 50 := rfl
    have hb := eB_pos c
    have hix : gIx (.lst [.int (1 + c / 2 % 9), .int (1 + c / 2 % 10 ^ 50)]) (.int (c % 2)) = some (.int (eB c)) := by
      have w : c % 2 = 0 ∨ c % 2 = 1 := by omega
      unfold eB
      rcases w with q | q
      · rw [q, if_pos rfl]; rfl
      · rw [q, if_neg (by decide)]; rfl
    simp only [retOf, sNil, sThen, sSeq, sRet, sDrop, sSet, sIf, sPar, sUn2, sFor, asL, gSet, forD, fVar, fC, f2, f1, fT, asB, fNotT, fAndT, fOrT, fAndV, fOrV, gNot, gNeg, faNil, faCons, fTup, fLst, fCall, gAbs, gInt, gLen_t2, gLen_seq, gIx_t0, gIx_t1, gI0, gAdd_int, gNe_int, gEq_int, gEq_bl, gEq_tup2, gNe_tup2, gIsi_same, Dl.isInt, Dl.isBool, Dl.isTup, Option.bind_some, Option.map_some, List.map_cons, List.map_nil, List.length_cons, List.length_nil, List.getElem?_cons_zero, List.getElem?_cons_succ, List.set_cons_zero, List.set_cons_succ, List.cons_append, List.nil_append, List.append_nil, Bool.not_true, Bool.not_false, beq_self_eq_true, bdD_none, bdD_some, gIsN, isNon, sSetM, sRetM, sDropM, vI, vName, vShare, vWalk, vNil, vCons, vLst, vTup, vCall, sh_bd, gI_pos (C := CDivB) d2, gI_pos (C := fun _ j => 0 < j) (i := c / 2) (j := 9) (by decide), gI_pos (C := CPow) bp, e50, gI_pos (C := fun _ j => 0 < j) (i := c / 2) (j := 10 ^ 50) (by decide), gI_pos (C := fun _ j => 0 < j) (i := c) (j := 2) (by decide), hix, gI_pos (C := CDivB) d18, gI_pos (C := fun _ j => 0 < j) (i := c / 18) (j := eB c + 1) (by omega), e__law_lowest (t := c / 18 % (eB c + 1)) hb (bd_of (eB_sm c))]
    rfl
abbrev s__law_due : Stmt := top 28
theorem sc__law_due : FnScope ["_law_one", "_law_other", "_law_e_here", "_law_made", "_law_t", "_law_top", "_law_bottom"] ["_law_one", "_law_other", "_law_e_here"] (defScope s__law_due) := ⟨rfl, rfl, rfl, by decide +kernel, rfl, by decide +kernel, by decide +kernel⟩
theorem ok__law_due (F : Fun K "_law_due" "_law_due" s__law_due f fd)  (hLless : Has P w K mg base 1 "_law_less" ["_law_one", "_law_other"] (fn S__law_less)) (hLlowest : Has P w K mg base 1 "_law_lowest" ["_law_top", "_law_bottom"] (fn S__law_lowest))  (m_range : mg "range" = none) (m_len : mg "len" = none) : FnOk P w K mg base CX0 2 f fd ["_law_one", "_law_other", "_law_e_here"] (freshSp K 3 (fn S__law_due)) := by
  have sc := sc__law_due
  refine fresh_ok F sc__law_due (fun cdv A outer s H E ds d hr hG hl => ?_)
  obtain ⟨d0, d1, e, ps, qs, h1, h2, h3, h4, h5, h6, h7, rfl, rfl⟩ := fn_inv hG
  have hown : own (.lst ((dues e ps qs).map fr)) = true := by rw [own]; exact owns_frs _
  refine ⟨_, (pm_cons (pm_set 3 sc.nd (pv_lst pva_nil))
      (pm_cons (pm_for 4 sc.nd PassesOwn.never rfl (pim_range1 rfl m_range (pad_cons (pd_callB call_len_seq cd_len rfl m_len PySem.boot_len (pad_cons (pd_var 0) pad_nil)) pad_nil))
        (pm_cons (pm_un [5, 6] (pv_imm (pd_callH hLless hr (pad_cons (pd_ix (pd_var 1) (pd_var 4)) (pad_cons (pd_ix (pd_var 0) (pd_var 4)) pad_nil)))) (pg_tup rfl (pgs_cons (pgN 5 sc.nd) (pgs_cons (pgN 6 sc.nd) pgs_nil))))
        (pm_cons (pm_set 5 sc.nd (pv_imm (pd_add (pd_mul (pd_mul (pd_ix (pd_ix (pd_var 0) (pd_var 4)) pd_int) (pd_var 6)) (pd_ix (pd_var 2) pd_int)) (pd_mul (pd_mul (pd_ix (pd_var 2) pd_int) (pd_var 5)) (pd_ix (pd_ix (pd_var 0) (pd_var 4)) pd_int)))))
        (pm_one (pm_app 3 (pe_bm PySem.F.plainAttrs_list PySem.F.slot_list_append PySem.F.type_list_append mt_append (pvi 3) (pa_cons (pv_imm (pd_callH hLlowest hr (pad_cons (pd_var 5) (pad_cons (pd_mul (pd_mul (pd_ix (pd_ix (pd_var 0) (pd_var 4)) pd_int) (pd_var 6)) (pd_ix (pd_var 2) pd_int)) pad_nil)))) pa_nil)))))))
      (pm_one (pm_ret (pv_name 3))))), ?_, ?own⟩
  case own => first | rfl | exact hown
  · show retOf ((?f : SD) (startM 7 _)) = _
    have e0 : startM 7 [d0, d1, fr e] = [some (.seq (ps.map fr)), some (.seq (qs.map fr)), some (fr e), none, none, none, none] := by
      show [some (sh d0), some (sh d1), some (sh (fr e)), none, none, none, none] = _
      rw [show sh d0 = _ from h1, show sh d1 = _ from h2]
      rfl
    rw [e0]
    have len : gLen [.seq (ps.map fr)] = some (.int (ps.length : Int)) := by
      show some (D.int ((ps.map fr).length : Int)) = _
      rw [List.length_map]
    obtain ⟨_, w, o4, o5, o6, rfl⟩ := forM_pre (i := 4) (s := ((sSeq (sUnM [5, 6] (vI (fCall (fn S__law_less) (faCons (f2 gIx (fVar 1) (fVar 4)) (faCons (f2 gIx (fVar 0) (fVar 4)) faNil))))) (sSeq (sSetM 5 (vI (f2 gAdd (f2 (gI CMulB fun i j => .int (i * j)) (f2 (gI CMulB fun i j => .int (i * j)) (f2 gIx (f2 gIx (fVar 0) (fVar 4)) (fC (.int 0))) (fVar 6)) (f2 gIx (fVar 2) (fC (.int 1)))) (f2 (gI CMulB fun i j => .int (i * j)) (f2 (gI CMulB fun i j => .int (i * j)) (f2 gIx (fVar 2) (fC (.int 0))) (fVar 5)) (f2 gIx (f2 gIx (fVar 0) (fVar 4)) (fC (.int 1))))))) (sApp 3 (vI (fCall (fn S__law_lowest) (faCons (fVar 5) (faCons (f2 (gI CMulB fun i j => .int (i * j)) (f2 (gI CMulB fun i j => .int (i * j)) (f2 gIx (f2 gIx (fVar 0) (fVar 4)) (fC (.int 1))) (fVar 6)) (f2 gIx (fVar 2) (fC (.int 1)))) faNil))))))))) (f := fun (i : Nat) => D.int (i : Int)) (fun pre δ => ∃ o4 o5 o6, δ = [some (.seq (ps.map fr)), some (.seq (qs.map fr)), some (fr e), some (.lst ((pre.map (du1 e ps qs)).map fr)), o4, o5, o6]) (List.range ps.length) (by
      rintro pre x post _ hx ⟨o4, o5, o6, rfl⟩
      obtain ⟨rfl, hl⟩ := range_at hx
      have fp := getD_fr (by decide) h4 pre.length
      have fq := getD_fr (by decide) h5 pre.length
      have ip := (ix_pts hl).1
      have iq := (ix_pts (ps := qs) (i := pre.length) (by omega)).1
      obtain ⟨p, hp⟩ : ∃ p, p = ps.getD pre.length (0, 1) := ⟨_, rfl⟩
      obtain ⟨q, hq⟩ : ∃ q, q = qs.getD pre.length (0, 1) := ⟨_, rfl⟩
      rw [← hp] at fp ip
      rw [← hq] at fq iq
      obtain ⟨pa, pb⟩ := p
      obtain ⟨qa, qb⟩ := q
      obtain ⟨ea, eb⟩ := e
      have sp1 : Sm 200 pa := fp.s1
      have sp2 : Sm 200 pb := fp.s2
      have se1 : Sm 200 ea := h3.s1
      have se2 : Sm 200 eb := h3.s2
      have sq1 : Sm 200 qa := fq.s1
      have sq2 : Sm 200 qb := fq.s2
      have st : Sm 401 (qa * pb - pa * qb) := (sq1.mul sp2).sub (sp1.mul sq2)
      have sb : Sm 400 (qb * pb) := sq2.mul sp2
      have le : fn S__law_less [fr (qa, qb), fr (pa, pb)] = some (.tup [.int (qa * pb - pa * qb), .int (qb * pb)]) := e2 (op := fun p q => fr (dl p q)) (Fk.of fq) (Fk.of fp)
      have m1 : CMulB pa (qb * pb) := ⟨bd_of sp1, bd_of (k := 400) sb⟩
      have m2 : CMulB (pa * (qb * pb)) eb := ⟨bd_of (k := 600) (sp1.mul sb), bd_of se2⟩
      have m3 : CMulB ea (qa * pb - pa * qb) := ⟨bd_of se1, bd_of (k := 401) st⟩
      have m4 : CMulB (ea * (qa * pb - pa * qb)) pb := ⟨bd_of (k := 601) (se1.mul st), bd_of sp2⟩
      have m5 : CMulB pb (qb * pb) := ⟨bd_of sp2, bd_of (k := 400) sb⟩
      have m6 : CMulB (pb * (qb * pb)) eb := ⟨bd_of (k := 600) (sp2.mul sb), bd_of se2⟩
      have pos : 0 < pb * (qb * pb) * eb := Int.mul_pos (Int.mul_pos fp.pos (Int.mul_pos fq.pos fp.pos)) h3.pos
      have lo := e__law_lowest (t := pa * (qb * pb) * eb + ea * (qa * pb - pa * qb) * pb) (b := pb * (qb * pb) * eb) pos (bd_of (k := 800) ((sp2.mul sb).mul se2))
      have eg : du1 (ea, eb) ps qs pre.length = rd (pa * (qb * pb) * eb + ea * (qa * pb - pa * qb) * pb) (pb * (qb * pb) * eb) := by
        unfold du1
        rw [← hp, ← hq]
        rfl
      refine ⟨_, st_seq (st_un (ds := [.int (qa * pb - pa * qb), .int (qb * pb)]) (v_imm (by simp only [retOf, sNil, sThen, sSeq, sRet, sDrop, sSet, sIf, sPar, sUn2, sFor, asL, gSet, forD, fVar, fC, f2, f1, fT, asB, fNotT, fAndT, fOrT, fAndV, fOrV, gNot, gNeg, faNil, faCons, fTup, fLst, fCall, gAbs, gInt, gLen_t2, gLen_seq, gIx_t0, gIx_t1, gI0, gAdd_int, gNe_int, gEq_int, gEq_bl, gEq_tup2, gNe_tup2, gIsi_same, Dl.isInt, Dl.isBool, Dl.isTup, Option.bind_some, Option.map_some, List.map_cons, List.map_nil, List.length_cons, List.length_nil, List.getElem?_cons_zero, List.getElem?_cons_succ, List.set_cons_zero, List.set_cons_succ, List.cons_append, List.nil_append, List.append_nil, Bool.not_true, Bool.not_false, beq_self_eq_true, bdD_none, bdD_some, gIsN, isNon, sSetM, sRetM, sDropM, vI, vName, vShare, vWalk, vNil, vCons, vLst, vTup, vCall, sh_bd, sh_int, ip, iq, le])) rfl rfl) (st_seq (st_set (v_imm (d := .int (pa * (qb * pb) * eb + ea * (qa * pb - pa * qb) * pb)) ?t1)) (st_app (d := fr (du1 (ea, eb) ps qs pre.length)) rfl (v_imm ?t2) (by rw [List.length_map, List.length_map]; omega))), some (.int (pre.length : Int)), some (.int (pa * (qb * pb) * eb + ea * (qa * pb - pa * qb) * pb)), some (.int (qb * pb)), ?t3⟩
      case t1 => simp only [setO, retOf, sNil, sThen, sSeq, sRet, sDrop, sSet, sIf, sPar, sUn2, sFor, asL, gSet, forD, fVar, fC, f2, f1, fT, asB, fNotT, fAndT, fOrT, fAndV, fOrV, gNot, gNeg, faNil, faCons, fTup, fLst, fCall, gAbs, gInt, gLen_t2, gLen_seq, gIx_t0, gIx_t1, gI0, gAdd_int, gNe_int, gEq_int, gEq_bl, gEq_tup2, gNe_tup2, gIsi_same, Dl.isInt, Dl.isBool, Dl.isTup, Option.bind_some, Option.map_some, List.map_cons, List.map_nil, List.length_cons, List.length_nil, List.getElem?_cons_zero, List.getElem?_cons_succ, List.set_cons_zero, List.set_cons_succ, List.cons_append, List.nil_append, List.append_nil, Bool.not_true, Bool.not_false, beq_self_eq_true, bdD_none, bdD_some, gIsN, isNon, sSetM, sRetM, sDropM, vI, vName, vShare, vWalk, vNil, vCons, vLst, vTup, vCall, sh_bd, sh_int, ip, gI_pos (C := CMulB) m1, gI_pos (C := CMulB) m2, gI_pos (C := CMulB) m3, gI_pos (C := CMulB) m4]
      case t2 =>
        rw [eg]
        simp only [setO, retOf, sNil, sThen, sSeq, sRet, sDrop, sSet, sIf, sPar, sUn2, sFor, asL, gSet, forD, fVar, fC, f2, f1, fT, asB, fNotT, fAndT, fOrT, fAndV, fOrV, gNot, gNeg, faNil, faCons, fTup, fLst, fCall, gAbs, gInt, gLen_t2, gLen_seq, gIx_t0, gIx_t1, gI0, gAdd_int, gNe_int, gEq_int, gEq_bl, gEq_tup2, gNe_tup2, gIsi_same, Dl.isInt, Dl.isBool, Dl.isTup, Option.bind_some, Option.map_some, List.map_cons, List.map_nil, List.length_cons, List.length_nil, List.getElem?_cons_zero, List.getElem?_cons_succ, List.set_cons_zero, List.set_cons_succ, List.cons_append, List.nil_append, List.append_nil, Bool.not_true, Bool.not_false, beq_self_eq_true, bdD_none, bdD_some, gIsN, isNon, sSetM, sRetM, sDropM, vI, vName, vShare, vWalk, vNil, vCons, vLst, vTup, vCall, sh_bd, sh_int, ip, gI_pos (C := CMulB) m5, gI_pos (C := CMulB) m6, lo]
      case t3 =>
        rw [List.map_append, List.map_append]
        rfl) (List.range ps.length) [] [some (.seq (ps.map fr)), some (.seq (qs.map fr)), some (fr e), some (.lst []), none, none, none] rfl ⟨_, _, _, rfl⟩
    exact rt_of (st_seq (st_set (d := .lst []) rfl) (st_seq (st_for (v_range (n := ps.length) (by simp only [retOf, sNil, sThen, sSeq, sRet, sDrop, sSet, sIf, sPar, sUn2, sFor, asL, gSet, forD, fVar, fC, f2, f1, fT, asB, fNotT, fAndT, fOrT, fAndV, fOrV, gNot, gNeg, faNil, faCons, fTup, fLst, fCall, gAbs, gInt, gLen_t2, gLen_seq, gIx_t0, gIx_t1, gI0, gAdd_int, gNe_int, gEq_int, gEq_bl, gEq_tup2, gNe_tup2, gIsi_same, Dl.isInt, Dl.isBool, Dl.isTup, Option.bind_some, Option.map_some, List.map_cons, List.map_nil, List.length_cons, List.length_nil, List.getElem?_cons_zero, List.getElem?_cons_succ, List.set_cons_zero, List.set_cons_succ, List.cons_append, List.nil_append, List.append_nil, Bool.not_true, Bool.not_false, beq_self_eq_true, bdD_none, bdD_some, gIsN, isNon, sSetM, sRetM, sDropM, vI, vName, vShare, vWalk, vNil, vCons, vLst, vTup, vCall, sh_bd, len]) (by omega)) w) (st_ret (v_move rfl))))
abbrev s_fraction : Stmt := top 6
theorem sc_fraction : FnScope ["top", "bottom"] ["top", "bottom"] (defScope s_fraction) := ⟨rfl, rfl, rfl, by decide +kernel, rfl, by decide +kernel, by decide +kernel⟩
theorem ok_fraction {dV : Value} (F : FunD K "fraction" "fraction" s_fraction f fd dV)  (hlowest : Has P w K mg base 2 "lowest" ["top", "bottom"] (fn S_lowest)) (his_whole : Has P w K mg base 1 "is_whole" ["thing"] (fn S_is_whole))   : FnOk P w K mg base CX0 3 f fd ["top", "bottom"] (pureSp K 2 (fn S_fraction)) := by
  have sc := sc_fraction
  refine pure_okD F sc_fraction (fun cdv A outer s H E ds d hr hG hl => ?_)
  obtain ⟨t, b, hb, hB, rfl, rfl⟩ := fn_inv hG
  refine ⟨_, (psd_cons (psd_if (PWD.pt (pwd_or (ptd_not (ptd_val (pd_callH his_whole hr (pad_cons (pd_var 0) pad_nil)))) (pwd_or1 (ptd_not (ptd_val (pd_callH his_whole hr (pad_cons (pd_var 1) pad_nil))))))) (psd_one psd_never) psd_nil)
      (psd_cons (psd_if (ptd_eq hr.units0 (pd_var 1) pd_int) (psd_one psd_never) psd_nil)
      (psd_cons (psd_if (ptd_lt (pd_var 1) pd_int) (psd_one (psd_ret (pd_callH hlowest hr (pad_cons (pd_neg (pd_var 0)) (pad_cons (pd_neg (pd_var 1)) pad_nil))))) psd_nil)
      (psd_one (psd_ret (pd_callH hlowest hr (pad_cons (pd_var 0) (pad_cons (pd_var 1) pad_nil)))))))), ?_⟩
  · show retOf ((?f : SD) [some _, some _]) = _
    have h0 : (b == 0) = false := by simp [hb]
    by_cases hn : b < 0
    · have h1 : decide (b < 0) = true := decide_eq_true hn
      simp only [retOf, sNil, sThen, sSeq, sRet, sDrop, sSet, sIf, sPar, sUn2, sFor, asL, gSet, forD, fVar, fC, f2, f1, fT, asB, fNotT, fAndT, fOrT, fAndV, fOrV, gNot, gNeg, faNil, faCons, fTup, fLst, fCall, gAbs, gInt, gLen_t2, gLen_seq, gIx_t0, gIx_t1, gI0, gAdd_int, gNe_int, gEq_int, gEq_bl, gEq_tup2, gNe_tup2, gIsi_same, Dl.isInt, Dl.isBool, Dl.isTup, Option.bind_some, Option.map_some, List.map_cons, List.map_nil, List.length_cons, List.length_nil, List.getElem?_cons_zero, List.getElem?_cons_succ, List.set_cons_zero, List.set_cons_succ, List.cons_append, List.nil_append, List.append_nil, Bool.not_true, Bool.not_false, beq_self_eq_true, bdD_none, bdD_some, gIsN, isNon, sSetM, sRetM, sDropM, vI, vName, vShare, vWalk, vNil, vCons, vLst, vTup, vCall, sh_bd, e_is_whole (x := .int t) rfl, e_is_whole (x := .int b) rfl, h0, h1, e_lowest (t := -t) (b := -b) (by omega) (bd_neg hB)]
      unfold low
      rw [if_pos hn]
    · have h1 : decide (b < 0) = false := decide_eq_false hn
      simp only [retOf, sNil, sThen, sSeq, sRet, sDrop, sSet, sIf, sPar, sUn2, sFor, asL, gSet, forD, fVar, fC, f2, f1, fT, asB, fNotT, fAndT, fOrT, fAndV, fOrV, gNot, gNeg, faNil, faCons, fTup, fLst, fCall, gAbs, gInt, gLen_t2, gLen_seq, gIx_t0, gIx_t1, gI0, gAdd_int, gNe_int, gEq_int, gEq_bl, gEq_tup2, gNe_tup2, gIsi_same, Dl.isInt, Dl.isBool, Dl.isTup, Option.bind_some, Option.map_some, List.map_cons, List.map_nil, List.length_cons, List.length_nil, List.getElem?_cons_zero, List.getElem?_cons_succ, List.set_cons_zero, List.set_cons_succ, List.cons_append, List.nil_append, List.append_nil, Bool.not_true, Bool.not_false, beq_self_eq_true, bdD_none, bdD_some, gIsN, isNon, sSetM, sRetM, sDropM, vI, vName, vShare, vWalk, vNil, vCons, vLst, vTup, vCall, sh_bd, e_is_whole (x := .int t) rfl, e_is_whole (x := .int b) rfl, h0, h1, e_lowest (t := t) (b := b) (by omega) hB]
      unfold low
      rw [if_neg hn]
abbrev s_plus : Stmt := top 8
theorem sc_plus : FnScope ["one", "other"] ["one", "other"] (defScope s_plus) := ⟨rfl, rfl, rfl, by decide +kernel, rfl, by decide +kernel, by decide +kernel⟩
theorem ok_plus (F : Fun K "plus" "plus" s_plus f fd)  (hsummed : Has P w K mg base 2 "summed" ["one", "top", "bottom"] (fn S_summed))   : FnOk P w K mg base CX0 3 f fd ["one", "other"] (pureSp K 2 (fn S_plus)) := by
  have sc := sc_plus
  refine pure_ok F sc_plus (fun cdv A outer s H E ds d hr hG hl => ?_)
  obtain ⟨⟨a, b⟩, ⟨c, e⟩, hp, hq, rfl, rfl⟩ := fn_inv hG
  refine ⟨_, (psd_one (psd_ret (pd_callH hsummed hr (pad_cons (pd_var 0) (pad_cons (pd_ix (pd_var 1) pd_int) (pad_cons (pd_ix (pd_var 1) pd_int) pad_nil)))))), ?_⟩
  · show retOf ((?f : SD) [some _, some _]) = _
    have h := e_summed hp hq
    have h' : fn S_summed [.tup [.int a, .int b], .int c, .int e] = some (fr (pl (a, b) (c, e))) := by rw [pl_sm hp.lw hq.lw]; exact h
    simp only [retOf, sNil, sThen, sSeq, sRet, sDrop, sSet, sIf, sPar, sUn2, sFor, asL, gSet, forD, fVar, fC, f2, f1, fT, asB, fNotT, fAndT, fOrT, fAndV, fOrV, gNot, gNeg, faNil, faCons, fTup, fLst, fCall, gAbs, gInt, gLen_t2, gLen_seq, gIx_t0, gIx_t1, gI0, gAdd_int, gNe_int, gEq_int, gEq_bl, gEq_tup2, gNe_tup2, gIsi_same, Dl.isInt, Dl.isBool, Dl.isTup, Option.bind_some, Option.map_some, List.map_cons, List.map_nil, List.length_cons, List.length_nil, List.getElem?_cons_zero, List.getElem?_cons_succ, List.set_cons_zero, List.set_cons_succ, List.cons_append, List.nil_append, List.append_nil, Bool.not_true, Bool.not_false, beq_self_eq_true, bdD_none, bdD_some, gIsN, isNon, sSetM, sRetM, sDropM, vI, vName, vShare, vWalk, vNil, vCons, vLst, vTup, vCall, sh_bd, h']
abbrev s_minus : Stmt := top 9
theorem sc_minus : FnScope ["one", "other"] ["one", "other"] (defScope s_minus) := ⟨rfl, rfl, rfl, by decide +kernel, rfl, by decide +kernel, by decide +kernel⟩
theorem ok_minus (F : Fun K "minus" "minus" s_minus f fd)  (hsummed : Has P w K mg base 2 "summed" ["one", "top", "bottom"] (fn S_summed))   : FnOk P w K mg base CX0 3 f fd ["one", "other"] (pureSp K 2 (fn S_minus)) := by
  have sc := sc_minus
  refine pure_ok F sc_minus (fun cdv A outer s H E ds d hr hG hl => ?_)
  obtain ⟨⟨a, b⟩, ⟨c, e⟩, hp, hq, rfl, rfl⟩ := fn_inv hG
  refine ⟨_, (psd_one (psd_ret (pd_callH hsummed hr (pad_cons (pd_var 0) (pad_cons (pd_neg (pd_ix (pd_var 1) pd_int)) (pad_cons (pd_ix (pd_var 1) pd_int) pad_nil)))))), ?_⟩
  · show retOf ((?f : SD) [some _, some _]) = _
    have h := e_summed hp hq.neg
    have h' : fn S_summed [.tup [.int a, .int b], .int (-c), .int e] = some (fr (mi (a, b) (c, e))) := by rw [mi_sm hp.lw hq.lw]; exact h
    simp only [retOf, sNil, sThen, sSeq, sRet, sDrop, sSet, sIf, sPar, sUn2, sFor, asL, gSet, forD, fVar, fC, f2, f1, fT, asB, fNotT, fAndT, fOrT, fAndV, fOrV, gNot, gNeg, faNil, faCons, fTup, fLst, fCall, gAbs, gInt, gLen_t2, gLen_seq, gIx_t0, gIx_t1, gI0, gAdd_int, gNe_int, gEq_int, gEq_bl, gEq_tup2, gNe_tup2, gIsi_same, Dl.isInt, Dl.isBool, Dl.isTup, Option.bind_some, Option.map_some, List.map_cons, List.map_nil, List.length_cons, List.length_nil, List.getElem?_cons_zero, List.getElem?_cons_succ, List.set_cons_zero, List.set_cons_succ, List.cons_append, List.nil_append, List.append_nil, Bool.not_true, Bool.not_false, beq_self_eq_true, bdD_none, bdD_some, gIsN, isNon, sSetM, sRetM, sDropM, vI, vName, vShare, vWalk, vNil, vCons, vLst, vTup, vCall, sh_bd, h']
abbrev s__law_table_by : Stmt := top 22
theorem sc__law_table_by : FnScope ["_law_script", "_law_head", "_law_k", "_law_point", "_law_table", "_law_cell", "_law_i", "_law_j"] ["_law_script"] (defScope s__law_table_by) := ⟨rfl, rfl, rfl, by decide +kernel, rfl, by decide +kernel, by decide +kernel⟩
def S__law_table_by (ds : List D) (d : D) : Prop := retOf (((sSeq (sSetM 1 (vI (fCall (fn S__law_cell_at) (faCons (fVar 0) (faCons (fC (.int 0)) faNil))))) (sSeq (sSetM 2 (vI (f2 (gI (fun _ j => 0 < j) fun i j => .int (i % j)) (f2 (gI CDivB fun i j => .int (i / j)) (fVar 1) (fC (.int 4))) (f2 gIx (fLst (faCons (fC (.int 5)) (faCons (fC (.int 7)) faNil))) (fCall gInt (faCons (f2 gGt (f2 (gI (fun _ j => 0 < j) fun i j => .int (i % j)) (fVar 1) (fC (.int 4))) (fC (.int 1))) faNil)))))) (sSeq (sSetM 3 (vComp (srcR (faCons (fVar 2) faNil)) [0] (vI (fCall (fn S__law_part) (faCons (fCall (fn S__law_cell_at) (faCons (fVar 1) (faCons (f2 gAdd (fC (.int 1)) (fVar 0)) faNil))) faNil))))) (sSeq (sIf (fT (f2 gLt (f2 (gI (fun _ j => 0 < j) fun i j => .int (i % j)) (fVar 1) (fC (.int 4))) (fC (.int 2)))) (sRetM (vTup (vCons (vCall (fn S__law_any_table) (faCons (fCall (fn S__law_cell_at) (faCons (fVar 0) (faCons (fC (.int 1)) faNil))) (faCons (fVar 2) (faCons (f2 gIx (fLst (faCons (fC (.int 3)) (faCons (fC (.int 9)) (faCons (f2 (gI CPow fun i j => .int (i ^ j.toNat)) (fC (.int 10)) (fC (.int 55))) faNil)))) (f2 (gI (fun _ j => 0 < j) fun i j => .int (i % j)) (f2 (gI CDivB fun i j => .int (i / j)) (fVar 1) (fC (.int 20))) (fC (.int 3)))) faNil)))) (vCons (vName 3) vNil)))) sNil) (sSeq (sSetM 4 (vCall (fn S__law_planted) (faCons (fVar 0) (faCons (fVar 3) faNil)))) (sSeq (sIf (fT (f2 gEqN (f2 (gI (fun _ j => 0 < j) fun i j => .int (i % j)) (fVar 1) (fC (.int 4))) (fC (.int 3)))) (sSeq (sSetM 5 (vI (fCall (fn S__law_cell_at) (faCons (fVar 0) (faCons (fC (.int 7)) faNil))))) (sSeq (sSetM 6 (vI (f2 (gI (fun _ j => 0 < j) fun i j => .int (i % j)) (fVar 5) (f2 gAdd (fVar 2) (fC (.int 1)))))) (sSeq (sSetM 7 (vI (f2 (gI (fun _ j => 0 < j) fun i j => .int (i % j)) (f2 (gI CDivB fun i j => .int (i / j)) (fVar 5) (f2 gAdd (fVar 2) (fC (.int 1)))) (f2 gAdd (fVar 2) (fC (.int 1)))))) (sIf (fT (f2 gNotN (f2 gIx (f2 gIx (fVar 4) (fVar 6)) (fVar 7)) (fC .non))) (sPut2 4 (fVar 6) (fVar 7) (vI (fTup (faCons (f2 (gI0 fun i j => .int (i - j)) (f2 (gI0 fun i j => .int (i - j)) (f2 gIx (f2 gIx (f2 gIx (fVar 4) (fVar 6)) (fVar 7)) (fC (.int 0))) (fC (.int 1))) (f2 (gI (fun _ j => 0 < j) fun i j => .int (i % j)) (f2 (gI CDivB fun i j => .int (i / j)) (fVar 5) (fC (.int 50))) (fC (.int 4)))) (faCons (f2 gEqN (f2 (gI (fun _ j => 0 < j) fun i j => .int (i % j)) (f2 (gI CDivB fun i j => .int (i / j)) (fVar 5) (fC (.int 200))) (fC (.int 2))) (fC (.int 1))) faNil))))) sNil)))) sNil) (sRetM (vTup (vCons (vName 4) (vCons (vName 3) vNil))))))))))) (startM 8 ds)) = some d ∧ own d = true
theorem t__law_table_by (ns : List Int) : ∃ (T : List (List Bn)) (ps : List (Int × Int)), Sq T (ps.length + 1) ∧ BkT T ∧ ps.length ≤ 6 ∧ (∀ p ∈ ps, Fr 200 p) ∧ fn S__law_table_by [.seq (ns.map D.int)] = some (.tup [ownD T, .lst (ps.map fr)]) := by
  have e0 : startM 8 [.seq (ns.map D.int)] = [some (.seq (ns.map D.int)), none, none, none, none, none, none, none] := by
    show [some (sh (.seq (ns.map D.int))), none, none, none, none, none, none, none] = _
    rw [sh, shs_ints]
  have ca := fun (k : Int) (h : 0 ≤ k) => e__law_cell_at (ns := ns) (k := k) h
  have c0 := ca 0 (by decide)
  obtain ⟨h, hh⟩ : ∃ h, h = cell ns 0 := ⟨_, rfl⟩
  rw [← hh] at c0
  have d4 : CDivB h 4 := ⟨by decide, bd_sm⟩
  have d20 : CDivB h 20 := ⟨by decide, bd_sm⟩
  obtain ⟨n, hn6, hk⟩ : ∃ n : Nat, n ≤ 6 ∧ f2 (gI (fun _ j => 0 < j) fun i j => .int (i % j)) (f2 (gI CDivB fun i j => .int (i / j)) (fVar 1) (fC (.int 4))) (f2 gIx (fLst (faCons (fC (.int 5)) (faCons (fC (.int 7)) faNil))) (fCall gInt (faCons (f2 gGt (f2 (gI (fun _ j => 0 < j) fun i j => .int (i % j)) (fVar 1) (fC (.int 4))) (fC (.int 1))) faNil))) [some (.seq (ns.map D.int)), some (.int h), none, none, none, none, none, none] = some (.int (n : Int)) := by
    by_cases q : 1 < h % 4
    · have q1 : decide (1 < h % 4) = true := decide_eq_true q
      have ix : gIx (.lst [.int 5, .int 7]) (.int 1) = some (.int 7) := rfl
      refine ⟨(h / 4 % 7).toNat, by omega, ?_⟩
      rw [show (((h / 4 % 7).toNat : Nat) : Int) = h / 4 % 7 by omega]
      simp only [retOf, sNil, sThen, sSeq, sRet, sDrop, sSet, sIf, sPar, sUn2, sFor, asL, gSet, forD, fVar, fC, f2, f1, fT, asB, fNotT, fAndT, fOrT, fAndV, fOrV, gNot, gNeg, faNil, faCons, fTup, fLst, fCall, gAbs, gInt, gLen_t2, gLen_seq, gIx_t0, gIx_t1, gI0, gAdd_int, gNe_int, gEq_int, gEq_bl, gEq_tup2, gNe_tup2, gIsi_same, Dl.isInt, Dl.isBool, Dl.isTup, Option.bind_some, Option.map_some, List.map_cons, List.map_nil, List.length_cons, List.length_nil, List.getElem?_cons_zero, List.getElem?_cons_succ, List.set_cons_zero, List.set_cons_succ, List.cons_append, List.nil_append, List.append_nil, Bool.not_true, Bool.not_false, beq_self_eq_true, bdD_none, bdD_some, gIsN, isNon, sSetM, sRetM, sDropM, vI, vName, vShare, vWalk, vNil, vCons, vLst, vTup, vCall, sh_bd, gGt, gLt, gI_pos (C := fun _ j => 0 < j) (i := h) (j := 4) (by decide), q1, if_true, Bool.false_eq_true, if_false, gI_pos (C := CDivB) d4, ix, gI_pos (C := fun _ j => 0 < j) (i := h / 4) (j := 7) (by decide)]
    · have q1 : decide (1 < h % 4) = false := decide_eq_false q
      have ix : gIx (.lst [.int 5, .int 7]) (.int 0) = some (.int 5) := rfl
      refine ⟨(h / 4 % 5).toNat, by omega, ?_⟩
      rw [show (((h / 4 % 5).toNat : Nat) : Int) = h / 4 % 5 by omega]
      simp only [retOf, sNil, sThen, sSeq, sRet, sDrop, sSet, sIf, sPar, sUn2, sFor, asL, gSet, forD, fVar, fC, f2, f1, fT, asB, fNotT, fAndT, fOrT, fAndV, fOrV, gNot, gNeg, faNil, faCons, fTup, fLst, fCall, gAbs, gInt, gLen_t2, gLen_seq, gIx_t0, gIx_t1, gI0, gAdd_int, gNe_int, gEq_int, gEq_bl, gEq_tup2, gNe_tup2, gIsi_same, Dl.isInt, Dl.isBool, Dl.isTup, Option.bind_some, Option.map_some, List.map_cons, List.map_nil, List.length_cons, List.length_nil, List.getElem?_cons_zero, List.getElem?_cons_succ, List.set_cons_zero, List.set_cons_succ, List.cons_append, List.nil_append, List.append_nil, Bool.not_true, Bool.not_false, beq_self_eq_true, bdD_none, bdD_some, gIsN, isNon, sSetM, sRetM, sDropM, vI, vName, vShare, vWalk, vNil, vCons, vLst, vTup, vCall, sh_bd, gGt, gLt, gI_pos (C := fun _ j => 0 < j) (i := h) (j := 4) (by decide), q1, if_true, Bool.false_eq_true, if_false, gI_pos (C := CDivB) d4, ix, gI_pos (C := fun _ j => 0 < j) (i := h / 4) (j := 5) (by decide)]
  obtain ⟨ps, hps⟩ : ∃ ps, ps = (List.range n).map fun (i : Nat) => prt (cell ns (1 + (i : Int))) := ⟨_, rfl⟩
  have hpl : ps.length = n := by rw [hps, List.length_map, List.length_range]
  have hpf : ∀ p ∈ ps, Fr 200 p := by
    rw [hps]
    intro p m
    obtain ⟨i, _, rfl⟩ := List.mem_map.mp m
    exact prt_fr _
  have hP : own (.lst (ps.map fr)) = true := by rw [own]; exact owns_frs _
  have hcomp : vComp (srcR (faCons (fVar 2) faNil)) [0] (vI (fCall (fn S__law_part) (faCons (fCall (fn S__law_cell_at) (faCons (fVar 1) (faCons (f2 gAdd (fC (.int 1)) (fVar 0)) faNil))) faNil))) [some (.seq (ns.map D.int)), some (.int h), some (.int (n : Int)), none, none, none, none, none] = some (.lst (ps.map fr), [some (.seq (ns.map D.int)), some (.int h), some (.int (n : Int)), none, none, none, none, none]) := by
    rw [hps, List.map_map]
    refine vComp_map (f := fun (i : Nat) => D.int (i : Int)) (src_r rfl (asR_0 (by omega))) (fun i hi => ?_) (by rw [List.length_range]; omega)
    have es : shO (some (.int (i : Int)) :: slotsOf [0] [some (.seq (ns.map D.int)), some (.int h), some (.int (n : Int)), none, none, none, none, none]) = [some (.int (i : Int)), some (.seq (ns.map D.int))] := by
      have z : sh (.seq (ns.map D.int)) = .seq (ns.map D.int) := by rw [sh, shs_ints]
      show [some (.int (i : Int)), some (sh (.seq (ns.map D.int)))] = _
      rw [z]
    rw [es]
    exact own_of (v_imm (by simp only [retOf, sNil, sThen, sSeq, sRet, sDrop, sSet, sIf, sPar, sUn2, sFor, asL, gSet, forD, fVar, fC, f2, f1, fT, asB, fNotT, fAndT, fOrT, fAndV, fOrV, gNot, gNeg, faNil, faCons, fTup, fLst, fCall, gAbs, gInt, gLen_t2, gLen_seq, gIx_t0, gIx_t1, gI0, gAdd_int, gNe_int, gEq_int, gEq_bl, gEq_tup2, gNe_tup2, gIsi_same, Dl.isInt, Dl.isBool, Dl.isTup, Option.bind_some, Option.map_some, List.map_cons, List.map_nil, List.length_cons, List.length_nil, List.getElem?_cons_zero, List.getElem?_cons_succ, List.set_cons_zero, List.set_cons_succ, List.cons_append, List.nil_append, List.append_nil, Bool.not_true, Bool.not_false, beq_self_eq_true, bdD_none, bdD_some, gIsN, isNon, sSetM, sRetM, sDropM, vI, vName, vShare, vWalk, vNil, vCons, vLst, vTup, vCall, sh_bd, ca (1 + (i : Int)) (by omega), e__law_part]; rfl)) rfl
  have oT : ∀ T, own (.tup [ownD T, .lst (ps.map fr)]) = true := fun T => by
    rw [own]
    show (own (ownD T) && (own (.lst (ps.map fr)) && true)) = true
    rw [own_ownD, hP]
    rfl
  have fin : ∀ T, Sq T (ps.length + 1) → BkT T → (((sSeq (sSetM 1 (vI (fCall (fn S__law_cell_at) (faCons (fVar 0) (faCons (fC (.int 0)) faNil))))) (sSeq (sSetM 2 (vI (f2 (gI (fun _ j => 0 < j) fun i j => .int (i % j)) (f2 (gI CDivB fun i j => .int (i / j)) (fVar 1) (fC (.int 4))) (f2 gIx (fLst (faCons (fC (.int 5)) (faCons (fC (.int 7)) faNil))) (fCall gInt (faCons (f2 gGt (f2 (gI (fun _ j => 0 < j) fun i j => .int (i % j)) (fVar 1) (fC (.int 4))) (fC (.int 1))) faNil)))))) (sSeq (sSetM 3 (vComp (srcR (faCons (fVar 2) faNil)) [0] (vI (fCall (fn S__law_part) (faCons (fCall (fn S__law_cell_at) (faCons (fVar 1) (faCons (f2 gAdd (fC (.int 1)) (fVar 0)) faNil))) faNil))))) (sSeq (sIf (fT (f2 gLt (f2 (gI (fun _ j => 0 < j) fun i j => .int (i % j)) (fVar 1) (fC (.int 4))) (fC (.int 2)))) (sRetM (vTup (vCons (vCall (fn S__law_any_table) (faCons (fCall (fn S__law_cell_at) (faCons (fVar 0) (faCons (fC (.int 1)) faNil))) (faCons (fVar 2) (faCons (f2 gIx (fLst (faCons (fC (.int 3)) (faCons (fC (.int 9)) (faCons (f2 (gI CPow fun i j => .int (i ^ j.toNat)) (fC (.int 10)) (fC (.int 55))) faNil)))) (f2 (gI (fun _ j => 0 < j) fun i j => .int (i % j)) (f2 (gI CDivB fun i j => .int (i / j)) (fVar 1) (fC (.int 20))) (fC (.int 3)))) faNil)))) (vCons (vName 3) vNil)))) sNil) (sSeq (sSetM 4 (vCall (fn S__law_planted) (faCons (fVar 0) (faCons (fVar 3) faNil)))) (sSeq (sIf (fT (f2 gEqN (f2 (gI (fun _ j => 0 < j) fun i j => .int (i % j)) (fVar 1) (fC (.int 4))) (fC (.int 3)))) (sSeq (sSetM 5 (vI (fCall (fn S__law_cell_at) (faCons (fVar 0) (faCons (fC (.int 7)) faNil))))) (sSeq (sSetM 6 (vI (f2 (gI (fun _ j => 0 < j) fun i j => .int (i % j)) (fVar 5) (f2 gAdd (fVar 2) (fC (.int 1)))))) (sSeq (sSetM 7 (vI (f2 (gI (fun _ j => 0 < j) fun i j => .int (i % j)) (f2 (gI CDivB fun i j => .int (i / j)) (fVar 5) (f2 gAdd (fVar 2) (fC (.int 1)))) (f2 gAdd (fVar 2) (fC (.int 1)))))) (sIf (fT (f2 gNotN (f2 gIx (f2 gIx (fVar 4) (fVar 6)) (fVar 7)) (fC .non))) (sPut2 4 (fVar 6) (fVar 7) (vI (fTup (faCons (f2 (gI0 fun i j => .int (i - j)) (f2 (gI0 fun i j => .int (i - j)) (f2 gIx (f2 gIx (f2 gIx (fVar 4) (fVar 6)) (fVar 7)) (fC (.int 0))) (fC (.int 1))) (f2 (gI (fun _ j => 0 < j) fun i j => .int (i % j)) (f2 (gI CDivB fun i j => .int (i / j)) (fVar 5) (fC (.int 50))) (fC (.int 4)))) (faCons (f2 gEqN (f2 (gI (fun _ j => 0 < j) fun i j => .int (i % j)) (f2 (gI CDivB fun i j => .int (i / j)) (fVar 5) (fC (.int 200))) (fC (.int 2))) (fC (.int 1))) faNil))))) sNil)))) sNil) (sRetM (vTup (vCons (vName 4) (vCons (vName 3) vNil)))))))))))) [some (.seq (ns.map D.int)), none, none, none, none, none, none, none] = some (.rt (.tup [ownD T, .lst (ps.map fr)])) → ∃ (T : List (List Bn)) (ps : List (Int × Int)), Sq T (ps.length + 1) ∧ BkT T ∧ ps.length ≤ 6 ∧ (∀ p ∈ ps, Fr 200 p) ∧ fn S__law_table_by [.seq (ns.map D.int)] = some (.tup [ownD T, .lst (ps.map fr)]) := fun T hs hB e => by
    have key : S__law_table_by [.seq (ns.map D.int)] (.tup [ownD T, .lst (ps.map fr)]) := ⟨by rw [e0]; exact rt_of e, oT T⟩
    exact ⟨T, ps, hs, hB, by omega, hpf, fn_eq (fun d' h' => Option.some.inj (h'.1.symm.trans key.1)) key⟩
  by_cases q2 : h % 4 < 2
  · have q1 : decide (h % 4 < 2) = true := decide_eq_true q2
    obtain ⟨most, hm0, hm1, hmo⟩ : ∃ most : Int, 0 ≤ most ∧ most ≤ 10 ^ 55 ∧ f2 gIx (fLst (faCons (fC (.int 3)) (faCons (fC (.int 9)) (faCons (f2 (gI CPow fun i j => .int (i ^ j.toNat)) (fC (.int 10)) (fC (.int 55))) faNil)))) (f2 (gI (fun _ j => 0 < j) fun i j => .int (i % j)) (f2 (gI CDivB fun i j => .int (i / j)) (fVar 1) (fC (.int 20))) (fC (.int 3))) [some (.seq (ns.map D.int)), some (.int h), some (.int (n : Int)), some (.lst (ps.map fr)), none, none, none, none] = some (.int most) := by
      have bp : CPow 10 55 := ⟨by decide, by decide, by decide⟩
      have e55 : (55 : Int).toNat = 55 := rfl
      have w3 : h / 20 % 3 = 0 ∨ h / 20 % 3 = 1 ∨ h / 20 % 3 = 2 := by omega
      obtain ⟨most, hm0, hm1, hmo⟩ : ∃ most : Int, 0 ≤ most ∧ most ≤ 10 ^ 55 ∧ gIx (.lst [.int 3, .int 9, .int (10 ^ 55)]) (.int (h / 20 % 3)) = some (.int most) := by
        rcases w3 with q | q | q
        · exact ⟨3, by decide, by decide, by rw [q]; rfl⟩
        · exact ⟨9, by decide, by decide, by rw [q]; rfl⟩
        · exact ⟨10 ^ 55, by decide, by decide, by rw [q]; rfl⟩
      exact ⟨most, hm0, hm1, by simp only [retOf, sNil, sThen, sSeq, sRet, sDrop, sSet, sIf, sPar, sUn2, sFor, asL, gSet, forD, fVar, fC, f2, f1, fT, asB, fNotT, fAndT, fOrT, fAndV, fOrV, gNot, gNeg, faNil, faCons, fTup, fLst, fCall, gAbs, gInt, gLen_t2, gLen_seq, gIx_t0, gIx_t1, gI0, gAdd_int, gNe_int, gEq_int, gEq_bl, gEq_tup2, gNe_tup2, gIsi_same, Dl.isInt, Dl.isBool, Dl.isTup, Option.bind_some, Option.map_some, List.map_cons, List.map_nil, List.length_cons, List.length_nil, List.getElem?_cons_zero, List.getElem?_cons_succ, List.set_cons_zero, List.set_cons_succ, List.cons_append, List.nil_append, List.append_nil, Bool.not_true, Bool.not_false, beq_self_eq_true, bdD_none, bdD_some, gIsN, isNon, sSetM, sRetM, sDropM, vI, vName, vShare, vWalk, vNil, vCons, vLst, vTup, vCall, sh_bd, gI_pos (C := CPow) bp, e55, gI_pos (C := CDivB) d20, gI_pos (C := fun _ j => 0 < j) (i := h / 20) (j := 3) (by decide), hmo]⟩
    obtain ⟨T, hG, hT⟩ := t__law_any_table (seed := cell ns 1) (k := (n : Int)) (most := most) (by omega) (by omega) hm0 hm1
    have en : ((n : Int)).toNat + 1 = ps.length + 1 := by omega
    rw [en] at hG
    refine fin T hG.sq (fun i j => (hG.cell i j).mono (by decide)) ?_
    refine st_seq (st_set (v_imm (d := .int h) (by simp only [retOf, sNil, sThen, sSeq, sRet, sDrop, sSet, sIf, sPar, sUn2, sFor, asL, gSet, forD, fVar, fC, f2, f1, fT, asB, fNotT, fAndT, fOrT, fAndV, fOrV, gNot, gNeg, faNil, faCons, fTup, fLst, fCall, gAbs, gInt, gLen_t2, gLen_seq, gIx_t0, gIx_t1, gI0, gAdd_int, gNe_int, gEq_int, gEq_bl, gEq_tup2, gNe_tup2, gIsi_same, Dl.isInt, Dl.isBool, Dl.isTup, Option.bind_some, Option.map_some, List.map_cons, List.map_nil, List.length_cons, List.length_nil, List.getElem?_cons_zero, List.getElem?_cons_succ, List.set_cons_zero, List.set_cons_succ, List.cons_append, List.nil_append, List.append_nil, Bool.not_true, Bool.not_false, beq_self_eq_true, bdD_none, bdD_some, gIsN, isNon, sSetM, sRetM, sDropM, vI, vName, vShare, vWalk, vNil, vCons, vLst, vTup, vCall, sh_bd, c0]))) (st_seq (st_set (v_imm hk)) (st_seq (st_set hcomp) (st_seq' (st_ifT ?_ (st_ret (δ' := [some (.seq (ns.map D.int)), some (.int h), some (.int (n : Int)), none, none, none, none, none]) ?_)))))
    · simp only [List.set_cons_zero, List.set_cons_succ, retOf, sNil, sThen, sSeq, sRet, sDrop, sSet, sIf, sPar, sUn2, sFor, asL, gSet, forD, fVar, fC, f2, f1, fT, asB, fNotT, fAndT, fOrT, fAndV, fOrV, gNot, gNeg, faNil, faCons, fTup, fLst, fCall, gAbs, gInt, gLen_t2, gLen_seq, gIx_t0, gIx_t1, gI0, gAdd_int, gNe_int, gEq_int, gEq_bl, gEq_tup2, gNe_tup2, gIsi_same, Dl.isInt, Dl.isBool, Dl.isTup, Option.bind_some, Option.map_some, List.map_cons, List.map_nil, List.length_cons, List.length_nil, List.getElem?_cons_zero, List.getElem?_cons_succ, List.set_cons_zero, List.set_cons_succ, List.cons_append, List.nil_append, List.append_nil, Bool.not_true, Bool.not_false, beq_self_eq_true, bdD_none, bdD_some, gIsN, isNon, sSetM, sRetM, sDropM, vI, vName, vShare, vWalk, vNil, vCons, vLst, vTup, vCall, sh_bd, gLt, gI_pos (C := fun _ j => 0 < j) (i := h) (j := 4) (by decide), q1]
    · have v1 : vCall (fn S__law_any_table) (faCons (fCall (fn S__law_cell_at) (faCons (fVar 0) (faCons (fC (.int 1)) faNil))) (faCons (fVar 2) (faCons (f2 gIx (fLst (faCons (fC (.int 3)) (faCons (fC (.int 9)) (faCons (f2 (gI CPow fun i j => .int (i ^ j.toNat)) (fC (.int 10)) (fC (.int 55))) faNil)))) (f2 (gI (fun _ j => 0 < j) fun i j => .int (i % j)) (f2 (gI CDivB fun i j => .int (i / j)) (fVar 1) (fC (.int 20))) (fC (.int 3)))) faNil))) [some (.seq (ns.map D.int)), some (.int h), some (.int (n : Int)), some (.lst (ps.map fr)), none, none, none, none] = some (ownD T, [some (.seq (ns.map D.int)), some (.int h), some (.int (n : Int)), some (.lst (ps.map fr)), none, none, none, none]) := v_call (ds := [.int (cell ns 1), .int (n : Int), .int most]) (fa3 (by simp only [retOf, sNil, sThen, sSeq, sRet, sDrop, sSet, sIf, sPar, sUn2, sFor, asL, gSet, forD, fVar, fC, f2, f1, fT, asB, fNotT, fAndT, fOrT, fAndV, fOrV, gNot, gNeg, faNil, faCons, fTup, fLst, fCall, gAbs, gInt, gLen_t2, gLen_seq, gIx_t0, gIx_t1, gI0, gAdd_int, gNe_int, gEq_int, gEq_bl, gEq_tup2, gNe_tup2, gIsi_same, Dl.isInt, Dl.isBool, Dl.isTup, Option.bind_some, Option.map_some, List.map_cons, List.map_nil, List.length_cons, List.length_nil, List.getElem?_cons_zero, List.getElem?_cons_succ, List.set_cons_zero, List.set_cons_succ, List.cons_append, List.nil_append, List.append_nil, Bool.not_true, Bool.not_false, beq_self_eq_true, bdD_none, bdD_some, gIsN, isNon, sSetM, sRetM, sDropM, vI, vName, vShare, vWalk, vNil, vCons, vLst, vTup, vCall, sh_bd, ca 1 (by decide)]) rfl hmo) hT (own_ownD T)
      exact v_tup2 v1 (v_move rfl)
  · have q1 : decide (h % 4 < 2) = false := decide_eq_false q2
    obtain ⟨T, hG, _, hT⟩ := t__law_planted (ns := ns) (isP_lst ps) hpf (by omega)
    obtain ⟨T', o5, o6, o7, hs', hB', hst⟩ : ∃ (T' : List (List Bn)) (o5 o6 o7 : Option D), Sq T' (ps.length + 1) ∧ BkT T' ∧ ((sIf (fT (f2 gEqN (f2 (gI (fun _ j => 0 < j) fun i j => .int (i % j)) (fVar 1) (fC (.int 4))) (fC (.int 3)))) (sSeq (sSetM 5 (vI (fCall (fn S__law_cell_at) (faCons (fVar 0) (faCons (fC (.int 7)) faNil))))) (sSeq (sSetM 6 (vI (f2 (gI (fun _ j => 0 < j) fun i j => .int (i % j)) (fVar 5) (f2 gAdd (fVar 2) (fC (.int 1)))))) (sSeq (sSetM 7 (vI (f2 (gI (fun _ j => 0 < j) fun i j => .int (i % j)) (f2 (gI CDivB fun i j => .int (i / j)) (fVar 5) (f2 gAdd (fVar 2) (fC (.int 1)))) (f2 gAdd (fVar 2) (fC (.int 1)))))) (sIf (fT (f2 gNotN (f2 gIx (f2 gIx (fVar 4) (fVar 6)) (fVar 7)) (fC .non))) (sPut2 4 (fVar 6) (fVar 7) (vI (fTup (faCons (f2 (gI0 fun i j => .int (i - j)) (f2 (gI0 fun i j => .int (i - j)) (f2 gIx (f2 gIx (f2 gIx (fVar 4) (fVar 6)) (fVar 7)) (fC (.int 0))) (fC (.int 1))) (f2 (gI (fun _ j => 0 < j) fun i j => .int (i % j)) (f2 (gI CDivB fun i j => .int (i / j)) (fVar 5) (fC (.int 50))) (fC (.int 4)))) (faCons (f2 gEqN (f2 (gI (fun _ j => 0 < j) fun i j => .int (i % j)) (f2 (gI CDivB fun i j => .int (i / j)) (fVar 5) (fC (.int 200))) (fC (.int 2))) (fC (.int 1))) faNil))))) sNil)))) sNil)) [some (.seq (ns.map D.int)), some (.int h), some (.int (n : Int)), some (.lst (ps.map fr)), some (ownD T), none, none, none] = some (.nx [some (.seq (ns.map D.int)), some (.int h), some (.int (n : Int)), some (.lst (ps.map fr)), some (ownD T'), o5, o6, o7]) := by
      by_cases q3 : h % 4 = 3
      · have q4 : (h % 4 == 3) = true := by simp [q3]
        obtain ⟨c, hc⟩ : ∃ c, c = cell ns 7 := ⟨_, rfl⟩
        have c7 := ca 7 (by decide)
        rw [← hc] at c7
        have hkp : 0 < (n : Int) + 1 := by omega
        have dk : CDivB c ((n : Int) + 1) := ⟨hkp, bd_sm (by omega)⟩
        have d50 : CDivB c 50 := ⟨by decide, bd_sm⟩
        have d200 : CDivB c 200 := ⟨by decide, bd_sm⟩
        have r0 := Int.emod_nonneg c (show (n : Int) + 1 ≠ 0 by omega)
        have r1 := Int.emod_lt_of_pos c hkp
        have r2 := Int.emod_nonneg (c / ((n : Int) + 1)) (show (n : Int) + 1 ≠ 0 by omega)
        have r3 := Int.emod_lt_of_pos (c / ((n : Int) + 1)) hkp
        obtain ⟨I, hI, hI'⟩ : ∃ I : Nat, c % ((n : Int) + 1) = (I : Int) ∧ I < ps.length + 1 := ⟨(c % ((n : Int) + 1)).toNat, by omega, by omega⟩
        obtain ⟨J, hJ, hJ'⟩ : ∃ J : Nat, c / ((n : Int) + 1) % ((n : Int) + 1) = (J : Int) ∧ J < ps.length + 1 := ⟨(c / ((n : Int) + 1) % ((n : Int) + 1)).toNat, by omega, by omega⟩
        obtain ⟨rw', x1, x2, _, _, _⟩ := ix_own hG.sq hI' hJ'
        have hcell := hG.cell I J
        rcases hcx : cellT T I J with _ | ⟨m, s⟩
        · rw [hcx] at x2
          refine ⟨T, some (.int c), some (.int (I : Int)), some (.int (J : Int)), hG.sq, fun i j => (hG.cell i j).mono (by decide), ?_⟩
          exact st_ifT (by simp only [retOf, sNil, sThen, sSeq, sRet, sDrop, sSet, sIf, sPar, sUn2, sFor, asL, gSet, forD, fVar, fC, f2, f1, fT, asB, fNotT, fAndT, fOrT, fAndV, fOrV, gNot, gNeg, faNil, faCons, fTup, fLst, fCall, gAbs, gInt, gLen_t2, gLen_seq, gIx_t0, gIx_t1, gI0, gAdd_int, gNe_int, gEq_int, gEq_bl, gEq_tup2, gNe_tup2, gIsi_same, Dl.isInt, Dl.isBool, Dl.isTup, Option.bind_some, Option.map_some, List.map_cons, List.map_nil, List.length_cons, List.length_nil, List.getElem?_cons_zero, List.getElem?_cons_succ, List.set_cons_zero, List.set_cons_succ, List.cons_append, List.nil_append, List.append_nil, Bool.not_true, Bool.not_false, beq_self_eq_true, bdD_none, bdD_some, gIsN, isNon, sSetM, sRetM, sDropM, vI, vName, vShare, vWalk, vNil, vCons, vLst, vTup, vCall, sh_bd, gEqN_int, gI_pos (C := fun _ j => 0 < j) (i := h) (j := 4) (by decide), q4]) (st_seq (st_set (v_imm (d := .int c) (by simp only [retOf, sNil, sThen, sSeq, sRet, sDrop, sSet, sIf, sPar, sUn2, sFor, asL, gSet, forD, fVar, fC, f2, f1, fT, asB, fNotT, fAndT, fOrT, fAndV, fOrV, gNot, gNeg, faNil, faCons, fTup, fLst, fCall, gAbs, gInt, gLen_t2, gLen_seq, gIx_t0, gIx_t1, gI0, gAdd_int, gNe_int, gEq_int, gEq_bl, gEq_tup2, gNe_tup2, gIsi_same, Dl.isInt, Dl.isBool, Dl.isTup, Option.bind_some, Option.map_some, List.map_cons, List.map_nil, List.length_cons, List.length_nil, List.getElem?_cons_zero, List.getElem?_cons_succ, List.set_cons_zero, List.set_cons_succ, List.cons_append, List.nil_append, List.append_nil, Bool.not_true, Bool.not_false, beq_self_eq_true, bdD_none, bdD_some, gIsN, isNon, sSetM, sRetM, sDropM, vI, vName, vShare, vWalk, vNil, vCons, vLst, vTup, vCall, sh_bd, c7]))) (st_seq (st_set (v_imm (d := .int (I : Int)) (by simp only [retOf, sNil, sThen, sSeq, sRet, sDrop, sSet, sIf, sPar, sUn2, sFor, asL, gSet, forD, fVar, fC, f2, f1, fT, asB, fNotT, fAndT, fOrT, fAndV, fOrV, gNot, gNeg, faNil, faCons, fTup, fLst, fCall, gAbs, gInt, gLen_t2, gLen_seq, gIx_t0, gIx_t1, gI0, gAdd_int, gNe_int, gEq_int, gEq_bl, gEq_tup2, gNe_tup2, gIsi_same, Dl.isInt, Dl.isBool, Dl.isTup, Option.bind_some, Option.map_some, List.map_cons, List.map_nil, List.length_cons, List.length_nil, List.getElem?_cons_zero, List.getElem?_cons_succ, List.set_cons_zero, List.set_cons_succ, List.cons_append, List.nil_append, List.append_nil, Bool.not_true, Bool.not_false, beq_self_eq_true, bdD_none, bdD_some, gIsN, isNon, sSetM, sRetM, sDropM, vI, vName, vShare, vWalk, vNil, vCons, vLst, vTup, vCall, sh_bd, gI_pos (C := fun _ j => 0 < j) (i := c) hkp, hI]))) (st_seq (st_set (v_imm (d := .int (J : Int)) (by simp only [retOf, sNil, sThen, sSeq, sRet, sDrop, sSet, sIf, sPar, sUn2, sFor, asL, gSet, forD, fVar, fC, f2, f1, fT, asB, fNotT, fAndT, fOrT, fAndV, fOrV, gNot, gNeg, faNil, faCons, fTup, fLst, fCall, gAbs, gInt, gLen_t2, gLen_seq, gIx_t0, gIx_t1, gI0, gAdd_int, gNe_int, gEq_int, gEq_bl, gEq_tup2, gNe_tup2, gIsi_same, Dl.isInt, Dl.isBool, Dl.isTup, Option.bind_some, Option.map_some, List.map_cons, List.map_nil, List.length_cons, List.length_nil, List.getElem?_cons_zero, List.getElem?_cons_succ, List.set_cons_zero, List.set_cons_succ, List.cons_append, List.nil_append, List.append_nil, Bool.not_true, Bool.not_false, beq_self_eq_true, bdD_none, bdD_some, gIsN, isNon, sSetM, sRetM, sDropM, vI, vName, vShare, vWalk, vNil, vCons, vLst, vTup, vCall, sh_bd, gI_pos (C := CDivB) dk, gI_pos (C := fun _ j => 0 < j) (i := c / ((n : Int) + 1)) hkp, hJ]))) (st_ifF (by simp only [retOf, sNil, sThen, sSeq, sRet, sDrop, sSet, sIf, sPar, sUn2, sFor, asL, gSet, forD, fVar, fC, f2, f1, fT, asB, fNotT, fAndT, fOrT, fAndV, fOrV, gNot, gNeg, faNil, faCons, fTup, fLst, fCall, gAbs, gInt, gLen_t2, gLen_seq, gIx_t0, gIx_t1, gI0, gAdd_int, gNe_int, gEq_int, gEq_bl, gEq_tup2, gNe_tup2, gIsi_same, Dl.isInt, Dl.isBool, Dl.isTup, Option.bind_some, Option.map_some, List.map_cons, List.map_nil, List.length_cons, List.length_nil, List.getElem?_cons_zero, List.getElem?_cons_succ, List.set_cons_zero, List.set_cons_succ, List.cons_append, List.nil_append, List.append_nil, Bool.not_true, Bool.not_false, beq_self_eq_true, bdD_none, bdD_some, gIsN, isNon, sSetM, sRetM, sDropM, vI, vName, vShare, vWalk, vNil, vCons, vLst, vTup, vCall, sh_bd, gNotN, x1, x2]) rfl))))
        · rw [hcx] at x2 hcell
          refine ⟨set2 T I J (some (m - 1 - c / 50 % 4, c / 200 % 2 == 1)), some (.int c), some (.int (I : Int)), some (.int (J : Int)), set2_sq hG.sq hI', fun i j => ?_, ?_⟩
          · rw [cell_set2 hG.sq hI' hJ']
            split
            · exact Sm.mono (k := 452) (((show Sm 450 m from hcell).sub (y := 1) (Sm.mono (k := 10) (Sm.of (by omega) (by omega)) (by decide))).sub (y := c / 50 % 4) (Sm.mono (k := 10) (Sm.of (by omega) (by omega)) (by decide))) (by decide)
            · exact (hG.cell i j).mono (by decide)
          · exact st_ifT (by simp only [retOf, sNil, sThen, sSeq, sRet, sDrop, sSet, sIf, sPar, sUn2, sFor, asL, gSet, forD, fVar, fC, f2, f1, fT, asB, fNotT, fAndT, fOrT, fAndV, fOrV, gNot, gNeg, faNil, faCons, fTup, fLst, fCall, gAbs, gInt, gLen_t2, gLen_seq, gIx_t0, gIx_t1, gI0, gAdd_int, gNe_int, gEq_int, gEq_bl, gEq_tup2, gNe_tup2, gIsi_same, Dl.isInt, Dl.isBool, Dl.isTup, Option.bind_some, Option.map_some, List.map_cons, List.map_nil, List.length_cons, List.length_nil, List.getElem?_cons_zero, List.getElem?_cons_succ, List.set_cons_zero, List.set_cons_succ, List.cons_append, List.nil_append, List.append_nil, Bool.not_true, Bool.not_false, beq_self_eq_true, bdD_none, bdD_some, gIsN, isNon, sSetM, sRetM, sDropM, vI, vName, vShare, vWalk, vNil, vCons, vLst, vTup, vCall, sh_bd, gEqN_int, gI_pos (C := fun _ j => 0 < j) (i := h) (j := 4) (by decide), q4]) (st_seq (st_set (v_imm (d := .int c) (by simp only [retOf, sNil, sThen, sSeq, sRet, sDrop, sSet, sIf, sPar, sUn2, sFor, asL, gSet, forD, fVar, fC, f2, f1, fT, asB, fNotT, fAndT, fOrT, fAndV, fOrV, gNot, gNeg, faNil, faCons, fTup, fLst, fCall, gAbs, gInt, gLen_t2, gLen_seq, gIx_t0, gIx_t1, gI0, gAdd_int, gNe_int, gEq_int, gEq_bl, gEq_tup2, gNe_tup2, gIsi_same, Dl.isInt, Dl.isBool, Dl.isTup, Option.bind_some, Option.map_some, List.map_cons, List.map_nil, List.length_cons, List.length_nil, List.getElem?_cons_zero, List.getElem?_cons_succ, List.set_cons_zero, List.set_cons_succ, List.cons_append, List.nil_append, List.append_nil, Bool.not_true, Bool.not_false, beq_self_eq_true, bdD_none, bdD_some, gIsN, isNon, sSetM, sRetM, sDropM, vI, vName, vShare, vWalk, vNil, vCons, vLst, vTup, vCall, sh_bd, c7]))) (st_seq (st_set (v_imm (d := .int (I : Int)) (by simp only [retOf, sNil, sThen, sSeq, sRet, sDrop, sSet, sIf, sPar, sUn2, sFor, asL, gSet, forD, fVar, fC, f2, f1, fT, asB, fNotT, fAndT, fOrT, fAndV, fOrV, gNot, gNeg, faNil, faCons, fTup, fLst, fCall, gAbs, gInt, gLen_t2, gLen_seq, gIx_t0, gIx_t1, gI0, gAdd_int, gNe_int, gEq_int, gEq_bl, gEq_tup2, gNe_tup2, gIsi_same, Dl.isInt, Dl.isBool, Dl.isTup, Option.bind_some, Option.map_some, List.map_cons, List.map_nil, List.length_cons, List.length_nil, List.getElem?_cons_zero, List.getElem?_cons_succ, List.set_cons_zero, List.set_cons_succ, List.cons_append, List.nil_append, List.append_nil, Bool.not_true, Bool.not_false, beq_self_eq_true, bdD_none, bdD_some, gIsN, isNon, sSetM, sRetM, sDropM, vI, vName, vShare, vWalk, vNil, vCons, vLst, vTup, vCall, sh_bd, gI_pos (C := fun _ j => 0 < j) (i := c) hkp, hI]))) (st_seq (st_set (v_imm (d := .int (J : Int)) (by simp only [retOf, sNil, sThen, sSeq, sRet, sDrop, sSet, sIf, sPar, sUn2, sFor, asL, gSet, forD, fVar, fC, f2, f1, fT, asB, fNotT, fAndT, fOrT, fAndV, fOrV, gNot, gNeg, faNil, faCons, fTup, fLst, fCall, gAbs, gInt, gLen_t2, gLen_seq, gIx_t0, gIx_t1, gI0, gAdd_int, gNe_int, gEq_int, gEq_bl, gEq_tup2, gNe_tup2, gIsi_same, Dl.isInt, Dl.isBool, Dl.isTup, Option.bind_some, Option.map_some, List.map_cons, List.map_nil, List.length_cons, List.length_nil, List.getElem?_cons_zero, List.getElem?_cons_succ, List.set_cons_zero, List.set_cons_succ, List.cons_append, List.nil_append, List.append_nil, Bool.not_true, Bool.not_false, beq_self_eq_true, bdD_none, bdD_some, gIsN, isNon, sSetM, sRetM, sDropM, vI, vName, vShare, vWalk, vNil, vCons, vLst, vTup, vCall, sh_bd, gI_pos (C := CDivB) dk, gI_pos (C := fun _ j => 0 < j) (i := c / ((n : Int) + 1)) hkp, hJ]))) (st_ifT (by simp only [retOf, sNil, sThen, sSeq, sRet, sDrop, sSet, sIf, sPar, sUn2, sFor, asL, gSet, forD, fVar, fC, f2, f1, fT, asB, fNotT, fAndT, fOrT, fAndV, fOrV, gNot, gNeg, faNil, faCons, fTup, fLst, fCall, gAbs, gInt, gLen_t2, gLen_seq, gIx_t0, gIx_t1, gI0, gAdd_int, gNe_int, gEq_int, gEq_bl, gEq_tup2, gNe_tup2, gIsi_same, Dl.isInt, Dl.isBool, Dl.isTup, Option.bind_some, Option.map_some, List.map_cons, List.map_nil, List.length_cons, List.length_nil, List.getElem?_cons_zero, List.getElem?_cons_succ, List.set_cons_zero, List.set_cons_succ, List.cons_append, List.nil_append, List.append_nil, Bool.not_true, Bool.not_false, beq_self_eq_true, bdD_none, bdD_some, gIsN, isNon, sSetM, sRetM, sDropM, vI, vName, vShare, vWalk, vNil, vCons, vLst, vTup, vCall, sh_bd, gNotN, x1, x2]) (sPut2_g hG.sq hI' hJ' rfl rfl rfl (v_imm (by simp only [retOf, sNil, sThen, sSeq, sRet, sDrop, sSet, sIf, sPar, sUn2, sFor, asL, gSet, forD, fVar, fC, f2, f1, fT, asB, fNotT, fAndT, fOrT, fAndV, fOrV, gNot, gNeg, faNil, faCons, fTup, fLst, fCall, gAbs, gInt, gLen_t2, gLen_seq, gIx_t0, gIx_t1, gI0, gAdd_int, gNe_int, gEq_int, gEq_bl, gEq_tup2, gNe_tup2, gIsi_same, Dl.isInt, Dl.isBool, Dl.isTup, Option.bind_some, Option.map_some, List.map_cons, List.map_nil, List.length_cons, List.length_nil, List.getElem?_cons_zero, List.getElem?_cons_succ, List.set_cons_zero, List.set_cons_succ, List.cons_append, List.nil_append, List.append_nil, Bool.not_true, Bool.not_false, beq_self_eq_true, bdD_none, bdD_some, gIsN, isNon, sSetM, sRetM, sDropM, vI, vName, vShare, vWalk, vNil, vCons, vLst, vTup, vCall, sh_bd, gEqN_int, x1, x2, gI_pos (C := CDivB) d50, gI_pos (C := fun _ j => 0 < j) (i := c / 50) (j := 4) (by decide), gI_pos (C := CDivB) d200, gI_pos (C := fun _ j => 0 < j) (i := c / 200) (j := 2) (by decide)]) (imm_bd _)))))))
      · have q4 : (h % 4 == 3) = false := by simp [q3]
        exact ⟨T, none, none, none, hG.sq, fun i j => (hG.cell i j).mono (by decide), st_ifF (by simp only [retOf, sNil, sThen, sSeq, sRet, sDrop, sSet, sIf, sPar, sUn2, sFor, asL, gSet, forD, fVar, fC, f2, f1, fT, asB, fNotT, fAndT, fOrT, fAndV, fOrV, gNot, gNeg, faNil, faCons, fTup, fLst, fCall, gAbs, gInt, gLen_t2, gLen_seq, gIx_t0, gIx_t1, gI0, gAdd_int, gNe_int, gEq_int, gEq_bl, gEq_tup2, gNe_tup2, gIsi_same, Dl.isInt, Dl.isBool, Dl.isTup, Option.bind_some, Option.map_some, List.map_cons, List.map_nil, List.length_cons, List.length_nil, List.getElem?_cons_zero, List.getElem?_cons_succ, List.set_cons_zero, List.set_cons_succ, List.cons_append, List.nil_append, List.append_nil, Bool.not_true, Bool.not_false, beq_self_eq_true, bdD_none, bdD_some, gIsN, isNon, sSetM, sRetM, sDropM, vI, vName, vShare, vWalk, vNil, vCons, vLst, vTup, vCall, sh_bd, gEqN_int, gI_pos (C := fun _ j => 0 < j) (i := h) (j := 4) (by decide), q4]) rfl⟩
    refine fin T' hs' hB' ?_
    exact st_seq (st_set (v_imm (d := .int h) (by simp only [retOf, sNil, sThen, sSeq, sRet, sDrop, sSet, sIf, sPar, sUn2, sFor, asL, gSet, forD, fVar, fC, f2, f1, fT, asB, fNotT, fAndT, fOrT, fAndV, fOrV, gNot, gNeg, faNil, faCons, fTup, fLst, fCall, gAbs, gInt, gLen_t2, gLen_seq, gIx_t0, gIx_t1, gI0, gAdd_int, gNe_int, gEq_int, gEq_bl, gEq_tup2, gNe_tup2, gIsi_same, Dl.isInt, Dl.isBool, Dl.isTup, Option.bind_some, Option.map_some, List.map_cons, List.map_nil, List.length_cons, List.length_nil, List.getElem?_cons_zero, List.getElem?_cons_succ, List.set_cons_zero, List.set_cons_succ, List.cons_append, List.nil_append, List.append_nil, Bool.not_true, Bool.not_false, beq_self_eq_true, bdD_none, bdD_some, gIsN, isNon, sSetM, sRetM, sDropM, vI, vName, vShare, vWalk, vNil, vCons, vLst, vTup, vCall, sh_bd, c0]))) (st_seq (st_set (v_imm hk)) (st_seq (st_set hcomp) (st_seq (st_ifF (by simp only [List.set_cons_zero, List.set_cons_succ, retOf, sNil, sThen, sSeq, sRet, sDrop, sSet, sIf, sPar, sUn2, sFor, asL, gSet, forD, fVar, fC, f2, f1, fT, asB, fNotT, fAndT, fOrT, fAndV, fOrV, gNot, gNeg, faNil, faCons, fTup, fLst, fCall, gAbs, gInt, gLen_t2, gLen_seq, gIx_t0, gIx_t1, gI0, gAdd_int, gNe_int, gEq_int, gEq_bl, gEq_tup2, gNe_tup2, gIsi_same, Dl.isInt, Dl.isBool, Dl.isTup, Option.bind_some, Option.map_some, List.map_cons, List.map_nil, List.length_cons, List.length_nil, List.getElem?_cons_zero, List.getElem?_cons_succ, List.set_cons_zero, List.set_cons_succ, List.cons_append, List.nil_append, List.append_nil, Bool.not_true, Bool.not_false, beq_self_eq_true, bdD_none, bdD_some, gIsN, isNon, sSetM, sRetM, sDropM, vI, vName, vShare, vWalk, vNil, vCons, vLst, vTup, vCall, sh_bd, gLt, gI_pos (C := fun _ j => 0 < j) (i := h) (j := 4) (by decide), q1]) rfl) (st_seq (st_set (v_call (ds := [.seq (ns.map D.int), .lst (ps.map fr)]) rfl hT (own_ownD T))) (st_seq hst (st_ret (v_tup2 (v_move rfl) (v_move rfl))))))))
theorem ok__law_table_by (F : Fun K "_law_table_by" "_law_table_by" s__law_table_by f fd)  (hLcell_at : Has P w K mg base 1 "_law_cell_at" ["_law_script", "_law_k"] (fn S__law_cell_at)) (hLplanted : HasF P w K mg base 2 "_law_planted" ["_law_script", "_law_point"] (fn S__law_planted)) (hLpart : Has P w K mg base 2 "_law_part" ["_law_cell"] (fn S__law_part)) (hLany_table : HasF P w K mg base 2 "_law_any_table" ["_law_seed", "_law_k", "_law_most"] (fn S__law_any_table))  (m_int : mg "int" = none) (m_range : mg "range" = none) : FnOk P w K mg base CX0 3 f fd ["_law_script"] (freshSp K 1 (fn S__law_table_by)) := by
  have sc := sc__law_table_by
  refine fresh_ok F sc__law_table_by (fun cdv A outer s H E ds d hr hG hl => ?_)
  have hb := fn_inv hG
  have hown := hb.2
  refine ⟨_, (pm_cons (pm_set 1 sc.nd (pv_imm (pd_callH hLcell_at hr (pad_cons (pd_var 0) (pad_cons pd_int pad_nil)))))
      (pm_cons (pm_set 2 sc.nd (pv_imm (pd_mod (pd_fdiv (pd_var 1) pd_int) (pd_ix (pd_lst (pad_cons pd_int (pad_cons pd_int pad_nil))) (pd_callTy call_int1 cd_int rfl m_int boot_int (pad_cons (pd_gt (pd_mod (pd_var 1) pd_int) pd_int) pad_nil))))))
      (pm_cons (pm_comp 3 sc.nd (by exact (pid_range1 rfl m_range (pad_cons (pd_var 2) pad_nil))) (N := ["_law_t", "_law_script"]) (js := [0]) (cl := [("_law_script", _)]) (fun _ _ _ _ _ => by exact (pv_imm (pd_callH hLpart hr (pad_cons (pd_callH hLcell_at hr (pad_cons (pd_var 1) (pad_cons (pd_add pd_int (pd_var 0)) pad_nil))) pad_nil)))) (by exact CompOk.one))
      (pm_cons (pm_if (ptd_lt (pd_mod (pd_var 1) pd_int) pd_int) (pm_one (pm_ret (pv_tup (pva_cons (pv_call hLany_table hr (pad_cons (pd_callH hLcell_at hr (pad_cons (pd_var 0) (pad_cons pd_int pad_nil))) (pad_cons (pd_var 2) (pad_cons (pd_ix (pd_lst (pad_cons pd_int (pad_cons pd_int (pad_cons (pd_pow pd_int pd_int) pad_nil)))) (pd_mod (pd_fdiv (pd_var 1) pd_int) pd_int)) pad_nil)))) (pva_cons (pv_name 3) pva_nil))))) pm_nil)
      (pm_cons (pm_set 4 sc.nd (pv_call hLplanted hr (pad_cons (pd_var 0) (pad_cons (pd_var 3) pad_nil))))
      (pm_cons (pm_if (ptd_eqN hr.units (pd_mod (pd_var 1) pd_int) pd_int) (pm_cons (pm_set 5 sc.nd (pv_imm (pd_callH hLcell_at hr (pad_cons (pd_var 0) (pad_cons pd_int pad_nil)))))
        (pm_cons (pm_set 6 sc.nd (pv_imm (pd_mod (pd_var 5) (pd_add (pd_var 2) pd_int))))
        (pm_cons (pm_set 7 sc.nd (pv_imm (pd_mod (pd_fdiv (pd_var 5) (pd_add (pd_var 2) pd_int)) (pd_add (pd_var 2) pd_int))))
        (pm_one (pm_if (ptd_notN (pd_ix (pd_ix (pd_var 4) (pd_var 6)) (pd_var 7)) pd_non) (pm_one (pm_put2 4 (pv_imm (pd_tup (pad_cons (pd_sub (pd_sub (pd_ix (pd_ix (pd_ix (pd_var 4) (pd_var 6)) (pd_var 7)) pd_int) pd_int) (pd_mod (pd_fdiv (pd_var 5) pd_int) pd_int)) (pad_cons (pd_eqN hr.units (pd_mod (pd_fdiv (pd_var 5) pd_int) pd_int) pd_int) pad_nil)))) (pg_sub (pe_ix ix_list (pvi 4) (pd_var 6) (fun _ _ => rfl)) (pd_var 7) set_list))) pm_nil))))) pm_nil)
      (pm_one (pm_ret (pv_tup (pva_cons (pv_name 4) (pva_cons (pv_name 3) pva_nil))))))))))), ?_, ?own⟩
  case own => first | rfl | exact hown
  · show retOf ((?f : SD) (startM 8 _)) = _
    exact hb.1
abbrev s_mixed : Stmt := top 13
theorem sc_mixed : FnScope ["one", "other", "e", "rest"] ["one", "other", "e"] (defScope s_mixed) := ⟨rfl, rfl, rfl, by decide +kernel, rfl, by decide +kernel, by decide +kernel⟩
theorem ok_mixed (F : Fun K "mixed" "mixed" s_mixed f fd)  (hminus : Has P w K mg base 3 "minus" ["one", "other"] (fn S_minus)) (hfractionD : HasD P w K mg base 3 "fraction" ["top", "bottom"] [1] (fn S_fraction)) (hplus : Has P w K mg base 3 "plus" ["one", "other"] (fn S_plus)) (htimes : Has P w K mg base 2 "times" ["one", "other"] (fn S_times))  (m_zip : mg "zip" = none) : FnOk P w K mg base CX0 4 f fd ["one", "other", "e"] (freshSp K 3 (fn S_mixed)) := by
  have sc := sc_mixed
  refine fresh_ok F sc_mixed (fun cdv A outer s H E ds d hr hG hl => ?_)
  obtain ⟨d0, d1, e, ps, qs, h1, h2, h3, h4, h5, h6, h7, rfl, rfl⟩ := fn_inv hG
  have hown : own (.lst ((dues e ps qs).map fr)) = true := by rw [own]; exact owns_frs _
  refine ⟨_, (pm_cons (pm_set 3 sc.nd (pv_imm (pd_callH hminus hr (pad_cons (pd_callD hfractionD hr (pad_cons pd_int pad_nil)) (pad_cons (pd_var 2) pad_nil)))))
      (pm_one (pm_ret (pv_compG (by exact (pid_zip rfl m_zip (pad_cons (pd_var 0) (pad_cons (pd_var 1) pad_nil)))) (T := ["first", "second"]) (N := ["first", "second", "e", "rest"]) (js := [2, 3]) (cl := [("rest", _), ("e", _)]) (fun _ _ _ _ _ => by exact (pgd_tup [0, 1] (pg_tup rfl (pgs_cons (pgN 0 (show List.Nodup (["first", "second", "e", "rest"] : List Str) from by decide +kernel)) (pgs_cons (pgN 1 (show List.Nodup (["first", "second", "e", "rest"] : List Str) from by decide +kernel)) pgs_nil))))) (fills_ds [0, 1] (by decide)) (fun _ _ _ _ _ => by exact pif_nil) (fun _ _ _ _ _ => by exact (pv_imm (pd_callH hplus hr (pad_cons (pd_callH htimes hr (pad_cons (pd_var 3) (pad_cons (pd_var 0) pad_nil))) (pad_cons (pd_callH htimes hr (pad_cons (pd_var 2) (pad_cons (pd_var 1) pad_nil))) pad_nil))))) (by exact CompG.of (T := ["first", "second"]) (Z := ["e", "rest"]) (Y := ["rest", "e"]) (hcl := (by intro p hp; simp only [List.mem_cons, List.not_mem_nil, or_false] at hp; rcases hp with rfl | rfl <;> rfl)) (hN := (by intro i y j h1 h2; match i, h1, h2 with | 0, h1, h2 => cases h1; cases h2; exact ⟨rfl, rfl, rfl⟩ | 1, h1, h2 => cases h1; cases h2; exact ⟨rfl, rfl, rfl⟩ | n + 2, h1, h2 => cases h1))))))), ?_, ?own⟩
  case own => first | rfl | exact hown
  · show retOf ((?f : SD) (startM 4 _)) = _
    have e0 : startM 4 [d0, d1, fr e] = [some (.seq (ps.map fr)), some (.seq (qs.map fr)), some (fr e), none] := by
      show [some (sh d0), some (sh d1), some (sh (fr e)), none] = _
      rw [show sh d0 = _ from h1, show sh d1 = _ from h2, sh_fr]
    rw [e0]
    have fo : Flw (1, 1) := Flw.of one_fr
    refine rt_of (st_seq (st_set (v_imm (d := fr (mi (1, 1) e)) (by simp only [retOf, sNil, sThen, sSeq, sRet, sDrop, sSet, sIf, sPar, sUn2, sFor, asL, gSet, forD, fVar, fC, f2, f1, fT, asB, fNotT, fAndT, fOrT, fAndV, fOrV, gNot, gNeg, faNil, faCons, fTup, fLst, fCall, gAbs, gInt, gLen_t2, gLen_seq, gIx_t0, gIx_t1, gI0, gAdd_int, gNe_int, gEq_int, gEq_bl, gEq_tup2, gNe_tup2, gIsi_same, Dl.isInt, Dl.isBool, Dl.isTup, Option.bind_some, Option.map_some, List.map_cons, List.map_nil, List.length_cons, List.length_nil, List.getElem?_cons_zero, List.getElem?_cons_succ, List.set_cons_zero, List.set_cons_succ, List.cons_append, List.nil_append, List.append_nil, Bool.not_true, Bool.not_false, beq_self_eq_true, bdD_none, bdD_some, gIsN, isNon, sSetM, sRetM, sDropM, vI, vName, vShare, vWalk, vNil, vCons, vLst, vTup, vCall, sh_bd, e_fraction1, e2w (op := fun p q => fr (mi p q)) fo (Flw.of h3)]))) (st_ret (δ' := [some (.seq (ps.map fr)), some (.seq (qs.map fr)), some (fr e), some (fr (mi (1, 1) e))]) ?_))
    dsimp only [List.set_cons_zero, List.set_cons_succ]
    rw [← dues_zip h6, List.map_map]
    refine vCompG_map (f := fun p : (Int × Int) × (Int × Int) => .tup [fr p.1, fr p.2]) (h := fun p => fr (du e p.1 p.2)) (zipD_frs rfl) (fun p m => ?_) (by rw [List.length_zip]; omega)
    obtain ⟨a1, a2, a3, a4⟩ := mx_val h3 (h4 _ (List.of_mem_zip m).1) (h5 _ (List.of_mem_zip m).2)
    refine turnG_one (δ1 := [some (fr p.1), some (fr p.2), some (fr e), some (fr (mi (1, 1) e))]) rfl rfl ?_
    refine own_imm (δ' := [some (fr p.1), some (fr p.2), some (fr e), some (fr (mi (1, 1) e))]) ?_ rfl
    show vI _ [some (sh (fr p.1)), some (sh (fr p.2)), some (sh (fr e)), some (sh (fr (mi (1, 1) e)))] = _
    rw [sh_fr, sh_fr, sh_fr, sh_fr]
    refine v_imm ?_
    simp only [retOf, sNil, sThen, sSeq, sRet, sDrop, sSet, sIf, sPar, sUn2, sFor, asL, gSet, forD, fVar, fC, f2, f1, fT, asB, fNotT, fAndT, fOrT, fAndV, fOrV, gNot, gNeg, faNil, faCons, fTup, fLst, fCall, gAbs, gInt, gLen_t2, gLen_seq, gIx_t0, gIx_t1, gI0, gAdd_int, gNe_int, gEq_int, gEq_bl, gEq_tup2, gNe_tup2, gIsi_same, Dl.isInt, Dl.isBool, Dl.isTup, Option.bind_some, Option.map_some, List.map_cons, List.map_nil, List.length_cons, List.length_nil, List.getElem?_cons_zero, List.getElem?_cons_succ, List.set_cons_zero, List.set_cons_succ, List.cons_append, List.nil_append, List.append_nil, Bool.not_true, Bool.not_false, beq_self_eq_true, bdD_none, bdD_some, gIsN, isNon, sSetM, sRetM, sDropM, vI, vName, vShare, vWalk, vNil, vCons, vLst, vTup, vCall, sh_bd, e2w (op := fun p q => fr (ti p q)) a1 (Flw.of (h4 _ (List.of_mem_zip m).1)), e2w (op := fun p q => fr (ti p q)) (Flw.of h3) (Flw.of (h5 _ (List.of_mem_zip m).2)), e2w (op := fun p q => fr (pl p q)) a2 a3, a4]
abbrev s_law : Stmt := top 29
theorem sc_law : FnScope ["_law_script", "_law_other", "_law_kept", "_law_cell", "_law_table", "_law_one", "_law_e_here", "_law_told", "_law_rest"] ["_law_script"] (defScope s_law) := ⟨rfl, rfl, rfl, by decide +kernel, rfl, by decide +kernel, by decide +kernel⟩
theorem ok_law (F : Fun K "law" "law" s_law f fd)  (hLtable_by : HasF P w K mg base 3 "_law_table_by" ["_law_script"] (fn S__law_table_by)) (hLpart : Has P w K mg base 2 "_law_part" ["_law_cell"] (fn S__law_part)) (hLcell_at : Has P w K mg base 1 "_law_cell_at" ["_law_script", "_law_k"] (fn S__law_cell_at)) (hLe : Has P w K mg base 2 "_law_e" ["_law_cell"] (fn S__law_e)) (hmixed : HasF P w K mg base 4 "mixed" ["one", "other", "e"] (fn S_mixed)) (hLlowest : Has P w K mg base 1 "_law_lowest" ["_law_top", "_law_bottom"] (fn S__law_lowest)) (hLmixed : HasF P w K mg base 1 "_law_mixed" ["_law_cell", "_law_k"] (fn S__law_mixed)) (hLlies : HasF P w K mg base 2 "_law_lies" ["_law_table", "_law_point"] (fn S__law_lies)) (hLis_point : HasF P w K mg base 2 "_law_is_point" ["_law_found", "_law_many"] (fn S__law_is_point)) (hLdue : HasF P w K mg base 2 "_law_due" ["_law_one", "_law_other", "_law_e_here"] (fn S__law_due))  (m_list : mg "list" = none) (m_range : mg "range" = none) (m_len : mg "len" = none) : FnOk P w K mg base CX0 5 f fd ["_law_script"] (spLaw K) := by
  have sc := sc_law
  refine law_okM F sc_law (fun cdv A outer s H E ns hr hl => ?_)
  refine ⟨_, (pm_cons (pm_un [4, 5] (pv_call hLtable_by hr (pad_cons (pd_var 0) pad_nil)) (pg_tup rfl (pgs_cons (pgN 4 sc.nd) (pgs_cons (pgN 5 sc.nd) pgs_nil))))
      (pm_cons (pm_set 1 sc.nd (pv_comp (by exact (pid_list (pd_slice (pd_catS (pd_slice (pd_var 0) (pod_some (pd_neg pd_int)) pod_none) (pd_rep (pd_lst (pad_cons pd_int pad_nil)) pd_int)) pod_none (pod_some (pd_callB call_len_seq cd_len rfl m_len PySem.boot_len (pad_cons (pd_var 5) pad_nil)))))) (N := ["_law_cell"]) (js := []) (cl := []) (fun _ _ _ _ _ => by exact (pv_imm (pd_callH hLpart hr (pad_cons (pd_callH hLmixed.has hr (pad_cons (pd_var 0) (pad_cons pd_int pad_nil))) pad_nil)))) (by exact CompOk.nil)))
      (pm_cons (pm_if (ptd_gt (pd_mod (pd_callH hLcell_at hr (pad_cons (pd_var 0) (pad_cons pd_int pad_nil))) pd_int) pd_int) (pm_one (pm_set 1 sc.nd (pv_comp (by exact (pid_list (pd_slice (pd_catS (pd_slice (pd_var 0) (pod_some (pd_neg pd_int)) pod_none) (pd_rep (pd_lst (pad_cons pd_int pad_nil)) pd_int)) pod_none (pod_some (pd_callB call_len_seq cd_len rfl m_len PySem.boot_len (pad_cons (pd_var 5) pad_nil)))))) (N := ["_law_cell"]) (js := []) (cl := []) (fun _ _ _ _ _ => by exact (pv_imm (pd_callH hLpart hr (pad_cons (pd_var 0) pad_nil)))) (by exact CompOk.nil)))) pm_nil)
      (pm_cons (pm_if (ptd_eqN hr.units (pd_mod (pd_callH hLcell_at hr (pad_cons (pd_var 0) (pad_cons pd_int pad_nil))) pd_int) pd_int) (pm_one (pm_set 1 sc.nd (pv_comp (by exact (pid_range1 rfl m_range (pad_cons (pd_callB call_len_seq cd_len rfl m_len PySem.boot_len (pad_cons (pd_var 5) pad_nil)) pad_nil))) (N := ["_law_t", "_law_one", "_law_other"]) (js := [5, 1]) (cl := [("_law_other", _), ("_law_one", _)]) (fun _ _ _ _ _ => by exact (pv_imm (pd_ix (pd_lst (pad_cons (pd_ix (pd_var 1) (pd_var 0)) (pad_cons (pd_ix (pd_var 2) (pd_var 0)) pad_nil))) (pd_mod (pd_var 0) pd_int)))) (by exact CompOk.swp)))) pm_nil)
      (pm_cons (pm_set 2 sc.nd (pv_lst (pva_cons (pv_listof rfl m_list boot_list (pad_cons (pd_var 5) pad_nil)) (pva_cons (pv_listof rfl m_list boot_list (pad_cons (pd_var 1) pad_nil)) pva_nil))))
      (pm_cons (pm_for 3 sc.nd PassesOwn.never rfl (pim_list (pv_lst (pva_cons (pv_imm (pd_callH hLcell_at hr (pad_cons (pd_var 0) (pad_cons pd_int pad_nil)))) (pva_cons (pv_imm (pd_fdiv (pd_callH hLcell_at hr (pad_cons (pd_var 0) (pad_cons pd_int pad_nil))) pd_int)) pva_nil))))
        (pm_cons (pm_set 6 sc.nd (pv_imm (pd_callH hLe hr (pad_cons (pd_var 3) pad_nil))))
        (pm_cons (pm_set 7 sc.nd (pv_call hmixed hr (pad_cons (pd_var 5) (pad_cons (pd_var 1) (pad_cons (pd_var 6) pad_nil)))))
        (pm_cons (pm_if (PWD.pt (pwd_or (ptd_not (ptd_val (pd_callH hLis_point.has hr (pad_cons (pd_var 7) (pad_cons (pd_callB call_len_seq cd_len rfl m_len PySem.boot_len (pad_cons (pd_var 5) pad_nil)) pad_nil))))) (pwd_or1 (ptd_neN hr.units (pd_var 7) (pd_callH hLdue.has hr (pad_cons (pd_var 5) (pad_cons (pd_var 1) (pad_cons (pd_var 6) pad_nil)))))))) (pm_one (pm_ret (pv_imm pd_bl))) pm_nil)
        (pm_cons (pm_set 8 sc.nd (pv_imm (pd_callH hLlowest hr (pad_cons (pd_sub (pd_ix (pd_var 6) pd_int) (pd_ix (pd_var 6) pd_int)) (pad_cons (pd_ix (pd_var 6) pd_int) pad_nil)))))
        (pm_cons (pm_if (PWD.pt (pwd_or (ptd_neN hr.units (pd_callH hmixed.has hr (pad_cons (pd_var 1) (pad_cons (pd_var 5) (pad_cons (pd_var 8) pad_nil)))) (pd_var 7)) (pwd_or1 (ptd_neN hr.units (pd_lst (pad_cons (pd_var 5) (pad_cons (pd_var 1) pad_nil))) (pd_var 2))))) (pm_one (pm_ret (pv_imm pd_bl))) pm_nil)
        (pm_one (pm_if (PWD.pt (pwd_and (ptd_val (pd_callH hLlies.has hr (pad_cons (pd_var 4) (pad_cons (pd_var 5) pad_nil)))) (pwd_and (ptd_val (pd_callH hLlies.has hr (pad_cons (pd_var 4) (pad_cons (pd_var 1) pad_nil)))) (pwd_and1 (ptd_not (ptd_val (pd_callH hLlies.has hr (pad_cons (pd_var 4) (pad_cons (pd_var 7) pad_nil))))))))) (pm_one (pm_ret (pv_imm pd_bl))) pm_nil))))))))
      (pm_cons (pm_appX (pe_bm PySem.F.plainAttrs_list PySem.F.slot_list_append PySem.F.type_list_append mt_append (pv_call hmixed hr (pad_cons (pd_var 5) (pad_cons (pd_var 1) (pad_cons (pd_tup (pad_cons pd_int (pad_cons pd_int pad_nil))) pad_nil)))) (pa_cons (pd_tup (pad_cons pd_int (pad_cons pd_int pad_nil))) pa_nil)))
      (pm_cons (pm_appX (pe_bm PySem.F.plainAttrs_list PySem.F.slot_list_append PySem.F.type_list_append mt_append (pv_call hmixed hr (pad_cons (pd_var 5) (pad_cons (pd_var 1) (pad_cons (pd_tup (pad_cons pd_int (pad_cons pd_int pad_nil))) pad_nil)))) (pa_cons (pd_tup (pad_cons pd_int (pad_cons pd_int pad_nil))) pa_nil)))
      (pm_cons (pm_if (ptd_neN hr.units (pd_lst (pad_cons (pd_var 5) (pad_cons (pd_var 1) pad_nil))) (pd_var 2)) (pm_one (pm_ret (pv_imm pd_bl))) pm_nil)
      (pm_one (pm_ret (pv_imm (pd_and (pd_eqN hr.units (pd_callH hmixed.has hr (pad_cons (pd_var 5) (pad_cons (pd_var 1) (pad_cons (pd_tup (pad_cons pd_int (pad_cons pd_int pad_nil))) pad_nil)))) (pd_var 5)) (pd_one (pd_eqN hr.units (pd_callH hmixed.has hr (pad_cons (pd_var 5) (pad_cons (pd_var 1) (pad_cons (pd_tup (pad_cons pd_int (pad_cons pd_int pad_nil))) pad_nil)))) (pd_var 1)))))))))))))))), ?_⟩
  · show retOf ((?f : SD) (startM 9 _)) = _
    have e0 : startM 9 [.seq (ns.map D.int)] = [some (.seq (ns.map D.int)), none, none, none, none, none, none, none, none] := by
      show [some (sh (.seq (ns.map D.int))), none, none, none, none, none, none, none, none] = _
      rw [sh, shs_ints]
    rw [e0]
    obtain ⟨T, ps, hs, hb, hl6, hpf, htb⟩ := t__law_table_by ns
    have ho : own (.tup [ownD T, .lst (ps.map fr)]) = true := by
      show (own (ownD T) && (own (.lst (ps.map fr)) && true)) = true
      rw [own_ownD, own, owns_frs]
      rfl
    have ca := fun (k : Int) (h : 0 ≤ k) => e__law_cell_at (ns := ns) (k := k) h
    have sI := fun (o1 : Option D) => src_ints (ns := ns) (ps := ps) (δ := [some (.seq (ns.map D.int)), o1, none, none, some (ownD T), some (.lst (ps.map fr)), none, none, none]) rfl rfl hl6 hl
    have shP : sh (.lst (ps.map fr)) = .seq (ps.map fr) := by rw [sh, shs_frs]
    have len : gLen [.lst (ps.map fr)] = some (.int (ps.length : Int)) := by
      show some (D.int ((ps.map fr).length : Int)) = _
      rw [List.length_map]
    have rg : srcR (faCons (fCall gLen (faCons (fVar 5) faNil)) faNil) = srcR (faCons (fCall gLen (faCons (fVar 5) faNil)) faNil) := rfl
    generalize hS : D.seq (ns.map D.int) = S at *
    obtain ⟨c7, hc7⟩ : ∃ c, c = cell ns 7 := ⟨_, rfl⟩
    have a7 := ca 7 (by decide)
    rw [← hc7] at a7
    have part1 : ∃ qs : List (Int × Int), qs.length = ps.length ∧ (∀ p ∈ qs, Fr 200 p) ∧ ((sSetM 1 (vComp (fun δ => ((fSl (f2 gCatS (fSl (fVar 0) (faS (f1 gNeg (fC (.int 7)))) faN) (f2 gRep (fLst (faCons (fC (.int 0)) faNil)) (fC (.int 7)))) faN (faS (fCall gLen (faCons (fVar 5) faNil)))) δ).bind asL) [] (vI (fCall (fn S__law_part) (faCons (fCall (fn S__law_mixed) (faCons (fVar 0) (faCons (fC (.int 3)) faNil))) faNil)))))) [some S, none, none, none, some (ownD T), some (.lst (ps.map fr)), none, none, none] = some (.nx [some S, some (.lst (qs.map fr)), none, none, some (ownD T), some (.lst (ps.map fr)), none, none, none]) := by
      obtain ⟨ks, hk, hsrc⟩ := sI none
      refine ⟨ks.map fun c => prt (mxd c 3), by rw [List.length_map, hk], fun p m => ?_, ?_⟩
      · obtain ⟨c, _, rfl⟩ := List.mem_map.mp m
        exact prt_fr _
      · refine st_setS (d := .lst ((ks.map fun c => prt (mxd c 3)).map fr)) ?_
        rw [List.map_map]
        refine vComp_map (f := D.int) (g := fun c => fr (prt (mxd c 3))) hsrc (fun c _ => own_imm (v_imm (d := fr (prt (mxd c 3))) ?_) rfl) (by omega)
        show fCall (fn S__law_part) _ [some (D.int c)] = _
        simp only [retOf, sNil, sThen, sSeq, sRet, sDrop, sSet, sIf, sPar, sUn2, sFor, asL, gSet, forD, fVar, fC, f2, f1, fT, asB, fNotT, fAndT, fOrT, fAndV, fOrV, gNot, gNeg, faNil, faCons, fTup, fLst, fCall, gAbs, gInt, gLen_t2, gLen_seq, gIx_t0, gIx_t1, gI0, gAdd_int, gNe_int, gEq_int, gEq_bl, gEq_tup2, gNe_tup2, gIsi_same, Dl.isInt, Dl.isBool, Dl.isTup, Option.bind_some, Option.map_some, List.map_cons, List.map_nil, List.length_cons, List.length_nil, List.getElem?_cons_zero, List.getElem?_cons_succ, List.set_cons_zero, List.set_cons_succ, List.cons_append, List.nil_append, List.append_nil, Bool.not_true, Bool.not_false, beq_self_eq_true, bdD_none, bdD_some, gIsN, isNon, sSetM, sRetM, sDropM, vI, vName, vShare, vWalk, vNil, vCons, vLst, vTup, vCall, sh_bd, e__law_mixed (c := c) (k := 3) (by decide) (by decide), e__law_part]
    obtain ⟨qs1, hq1, hf1, st1⟩ := part1
    have part2 : ∃ qs : List (Int × Int), qs.length = ps.length ∧ (∀ p ∈ qs, Fr 200 p) ∧ ((sIf (fT (f2 gGt (f2 (gI (fun _ j => 0 < j) fun i j => .int (i % j)) (fCall (fn S__law_cell_at) (faCons (fVar 0) (faCons (fC (.int 7)) faNil))) (fC (.int 3))) (fC (.int 0)))) (sSetM 1 (vComp (fun δ => ((fSl (f2 gCatS (fSl (fVar 0) (faS (f1 gNeg (fC (.int 7)))) faN) (f2 gRep (fLst (faCons (fC (.int 0)) faNil)) (fC (.int 7)))) faN (faS (fCall gLen (faCons (fVar 5) faNil)))) δ).bind asL) [] (vI (fCall (fn S__law_part) (faCons (fVar 0) faNil))))) sNil)) [some S, some (.lst (qs1.map fr)), none, none, some (ownD T), some (.lst (ps.map fr)), none, none, none] = some (.nx [some S, some (.lst (qs.map fr)), none, none, some (ownD T), some (.lst (ps.map fr)), none, none, none]) := by
      by_cases q : 0 < c7 % 3
      · obtain ⟨ks, hk, hsrc⟩ := sI (some (.lst (qs1.map fr)))
        refine ⟨ks.map prt, by rw [List.length_map, hk], fun p m => ?_, st_ifT ?_ (st_setS (d := .lst ((ks.map prt).map fr)) ?_)⟩
        · obtain ⟨c, _, rfl⟩ := List.mem_map.mp m
          exact prt_fr _
        · simp only [retOf, sNil, sThen, sSeq, sRet, sDrop, sSet, sIf, sPar, sUn2, sFor, asL, gSet, forD, fVar, fC, f2, f1, fT, asB, fNotT, fAndT, fOrT, fAndV, fOrV, gNot, gNeg, faNil, faCons, fTup, fLst, fCall, gAbs, gInt, gLen_t2, gLen_seq, gIx_t0, gIx_t1, gI0, gAdd_int, gNe_int, gEq_int, gEq_bl, gEq_tup2, gNe_tup2, gIsi_same, Dl.isInt, Dl.isBool, Dl.isTup, Option.bind_some, Option.map_some, List.map_cons, List.map_nil, List.length_cons, List.length_nil, List.getElem?_cons_zero, List.getElem?_cons_succ, List.set_cons_zero, List.set_cons_succ, List.cons_append, List.nil_append, List.append_nil, Bool.not_true, Bool.not_false, beq_self_eq_true, bdD_none, bdD_some, gIsN, isNon, sSetM, sRetM, sDropM, vI, vName, vShare, vWalk, vNil, vCons, vLst, vTup, vCall, sh_bd, a7, gGt, gLt, gI_pos (C := fun _ j => 0 < j) (i := c7) (j := 3) (by decide), decide_eq_true q]
        · rw [List.map_map]
          refine vComp_map (f := D.int) (g := fun c => fr (prt c)) hsrc (fun c _ => own_imm (v_imm (d := fr (prt c)) ?_) rfl) (by omega)
          show fCall (fn S__law_part) _ [some (D.int c)] = _
          simp only [retOf, sNil, sThen, sSeq, sRet, sDrop, sSet, sIf, sPar, sUn2, sFor, asL, gSet, forD, fVar, fC, f2, f1, fT, asB, fNotT, fAndT, fOrT, fAndV, fOrV, gNot, gNeg, faNil, faCons, fTup, fLst, fCall, gAbs, gInt, gLen_t2, gLen_seq, gIx_t0, gIx_t1, gI0, gAdd_int, gNe_int, gEq_int, gEq_bl, gEq_tup2, gNe_tup2, gIsi_same, Dl.isInt, Dl.isBool, Dl.isTup, Option.bind_some, Option.map_some, List.map_cons, List.map_nil, List.length_cons, List.length_nil, List.getElem?_cons_zero, List.getElem?_cons_succ, List.set_cons_zero, List.set_cons_succ, List.cons_append, List.nil_append, List.append_nil, Bool.not_true, Bool.not_false, beq_self_eq_true, bdD_none, bdD_some, gIsN, isNon, sSetM, sRetM, sDropM, vI, vName, vShare, vWalk, vNil, vCons, vLst, vTup, vCall, sh_bd, e__law_part]
      · refine ⟨qs1, hq1, hf1, st_ifF ?_ rfl⟩
        simp only [retOf, sNil, sThen, sSeq, sRet, sDrop, sSet, sIf, sPar, sUn2, sFor, asL, gSet, forD, fVar, fC, f2, f1, fT, asB, fNotT, fAndT, fOrT, fAndV, fOrV, gNot, gNeg, faNil, faCons, fTup, fLst, fCall, gAbs, gInt, gLen_t2, gLen_seq, gIx_t0, gIx_t1, gI0, gAdd_int, gNe_int, gEq_int, gEq_bl, gEq_tup2, gNe_tup2, gIsi_same, Dl.isInt, Dl.isBool, Dl.isTup, Option.bind_some, Option.map_some, List.map_cons, List.map_nil, List.length_cons, List.length_nil, List.getElem?_cons_zero, List.getElem?_cons_succ, List.set_cons_zero, List.set_cons_succ, List.cons_append, List.nil_append, List.append_nil, Bool.not_true, Bool.not_false, beq_self_eq_true, bdD_none, bdD_some, gIsN, isNon, sSetM, sRetM, sDropM, vI, vName, vShare, vWalk, vNil, vCons, vLst, vTup, vCall, sh_bd, a7, gGt, gLt, gI_pos (C := fun _ j => 0 < j) (i := c7) (j := 3) (by decide), decide_eq_false q]
    obtain ⟨qs2, hq2, hf2, st2⟩ := part2
    have part3 : ∃ qs : List (Int × Int), qs.length = ps.length ∧ (∀ p ∈ qs, Fr 200 p) ∧ ((sIf (fT (f2 gEqN (f2 (gI (fun _ j => 0 < j) fun i j => .int (i % j)) (fCall (fn S__law_cell_at) (faCons (fVar 0) (faCons (fC (.int 7)) faNil))) (fC (.int 3))) (fC (.int 2)))) (sSetM 1 (vComp (srcR (faCons (fCall gLen (faCons (fVar 5) faNil)) faNil)) [5, 1] (vI (f2 gIx (fLst (faCons (f2 gIx (fVar 1) (fVar 0)) (faCons (f2 gIx (fVar 2) (fVar 0)) faNil))) (f2 (gI (fun _ j => 0 < j) fun i j => .int (i % j)) (fVar 0) (fC (.int 2))))))) sNil)) [some S, some (.lst (qs2.map fr)), none, none, some (ownD T), some (.lst (ps.map fr)), none, none, none] = some (.nx [some S, some (.lst (qs.map fr)), none, none, some (ownD T), some (.lst (ps.map fr)), none, none, none]) := by
      by_cases q : c7 % 3 = 2
      · have q1 : (c7 % 3 == 2) = true := by simp [q]
        refine ⟨(List.range ps.length).map fun (i : Nat) => if i % 2 = 0 then ps.getD i (0, 1) else qs2.getD i (0, 1), by rw [List.length_map, List.length_range], fun p m => ?_, st_ifT ?_ (st_setS (d := .lst (((List.range ps.length).map fun (i : Nat) => if i % 2 = 0 then ps.getD i (0, 1) else qs2.getD i (0, 1)).map fr)) ?_)⟩
        · obtain ⟨i, _, rfl⟩ := List.mem_map.mp m
          split
          · exact getD_fr (by decide) hpf i
          · exact getD_fr (by decide) hf2 i
        · simp only [retOf, sNil, sThen, sSeq, sRet, sDrop, sSet, sIf, sPar, sUn2, sFor, asL, gSet, forD, fVar, fC, f2, f1, fT, asB, fNotT, fAndT, fOrT, fAndV, fOrV, gNot, gNeg, faNil, faCons, fTup, fLst, fCall, gAbs, gInt, gLen_t2, gLen_seq, gIx_t0, gIx_t1, gI0, gAdd_int, gNe_int, gEq_int, gEq_bl, gEq_tup2, gNe_tup2, gIsi_same, Dl.isInt, Dl.isBool, Dl.isTup, Option.bind_some, Option.map_some, List.map_cons, List.map_nil, List.length_cons, List.length_nil, List.getElem?_cons_zero, List.getElem?_cons_succ, List.set_cons_zero, List.set_cons_succ, List.cons_append, List.nil_append, List.append_nil, Bool.not_true, Bool.not_false, beq_self_eq_true, bdD_none, bdD_some, gIsN, isNon, sSetM, sRetM, sDropM, vI, vName, vShare, vWalk, vNil, vCons, vLst, vTup, vCall, sh_bd, a7, gEqN_int, gI_pos (C := fun _ j => 0 < j) (i := c7) (j := 3) (by decide), q1]
        · rw [List.map_map]
          refine vComp_map (f := fun (i : Nat) => D.int (i : Int)) (g := fun (i : Nat) => fr (if i % 2 = 0 then ps.getD i (0, 1) else qs2.getD i (0, 1))) ?_ (fun i hi => own_imm (v_imm (d := fr (if i % 2 = 0 then ps.getD i (0, 1) else qs2.getD i (0, 1))) ?_) rfl) (by rw [List.length_range]; omega)
          · refine src_r (ds := [.int (ps.length : Int)]) (by simp only [retOf, sNil, sThen, sSeq, sRet, sDrop, sSet, sIf, sPar, sUn2, sFor, asL, gSet, forD, fVar, fC, f2, f1, fT, asB, fNotT, fAndT, fOrT, fAndV, fOrV, gNot, gNeg, faNil, faCons, fTup, fLst, fCall, gAbs, gInt, gLen_t2, gLen_seq, gIx_t0, gIx_t1, gI0, gAdd_int, gNe_int, gEq_int, gEq_bl, gEq_tup2, gNe_tup2, gIsi_same, Dl.isInt, Dl.isBool, Dl.isTup, Option.bind_some, Option.map_some, List.map_cons, List.map_nil, List.length_cons, List.length_nil, List.getElem?_cons_zero, List.getElem?_cons_succ, List.set_cons_zero, List.set_cons_succ, List.cons_append, List.nil_append, List.append_nil, Bool.not_true, Bool.not_false, beq_self_eq_true, bdD_none, bdD_some, gIsN, isNon, sSetM, sRetM, sDropM, vI, vName, vShare, vWalk, vNil, vCons, vLst, vTup, vCall, sh_bd, len]) ?_
            rw [asR_b (by omega) (by omega), rangeD_0]
          · have hi := List.mem_range.mp hi
            have i1 := (ix_pts (ps := ps) hi).1
            have i2 := (ix_pts (ps := qs2) (show i < qs2.length by omega)).1
            have shQ : sh (.lst (qs2.map fr)) = .seq (qs2.map fr) := by rw [sh, shs_frs]
            show f2 gIx _ _ [some (D.int (i : Int)), some (sh (.lst (ps.map fr))), some (sh (.lst (qs2.map fr)))] = _
            rw [shP, shQ]
            rcases (show i % 2 = 0 ∨ i % 2 = 1 by omega) with z | z
            · have z1 : ((i : Int) % 2) = 0 := by omega
              have ix : ∀ x y : D, gIx (.lst [x, y]) (.int 0) = some x := fun _ _ => rfl
              simp only [retOf, sNil, sThen, sSeq, sRet, sDrop, sSet, sIf, sPar, sUn2, sFor, asL, gSet, forD, fVar, fC, f2, f1, fT, asB, fNotT, fAndT, fOrT, fAndV, fOrV, gNot, gNeg, faNil, faCons, fTup, fLst, fCall, gAbs, gInt, gLen_t2, gLen_seq, gIx_t0, gIx_t1, gI0, gAdd_int, gNe_int, gEq_int, gEq_bl, gEq_tup2, gNe_tup2, gIsi_same, Dl.isInt, Dl.isBool, Dl.isTup, Option.bind_some, Option.map_some, List.map_cons, List.map_nil, List.length_cons, List.length_nil, List.getElem?_cons_zero, List.getElem?_cons_succ, List.set_cons_zero, List.set_cons_succ, List.cons_append, List.nil_append, List.append_nil, Bool.not_true, Bool.not_false, beq_self_eq_true, bdD_none, bdD_some, gIsN, isNon, sSetM, sRetM, sDropM, vI, vName, vShare, vWalk, vNil, vCons, vLst, vTup, vCall, sh_bd, i1, i2, gI_pos (C := fun _ j => 0 < j) (i := (i : Int)) (j := 2) (by decide), z1, ix, if_pos z]
            · have z1 : ((i : Int) % 2) = 1 := by omega
              have ix : ∀ x y : D, gIx (.lst [x, y]) (.int 1) = some y := fun _ _ => rfl
              simp only [retOf, sNil, sThen, sSeq, sRet, sDrop, sSet, sIf, sPar, sUn2, sFor, asL, gSet, forD, fVar, fC, f2, f1, fT, asB, fNotT, fAndT, fOrT, fAndV, fOrV, gNot, gNeg, faNil, faCons, fTup, fLst, fCall, gAbs, gInt, gLen_t2, gLen_seq, gIx_t0, gIx_t1, gI0, gAdd_int, gNe_int, gEq_int, gEq_bl, gEq_tup2, gNe_tup2, gIsi_same, Dl.isInt, Dl.isBool, Dl.isTup, Option.bind_some, Option.map_some, List.map_cons, List.map_nil, List.length_cons, List.length_nil, List.getElem?_cons_zero, List.getElem?_cons_succ, List.set_cons_zero, List.set_cons_succ, List.cons_append, List.nil_append, List.append_nil, Bool.not_true, Bool.not_false, beq_self_eq_true, bdD_none, bdD_some, gIsN, isNon, sSetM, sRetM, sDropM, vI, vName, vShare, vWalk, vNil, vCons, vLst, vTup, vCall, sh_bd, i1, i2, gI_pos (C := fun _ j => 0 < j) (i := (i : Int)) (j := 2) (by decide), z1, ix, if_neg (show ¬ i % 2 = 0 by omega)]
      · have q1 : (c7 % 3 == 2) = false := by simp [q]
        refine ⟨qs2, hq2, hf2, st_ifF ?_ rfl⟩
        simp only [retOf, sNil, sThen, sSeq, sRet, sDrop, sSet, sIf, sPar, sUn2, sFor, asL, gSet, forD, fVar, fC, f2, f1, fT, asB, fNotT, fAndT, fOrT, fAndV, fOrV, gNot, gNeg, faNil, faCons, fTup, fLst, fCall, gAbs, gInt, gLen_t2, gLen_seq, gIx_t0, gIx_t1, gI0, gAdd_int, gNe_int, gEq_int, gEq_bl, gEq_tup2, gNe_tup2, gIsi_same, Dl.isInt, Dl.isBool, Dl.isTup, Option.bind_some, Option.map_some, List.map_cons, List.map_nil, List.length_cons, List.length_nil, List.getElem?_cons_zero, List.getElem?_cons_succ, List.set_cons_zero, List.set_cons_succ, List.cons_append, List.nil_append, List.append_nil, Bool.not_true, Bool.not_false, beq_self_eq_true, bdD_none, bdD_some, gIsN, isNon, sSetM, sRetM, sDropM, vI, vName, vShare, vWalk, vNil, vCons, vLst, vTup, vCall, sh_bd, a7, gEqN_int, gI_pos (C := fun _ j => 0 < j) (i := c7) (j := 3) (by decide), q1]
    obtain ⟨qs, hq, hqf, st3⟩ := part3
    clear hq1 hf1 hq2 hf2
    have shQ : sh (.lst (qs.map fr)) = .seq (qs.map fr) := by rw [sh, shs_frs]
    have tw : gNeN (.lst [.lst (ps.map fr), .lst (qs.map fr)]) (.lst [.lst (ps.map fr), .lst (qs.map fr)]) = some (.bl false) := ne_two ps qs
    have lop : vListOf (faCons (fVar 5) faNil) [some S, some (.lst (qs.map fr)), none, none, some (ownD T), some (.lst (ps.map fr)), none, none, none] = some (.lst (ps.map fr), [some S, some (.lst (qs.map fr)), none, none, some (ownD T), some (.lst (ps.map fr)), none, none, none]) := if_pos (imms_frs ps)
    have loq : vListOf (faCons (fVar 1) faNil) [some S, some (.lst (qs.map fr)), none, none, some (ownD T), some (.lst (ps.map fr)), none, none, none] = some (.lst (qs.map fr), [some S, some (.lst (qs.map fr)), none, none, some (ownD T), some (.lst (ps.map fr)), none, none, none]) := if_pos (imms_frs qs)
    have a2 := ca 2 (by decide)
    have a3 := ca 3 (by decide)
    have d5 : CDivB (cell ns 3) 5 := ⟨by decide, bd_sm⟩
    have hpq : ps.length = qs.length := hq.symm
    have step : ∀ (c : Int) (o3 o6 o7 o8 : Option D), ∃ δ', ((sSeq (sSetM 6 (vI (fCall (fn S__law_e) (faCons (fVar 3) faNil)))) (sSeq (sSetM 7 (vCall (fn S_mixed) (faCons (fVar 5) (faCons (fVar 1) (faCons (fVar 6) faNil))))) (sSeq (sIf (fOrT (fNotT (fT (fCall (fn S__law_is_point) (faCons (fVar 7) (faCons (fCall gLen (faCons (fVar 5) faNil)) faNil))))) (fT (f2 gNeN (fVar 7) (fCall (fn S__law_due) (faCons (fVar 5) (faCons (fVar 1) (faCons (fVar 6) faNil))))))) (sRetM (vI (fC (.bl false)))) sNil) (sSeq (sSetM 8 (vI (fCall (fn S__law_lowest) (faCons (f2 (gI0 fun i j => .int (i - j)) (f2 gIx (fVar 6) (fC (.int 1))) (f2 gIx (fVar 6) (fC (.int 0)))) (faCons (f2 gIx (fVar 6) (fC (.int 1))) faNil))))) (sSeq (sIf (fOrT (fT (f2 gNeN (fCall (fn S_mixed) (faCons (fVar 1) (faCons (fVar 5) (faCons (fVar 8) faNil)))) (fVar 7))) (fT (f2 gNeN (fLst (faCons (fVar 5) (faCons (fVar 1) faNil))) (fVar 2)))) (sRetM (vI (fC (.bl false)))) sNil) (sIf (fAndT (fT (fCall (fn S__law_lies) (faCons (fVar 4) (faCons (fVar 5) faNil)))) (fAndT (fT (fCall (fn S__law_lies) (faCons (fVar 4) (faCons (fVar 1) faNil)))) (fNotT (fT (fCall (fn S__law_lies) (faCons (fVar 4) (faCons (fVar 7) faNil))))))) (sRetM (vI (fC (.bl false)))) sNil))))))) [some S, some (.lst (qs.map fr)), some (.lst [.lst (ps.map fr), .lst (qs.map fr)]), some (.int c), some (ownD T), some (.lst (ps.map fr)), o6, o7, o8] = some (.nx δ') ∧ ∃ (o3 o6 o7 o8 : Option D), δ' = [some S, some (.lst (qs.map fr)), some (.lst [.lst (ps.map fr), .lst (qs.map fr)]), o3, some (ownD T), some (.lst (ps.map fr)), o6, o7, o8] := by
      intro c o3 o6 o7 o8
      have fe := eF_fr c
      obtain ⟨h0, h1⟩ := eF_in c
      have hm := e_mixed (isP_lst ps) (isP_lst qs) fe hpf hqf hpq (by omega)
      have hd := e__law_due (isP_lst ps) (isP_lst qs) fe hpf hqf hpq (by omega)
      have hr := e_mixed (isP_lst qs) (isP_lst ps) (rest_fr fe h0 h1) hqf hpf hq (by omega)
      rw [dues_swap hpq fe hpf hqf] at hr
      have hdf := dues_fr fe hpf hqf
      have hip := e__law_is_point (isP_lst (dues (eF c) ps qs)) fun p m => (hdf p m).mono (by decide)
      rw [dues_len] at hip
      have l1 := e_lies_in (isT_own T) hs (by omega) hb (isP_lst ps) hpf
      have l2 := e_lies_in (isT_own T) (by rw [hq]; exact hs) (by omega) hb (isP_lst qs) hqf
      have l3 := e_lies_in (isT_own T) (by rw [dues_len]; exact hs) (by rw [dues_len]; omega) hb (isP_lst (dues (eF c) ps qs)) hdf
      have nd := ne_frs (dues (eF c) ps qs)
      have eq : eF c = ((eF c).1, (eF c).2) := rfl
      have ll := e__law_lowest (t := (eF c).2 - (eF c).1) (b := (eF c).2) fe.pos (bd_of fe.s2)
      refine ⟨_, st_seq (st_set (v_imm (d := fr (eF c)) (by simp only [retOf, sNil, sThen, sSeq, sRet, sDrop, sSet, sIf, sPar, sUn2, sFor, asL, gSet, forD, fVar, fC, f2, f1, fT, asB, fNotT, fAndT, fOrT, fAndV, fOrV, gNot, gNeg, faNil, faCons, fTup, fLst, fCall, gAbs, gInt, gLen_t2, gLen_seq, gIx_t0, gIx_t1, gI0, gAdd_int, gNe_int, gEq_int, gEq_bl, gEq_tup2, gNe_tup2, gIsi_same, Dl.isInt, Dl.isBool, Dl.isTup, Option.bind_some, Option.map_some, List.map_cons, List.map_nil, List.length_cons, List.length_nil, List.getElem?_cons_zero, List.getElem?_cons_succ, List.set_cons_zero, List.set_cons_succ, List.cons_append, List.nil_append, List.append_nil, Bool.not_true, Bool.not_false, beq_self_eq_true, bdD_none, bdD_some, gIsN, isNon, sSetM, sRetM, sDropM, vI, vName, vShare, vWalk, vNil, vCons, vLst, vTup, vCall, sh_bd, e__law_e]))) (st_seq (st_set (v_call (ds := [.lst (ps.map fr), .lst (qs.map fr), fr (eF c)]) rfl hm (by rw [own]; exact owns_frs _))) (st_seq (st_ifF (by simp only [retOf, sNil, sThen, sSeq, sRet, sDrop, sSet, sIf, sPar, sUn2, sFor, asL, gSet, forD, fVar, fC, f2, f1, fT, asB, fNotT, fAndT, fOrT, fAndV, fOrV, gNot, gNeg, faNil, faCons, fTup, fLst, fCall, gAbs, gInt, gLen_t2, gLen_seq, gIx_t0, gIx_t1, gI0, gAdd_int, gNe_int, gEq_int, gEq_bl, gEq_tup2, gNe_tup2, gIsi_same, Dl.isInt, Dl.isBool, Dl.isTup, Option.bind_some, Option.map_some, List.map_cons, List.map_nil, List.length_cons, List.length_nil, List.getElem?_cons_zero, List.getElem?_cons_succ, List.set_cons_zero, List.set_cons_succ, List.cons_append, List.nil_append, List.append_nil, Bool.not_true, Bool.not_false, beq_self_eq_true, bdD_none, bdD_some, gIsN, isNon, sSetM, sRetM, sDropM, vI, vName, vShare, vWalk, vNil, vCons, vLst, vTup, vCall, sh_bd, len, hip, hd, nd]) rfl) (st_seq (st_set (v_imm (d := fr (rd ((eF c).2 - (eF c).1) (eF c).2)) (by simp only [retOf, sNil, sThen, sSeq, sRet, sDrop, sSet, sIf, sPar, sUn2, sFor, asL, gSet, forD, fVar, fC, f2, f1, fT, asB, fNotT, fAndT, fOrT, fAndV, fOrV, gNot, gNeg, faNil, faCons, fTup, fLst, fCall, gAbs, gInt, gLen_t2, gLen_seq, gIx_t0, gIx_t1, gI0, gAdd_int, gNe_int, gEq_int, gEq_bl, gEq_tup2, gNe_tup2, gIsi_same, Dl.isInt, Dl.isBool, Dl.isTup, Option.bind_some, Option.map_some, List.map_cons, List.map_nil, List.length_cons, List.length_nil, List.getElem?_cons_zero, List.getElem?_cons_succ, List.set_cons_zero, List.set_cons_succ, List.cons_append, List.nil_append, List.append_nil, Bool.not_true, Bool.not_false, beq_self_eq_true, bdD_none, bdD_some, gIsN, isNon, sSetM, sRetM, sDropM, vI, vName, vShare, vWalk, vNil, vCons, vLst, vTup, vCall, sh_bd, gIx_t0, gIx_t1, gI0, ll]))) (st_seq (st_ifF (by simp only [retOf, sNil, sThen, sSeq, sRet, sDrop, sSet, sIf, sPar, sUn2, sFor, asL, gSet, forD, fVar, fC, f2, f1, fT, asB, fNotT, fAndT, fOrT, fAndV, fOrV, gNot, gNeg, faNil, faCons, fTup, fLst, fCall, gAbs, gInt, gLen_t2, gLen_seq, gIx_t0, gIx_t1, gI0, gAdd_int, gNe_int, gEq_int, gEq_bl, gEq_tup2, gNe_tup2, gIsi_same, Dl.isInt, Dl.isBool, Dl.isTup, Option.bind_some, Option.map_some, List.map_cons, List.map_nil, List.length_cons, List.length_nil, List.getElem?_cons_zero, List.getElem?_cons_succ, List.set_cons_zero, List.set_cons_succ, List.cons_append, List.nil_append, List.append_nil, Bool.not_true, Bool.not_false, beq_self_eq_true, bdD_none, bdD_some, gIsN, isNon, sSetM, sRetM, sDropM, vI, vName, vShare, vWalk, vNil, vCons, vLst, vTup, vCall, sh_bd, hr, nd, tw]) rfl) (st_ifF ?_ rfl))))), _, _, _, _, rfl⟩
      have mid := lies_mid (T := T) fe h0 h1 hpq hpf hqf
      cases q1 : lies T ps with
      | false => simp only [retOf, sNil, sThen, sSeq, sRet, sDrop, sSet, sIf, sPar, sUn2, sFor, asL, gSet, forD, fVar, fC, f2, f1, fT, asB, fNotT, fAndT, fOrT, fAndV, fOrV, gNot, gNeg, faNil, faCons, fTup, fLst, fCall, gAbs, gInt, gLen_t2, gLen_seq, gIx_t0, gIx_t1, gI0, gAdd_int, gNe_int, gEq_int, gEq_bl, gEq_tup2, gNe_tup2, gIsi_same, Dl.isInt, Dl.isBool, Dl.isTup, Option.bind_some, Option.map_some, List.map_cons, List.map_nil, List.length_cons, List.length_nil, List.getElem?_cons_zero, List.getElem?_cons_succ, List.set_cons_zero, List.set_cons_succ, List.cons_append, List.nil_append, List.append_nil, Bool.not_true, Bool.not_false, beq_self_eq_true, bdD_none, bdD_some, gIsN, isNon, sSetM, sRetM, sDropM, vI, vName, vShare, vWalk, vNil, vCons, vLst, vTup, vCall, sh_bd, l1, q1]
      | true =>
        cases q2 : lies T qs with
        | false => simp only [retOf, sNil, sThen, sSeq, sRet, sDrop, sSet, sIf, sPar, sUn2, sFor, asL, gSet, forD, fVar, fC, f2, f1, fT, asB, fNotT, fAndT, fOrT, fAndV, fOrV, gNot, gNeg, faNil, faCons, fTup, fLst, fCall, gAbs, gInt, gLen_t2, gLen_seq, gIx_t0, gIx_t1, gI0, gAdd_int, gNe_int, gEq_int, gEq_bl, gEq_tup2, gNe_tup2, gIsi_same, Dl.isInt, Dl.isBool, Dl.isTup, Option.bind_some, Option.map_some, List.map_cons, List.map_nil, List.length_cons, List.length_nil, List.getElem?_cons_zero, List.getElem?_cons_succ, List.set_cons_zero, List.set_cons_succ, List.cons_append, List.nil_append, List.append_nil, Bool.not_true, Bool.not_false, beq_self_eq_true, bdD_none, bdD_some, gIsN, isNon, sSetM, sRetM, sDropM, vI, vName, vShare, vWalk, vNil, vCons, vLst, vTup, vCall, sh_bd, l1, l2, q1, q2]
        | true => simp only [retOf, sNil, sThen, sSeq, sRet, sDrop, sSet, sIf, sPar, sUn2, sFor, asL, gSet, forD, fVar, fC, f2, f1, fT, asB, fNotT, fAndT, fOrT, fAndV, fOrV, gNot, gNeg, faNil, faCons, fTup, fLst, fCall, gAbs, gInt, gLen_t2, gLen_seq, gIx_t0, gIx_t1, gI0, gAdd_int, gNe_int, gEq_int, gEq_bl, gEq_tup2, gNe_tup2, gIsi_same, Dl.isInt, Dl.isBool, Dl.isTup, Option.bind_some, Option.map_some, List.map_cons, List.map_nil, List.length_cons, List.length_nil, List.getElem?_cons_zero, List.getElem?_cons_succ, List.set_cons_zero, List.set_cons_succ, List.cons_append, List.nil_append, List.append_nil, Bool.not_true, Bool.not_false, beq_self_eq_true, bdD_none, bdD_some, gIsN, isNon, sSetM, sRetM, sDropM, vI, vName, vShare, vWalk, vNil, vCons, vLst, vTup, vCall, sh_bd, l1, l2, l3, q1, q2, mid q1 q2]
    obtain ⟨_, w, o3, o6, o7, o8, rfl⟩ := forM_keep (i := 3) (s := ((sSeq (sSetM 6 (vI (fCall (fn S__law_e) (faCons (fVar 3) faNil)))) (sSeq (sSetM 7 (vCall (fn S_mixed) (faCons (fVar 5) (faCons (fVar 1) (faCons (fVar 6) faNil))))) (sSeq (sIf (fOrT (fNotT (fT (fCall (fn S__law_is_point) (faCons (fVar 7) (faCons (fCall gLen (faCons (fVar 5) faNil)) faNil))))) (fT (f2 gNeN (fVar 7) (fCall (fn S__law_due) (faCons (fVar 5) (faCons (fVar 1) (faCons (fVar 6) faNil))))))) (sRetM (vI (fC (.bl false)))) sNil) (sSeq (sSetM 8 (vI (fCall (fn S__law_lowest) (faCons (f2 (gI0 fun i j => .int (i - j)) (f2 gIx (fVar 6) (fC (.int 1))) (f2 gIx (fVar 6) (fC (.int 0)))) (faCons (f2 gIx (fVar 6) (fC (.int 1))) faNil))))) (sSeq (sIf (fOrT (fT (f2 gNeN (fCall (fn S_mixed) (faCons (fVar 1) (faCons (fVar 5) (faCons (fVar 8) faNil)))) (fVar 7))) (fT (f2 gNeN (fLst (faCons (fVar 5) (faCons (fVar 1) faNil))) (fVar 2)))) (sRetM (vI (fC (.bl false)))) sNil) (sIf (fAndT (fT (fCall (fn S__law_lies) (faCons (fVar 4) (faCons (fVar 5) faNil)))) (fAndT (fT (fCall (fn S__law_lies) (faCons (fVar 4) (faCons (fVar 1) faNil)))) (fNotT (fT (fCall (fn S__law_lies) (faCons (fVar 4) (faCons (fVar 7) faNil))))))) (sRetM (vI (fC (.bl false)))) sNil)))))))) (fun δ => ∃ (o3 o6 o7 o8 : Option D), δ = [some S, some (.lst (qs.map fr)), some (.lst [.lst (ps.map fr), .lst (qs.map fr)]), o3, some (ownD T), some (.lst (ps.map fr)), o6, o7, o8]) [.int (cell ns 2), .int (cell ns 3 / 5)] [some S, some (.lst (qs.map fr)), some (.lst [.lst (ps.map fr), .lst (qs.map fr)]), none, some (ownD T), some (.lst (ps.map fr)), none, none, none] ⟨_, _, _, _, rfl⟩ (by
      rintro d hd _ ⟨o3, o6, o7, o8, rfl⟩
      have : ∃ c : Int, d = .int c := by
        simp only [List.mem_cons, List.not_mem_nil, or_false] at hd
        rcases hd with rfl | rfl
        · exact ⟨_, rfl⟩
        · exact ⟨_, rfl⟩
      obtain ⟨c, rfl⟩ := this
      exact step c o3 o6 o7 o8)
    have m0 := e_mixed (isP_lst ps) (isP_lst qs) (zero_fr (k := 200) (by decide)) hpf hqf hpq (by omega)
    have m1 := e_mixed (isP_lst ps) (isP_lst qs) one_fr hpf hqf hpq (by omega)
    rw [dues_zero hpf hqf] at m0
    rw [dues_one hpq hpf hqf] at m1
    have w1 : vWalk (vLst (vCons (vI (fCall (fn S__law_cell_at) (faCons (fVar 0) (faCons (fC (.int 2)) faNil)))) (vCons (vI (f2 (gI CDivB fun i j => .int (i / j)) (fCall (fn S__law_cell_at) (faCons (fVar 0) (faCons (fC (.int 3)) faNil))) (fC (.int 5)))) vNil))) [some S, some (.lst (qs.map fr)), some (.lst [.lst (ps.map fr), .lst (qs.map fr)]), none, some (ownD T), some (.lst (ps.map fr)), none, none, none] = some ([.int (cell ns 2), .int (cell ns 3 / 5)], [some S, some (.lst (qs.map fr)), some (.lst [.lst (ps.map fr), .lst (qs.map fr)]), none, some (ownD T), some (.lst (ps.map fr)), none, none, none]) := by
      have i2 : imm (.int (cell ns 2)) = true := rfl
      have i3 : imm (.int (cell ns 3 / 5)) = true := rfl
      simp only [retOf, sNil, sThen, sSeq, sRet, sDrop, sSet, sIf, sPar, sUn2, sFor, asL, gSet, forD, fVar, fC, f2, f1, fT, asB, fNotT, fAndT, fOrT, fAndV, fOrV, gNot, gNeg, faNil, faCons, fTup, fLst, fCall, gAbs, gInt, gLen_t2, gLen_seq, gIx_t0, gIx_t1, gI0, gAdd_int, gNe_int, gEq_int, gEq_bl, gEq_tup2, gNe_tup2, gIsi_same, Dl.isInt, Dl.isBool, Dl.isTup, Option.bind_some, Option.map_some, List.map_cons, List.map_nil, List.length_cons, List.length_nil, List.getElem?_cons_zero, List.getElem?_cons_succ, List.set_cons_zero, List.set_cons_succ, List.cons_append, List.nil_append, List.append_nil, Bool.not_true, Bool.not_false, beq_self_eq_true, bdD_none, bdD_some, gIsN, isNon, sSetM, sRetM, sDropM, vI, vName, vShare, vWalk, vNil, vCons, vLst, vTup, vCall, sh_bd, a2, a3, gI_pos (C := CDivB) d5, i2, i3, if_true]
      rfl
    refine rt_of (st_seq (st_un (v_call (ds := [S]) rfl htb ho) rfl rfl) (st_seq st1 (st_seq st2 (st_seq st3 (st_seq (st_setS (d := .lst [.lst (ps.map fr), .lst (qs.map fr)]) (by
      show ((vCons _ _ _).bind _) = _
      unfold vCons vNil
      rw [lop]
      dsimp only [Option.bind_some]
      rw [loq]
      rfl)) (st_seq (st_for w1 w) (st_seq (st_appX (ds := ps.map fr) (v_call (ds := [.lst (ps.map fr), .lst (qs.map fr), fr (0, 1)]) rfl m0 (by rw [own]; exact owns_frs _)) rfl (by rw [List.length_map]; omega)) (st_seq (st_appX (ds := qs.map fr) (v_call (ds := [.lst (ps.map fr), .lst (qs.map fr), fr (1, 1)]) rfl m1 (by rw [own]; exact owns_frs _)) rfl (by rw [List.length_map]; omega)) (st_seq (st_ifF (by simp only [retOf, sNil, sThen, sSeq, sRet, sDrop, sSet, sIf, sPar, sUn2, sFor, asL, gSet, forD, fVar, fC, f2, f1, fT, asB, fNotT, fAndT, fOrT, fAndV, fOrV, gNot, gNeg, faNil, faCons, fTup, fLst, fCall, gAbs, gInt, gLen_t2, gLen_seq, gIx_t0, gIx_t1, gI0, gAdd_int, gNe_int, gEq_int, gEq_bl, gEq_tup2, gNe_tup2, gIsi_same, Dl.isInt, Dl.isBool, Dl.isTup, Option.bind_some, Option.map_some, List.map_cons, List.map_nil, List.length_cons, List.length_nil, List.getElem?_cons_zero, List.getElem?_cons_succ, List.set_cons_zero, List.set_cons_succ, List.cons_append, List.nil_append, List.append_nil, Bool.not_true, Bool.not_false, beq_self_eq_true, bdD_none, bdD_some, gIsN, isNon, sSetM, sRetM, sDropM, vI, vName, vShare, vWalk, vNil, vCons, vLst, vTup, vCall, sh_bd, tw]) rfl) (st_ret (v_imm ?_)))))))))))
    simp only [retOf, sNil, sThen, sSeq, sRet, sDrop, sSet, sIf, sPar, sUn2, sFor, asL, gSet, forD, fVar, fC, f2, f1, fT, asB, fNotT, fAndT, fOrT, fAndV, fOrV, gNot, gNeg, faNil, faCons, fTup, fLst, fCall, gAbs, gInt, gLen_t2, gLen_seq, gIx_t0, gIx_t1, gI0, gAdd_int, gNe_int, gEq_int, gEq_bl, gEq_tup2, gNe_tup2, gIsi_same, Dl.isInt, Dl.isBool, Dl.isTup, Option.bind_some, Option.map_some, List.map_cons, List.map_nil, List.length_cons, List.length_nil, List.getElem?_cons_zero, List.getElem?_cons_succ, List.set_cons_zero, List.set_cons_succ, List.cons_append, List.nil_append, List.append_nil, Bool.not_true, Bool.not_false, beq_self_eq_true, bdD_none, bdD_some, gIsN, isNon, sSetM, sRetM, sDropM, vI, vName, vShare, vWalk, vNil, vCons, vLst, vTup, vCall, sh_bd, m0, m1, eq_lst]
end
theorem all_mk {l : PySem.W.OpenLaw} {w : World} {K : PySem.W.Frag} {h : Heap} {mg : Str → Option Value} {fa : Addr} (X : K.In h) (G : h.Ns mainGlobals mg) (hfa : mg "law" = some (.ref fa)) {f0 : Addr} {od0 an0 : Option Addr} {sl0 : Array (Option Value)} {oc0 kV0 dc0 pm0 cd0 ct0 : Value} {f1 : Addr} {od1 an1 : Option Addr} {sl1 : Array (Option Value)} {oc1 kV1 dc1 pm1 cd1 ct1 : Value} {f2 : Addr} {od2 an2 : Option Addr} {sl2 : Array (Option Value)} {oc2 kV2 dc2 pm2 cd2 ct2 : Value} {f3 : Addr} {od3 an3 : Option Addr} {sl3 : Array (Option Value)} {oc3 kV3 dc3 pm3 cd3 ct3 : Value} {f4 : Addr} {od4 an4 : Option Addr} {sl4 : Array (Option Value)} {oc4 kV4 dc4 pm4 cd4 ct4 : Value} {f5 : Addr} {od5 an5 : Option Addr} {sl5 : Array (Option Value)} {oc5 kV5 dc5 pm5 cd5 ct5 : Value} {f6 : Addr} {od6 an6 : Option Addr} {sl6 : Array (Option Value)} {oc6 kV6 dc6 pm6 cd6 ct6 : Value} {f7 : Addr} {od7 an7 : Option Addr} {sl7 : Array (Option Value)} {oc7 kV7 dc7 pm7 cd7 ct7 : Value} {f8 : Addr} {od8 an8 : Option Addr} {sl8 : Array (Option Value)} {oc8 kV8 dc8 pm8 cd8 ct8 : Value} {f9 : Addr} {od9 an9 : Option Addr} {sl9 : Array (Option Value)} {oc9 kV9 dc9 pm9 cd9 ct9 : Value} {f10 : Addr} {od10 an10 : Option Addr} {sl10 : Array (Option Value)} {oc10 kV10 dc10 pm10 cd10 ct10 : Value} {f11 : Addr} {od11 an11 : Option Addr} {sl11 : Array (Option Value)} {oc11 kV11 dc11 pm11 cd11 ct11 : Value} {f12 : Addr} {od12 an12 : Option Addr} {sl12 : Array (Option Value)} {oc12 kV12 dc12 pm12 cd12 ct12 : Value} {f13 : Addr} {od13 an13 : Option Addr} {sl13 : Array (Option Value)} {oc13 kV13 dc13 pm13 cd13 ct13 : Value} {f14 : Addr} {od14 an14 : Option Addr} {sl14 : Array (Option Value)} {oc14 kV14 dc14 pm14 cd14 ct14 : Value} {f15 : Addr} {od15 an15 : Option Addr} {sl15 : Array (Option Value)} {oc15 kV15 dc15 pm15 cd15 ct15 : Value} {f16 : Addr} {od16 an16 : Option Addr} {sl16 : Array (Option Value)} {oc16 kV16 dc16 pm16 cd16 ct16 : Value} {f17 : Addr} {od17 an17 : Option Addr} {sl17 : Array (Option Value)} {oc17 kV17 dc17 pm17 cd17 ct17 : Value} {f18 : Addr} {od18 an18 : Option Addr} {sl18 : Array (Option Value)} {oc18 kV18 dc18 pm18 cd18 ct18 : Value} {f19 : Addr} {od19 an19 : Option Addr} {sl19 : Array (Option Value)} {oc19 kV19 dc19 pm19 cd19 ct19 : Value} {f20 : Addr} {od20 an20 : Option Addr} {sl20 : Array (Option Value)} {oc20 kV20 dc20 pm20 cd20 ct20 : Value} {f21 : Addr} {od21 an21 : Option Addr} {sl21 : Array (Option Value)} {oc21 kV21 dc21 pm21 cd21 ct21 : Value} {f22 : Addr} {od22 an22 : Option Addr} {sl22 : Array (Option Value)} {oc22 kV22 dc22 pm22 cd22 ct22 : Value} {f23 : Addr} {od23 an23 : Option Addr} {sl23 : Array (Option Value)} {oc23 kV23 dc23 pm23 cd23 ct23 : Value} {T2 nT2 : Nat} {oT2 : Value} {dT2 : Option Addr} {sT2 : Array (Option Value)} {tk2 : Tok} 
    (a0 : PySem.W.nsIn K mainGlobals "is_whole" = some (some (.ref f0))) (l0 : K.lookup f0 = some ⟨oc0, od0, .func (PySem.W.fnOf "is_whole" "is_whole" (defArgs s_is_whole) (defBody s_is_whole) (defScope s_is_whole) .none kV0 dc0 pm0 an0 cd0 ct0), sl0⟩) (c0 : PySem.W.codeIn K cd0 "is_whole" = true) (k0 : PySem.W.keepIn K (.ref f0) = true)
    (a1 : PySem.W.nsIn K mainGlobals "common_divisor" = some (some (.ref f1))) (l1 : K.lookup f1 = some ⟨oc1, od1, .func (PySem.W.fnOf "common_divisor" "common_divisor" (defArgs s_common_divisor) (defBody s_common_divisor) (defScope s_common_divisor) .none kV1 dc1 pm1 an1 cd1 ct1), sl1⟩) (c1 : PySem.W.codeIn K cd1 "common_divisor" = true) (k1 : PySem.W.keepIn K (.ref f1) = true)
    (a2 : PySem.W.nsIn K mainGlobals "fraction" = some (some (.ref f2))) (l2 : K.lookup f2 = some ⟨oc2, od2, .func (PySem.W.fnOf "fraction" "fraction" (defArgs s_fraction) (defBody s_fraction) (defScope s_fraction) (.ref T2) kV2 dc2 pm2 an2 cd2 ct2), sl2⟩) (t2 : K.lookup T2 = some ⟨oT2, dT2, .seq #[.int 1 tk2] nT2, sT2⟩) (c2 : PySem.W.codeIn K cd2 "fraction" = true) (k2 : PySem.W.keepIn K (.ref f2) = true)
    (a3 : PySem.W.nsIn K mainGlobals "lowest" = some (some (.ref f3))) (l3 : K.lookup f3 = some ⟨oc3, od3, .func (PySem.W.fnOf "lowest" "lowest" (defArgs s_lowest) (defBody s_lowest) (defScope s_lowest) .none kV3 dc3 pm3 an3 cd3 ct3), sl3⟩) (c3 : PySem.W.codeIn K cd3 "lowest" = true) (k3 : PySem.W.keepIn K (.ref f3) = true)
    (a4 : PySem.W.nsIn K mainGlobals "plus" = some (some (.ref f4))) (l4 : K.lookup f4 = some ⟨oc4, od4, .func (PySem.W.fnOf "plus" "plus" (defArgs s_plus) (defBody s_plus) (defScope s_plus) .none kV4 dc4 pm4 an4 cd4 ct4), sl4⟩) (c4 : PySem.W.codeIn K cd4 "plus" = true) (k4 : PySem.W.keepIn K (.ref f4) = true)
    (a5 : PySem.W.nsIn K mainGlobals "minus" = some (some (.ref f5))) (l5 : K.lookup f5 = some ⟨oc5, od5, .func (PySem.W.fnOf "minus" "minus" (defArgs s_minus) (defBody s_minus) (defScope s_minus) .none kV5 dc5 pm5 an5 cd5 ct5), sl5⟩) (c5 : PySem.W.codeIn K cd5 "minus" = true) (k5 : PySem.W.keepIn K (.ref f5) = true)
    (a6 : PySem.W.nsIn K mainGlobals "summed" = some (some (.ref f6))) (l6 : K.lookup f6 = some ⟨oc6, od6, .func (PySem.W.fnOf "summed" "summed" (defArgs s_summed) (defBody s_summed) (defScope s_summed) .none kV6 dc6 pm6 an6 cd6 ct6), sl6⟩) (c6 : PySem.W.codeIn K cd6 "summed" = true) (k6 : PySem.W.keepIn K (.ref f6) = true)
    (a7 : PySem.W.nsIn K mainGlobals "times" = some (some (.ref f7))) (l7 : K.lookup f7 = some ⟨oc7, od7, .func (PySem.W.fnOf "times" "times" (defArgs s_times) (defBody s_times) (defScope s_times) .none kV7 dc7 pm7 an7 cd7 ct7), sl7⟩) (c7 : PySem.W.codeIn K cd7 "times" = true) (k7 : PySem.W.keepIn K (.ref f7) = true)
    (a8 : PySem.W.nsIn K mainGlobals "mixed" = some (some (.ref f8))) (l8 : K.lookup f8 = some ⟨oc8, od8, .func (PySem.W.fnOf "mixed" "mixed" (defArgs s_mixed) (defBody s_mixed) (defScope s_mixed) .none kV8 dc8 pm8 an8 cd8 ct8), sl8⟩) (c8 : PySem.W.codeIn K cd8 "mixed" = true) (k8 : PySem.W.keepIn K (.ref f8) = true)
    (a9 : PySem.W.nsIn K mainGlobals "_law_cell_at" = some (some (.ref f9))) (l9 : K.lookup f9 = some ⟨oc9, od9, .func (PySem.W.fnOf "_law_cell_at" "_law_cell_at" (defArgs s__law_cell_at) (defBody s__law_cell_at) (defScope s__law_cell_at) .none kV9 dc9 pm9 an9 cd9 ct9), sl9⟩) (c9 : PySem.W.codeIn K cd9 "_law_cell_at" = true) (k9 : PySem.W.keepIn K (.ref f9) = true)
    (a10 : PySem.W.nsIn K mainGlobals "_law_mixed" = some (some (.ref f10))) (l10 : K.lookup f10 = some ⟨oc10, od10, .func (PySem.W.fnOf "_law_mixed" "_law_mixed" (defArgs s__law_mixed) (defBody s__law_mixed) (defScope s__law_mixed) .none kV10 dc10 pm10 an10 cd10 ct10), sl10⟩) (c10 : PySem.W.codeIn K cd10 "_law_mixed" = true) (k10 : PySem.W.keepIn K (.ref f10) = true)
    (a11 : PySem.W.nsIn K mainGlobals "_law_lowest" = some (some (.ref f11))) (l11 : K.lookup f11 = some ⟨oc11, od11, .func (PySem.W.fnOf "_law_lowest" "_law_lowest" (defArgs s__law_lowest) (defBody s__law_lowest) (defScope s__law_lowest) .none kV11 dc11 pm11 an11 cd11 ct11), sl11⟩) (c11 : PySem.W.codeIn K cd11 "_law_lowest" = true) (k11 : PySem.W.keepIn K (.ref f11) = true)
    (a12 : PySem.W.nsIn K mainGlobals "_law_less" = some (some (.ref f12))) (l12 : K.lookup f12 = some ⟨oc12, od12, .func (PySem.W.fnOf "_law_less" "_law_less" (defArgs s__law_less) (defBody s__law_less) (defScope s__law_less) .none kV12 dc12 pm12 an12 cd12 ct12), sl12⟩) (c12 : PySem.W.codeIn K cd12 "_law_less" = true) (k12 : PySem.W.keepIn K (.ref f12) = true)
    (a13 : PySem.W.nsIn K mainGlobals "_law_any_table" = some (some (.ref f13))) (l13 : K.lookup f13 = some ⟨oc13, od13, .func (PySem.W.fnOf "_law_any_table" "_law_any_table" (defArgs s__law_any_table) (defBody s__law_any_table) (defScope s__law_any_table) .none kV13 dc13 pm13 an13 cd13 ct13), sl13⟩) (c13 : PySem.W.codeIn K cd13 "_law_any_table" = true) (k13 : PySem.W.keepIn K (.ref f13) = true)
    (a14 : PySem.W.nsIn K mainGlobals "_law_part" = some (some (.ref f14))) (l14 : K.lookup f14 = some ⟨oc14, od14, .func (PySem.W.fnOf "_law_part" "_law_part" (defArgs s__law_part) (defBody s__law_part) (defScope s__law_part) .none kV14 dc14 pm14 an14 cd14 ct14), sl14⟩) (c14 : PySem.W.codeIn K cd14 "_law_part" = true) (k14 : PySem.W.keepIn K (.ref f14) = true)
    (a15 : PySem.W.nsIn K mainGlobals "_law_planted" = some (some (.ref f15))) (l15 : K.lookup f15 = some ⟨oc15, od15, .func (PySem.W.fnOf "_law_planted" "_law_planted" (defArgs s__law_planted) (defBody s__law_planted) (defScope s__law_planted) .none kV15 dc15 pm15 an15 cd15 ct15), sl15⟩) (c15 : PySem.W.codeIn K cd15 "_law_planted" = true) (k15 : PySem.W.keepIn K (.ref f15) = true)
    (a16 : PySem.W.nsIn K mainGlobals "_law_table_by" = some (some (.ref f16))) (l16 : K.lookup f16 = some ⟨oc16, od16, .func (PySem.W.fnOf "_law_table_by" "_law_table_by" (defArgs s__law_table_by) (defBody s__law_table_by) (defScope s__law_table_by) .none kV16 dc16 pm16 an16 cd16 ct16), sl16⟩) (c16 : PySem.W.codeIn K cd16 "_law_table_by" = true) (k16 : PySem.W.keepIn K (.ref f16) = true)
    (a17 : PySem.W.nsIn K mainGlobals "_law_whole" = some (some (.ref f17))) (l17 : K.lookup f17 = some ⟨oc17, od17, .func (PySem.W.fnOf "_law_whole" "_law_whole" (defArgs s__law_whole) (defBody s__law_whole) (defScope s__law_whole) .none kV17 dc17 pm17 an17 cd17 ct17), sl17⟩) (c17 : PySem.W.codeIn K cd17 "_law_whole" = true) (k17 : PySem.W.keepIn K (.ref f17) = true)
    (a18 : PySem.W.nsIn K mainGlobals "_law_keeps" = some (some (.ref f18))) (l18 : K.lookup f18 = some ⟨oc18, od18, .func (PySem.W.fnOf "_law_keeps" "_law_keeps" (defArgs s__law_keeps) (defBody s__law_keeps) (defScope s__law_keeps) .none kV18 dc18 pm18 an18 cd18 ct18), sl18⟩) (c18 : PySem.W.codeIn K cd18 "_law_keeps" = true) (k18 : PySem.W.keepIn K (.ref f18) = true)
    (a19 : PySem.W.nsIn K mainGlobals "_law_lies" = some (some (.ref f19))) (l19 : K.lookup f19 = some ⟨oc19, od19, .func (PySem.W.fnOf "_law_lies" "_law_lies" (defArgs s__law_lies) (defBody s__law_lies) (defScope s__law_lies) .none kV19 dc19 pm19 an19 cd19 ct19), sl19⟩) (c19 : PySem.W.codeIn K cd19 "_law_lies" = true) (k19 : PySem.W.keepIn K (.ref f19) = true)
    (a20 : PySem.W.nsIn K mainGlobals "_law_is_point" = some (some (.ref f20))) (l20 : K.lookup f20 = some ⟨oc20, od20, .func (PySem.W.fnOf "_law_is_point" "_law_is_point" (defArgs s__law_is_point) (defBody s__law_is_point) (defScope s__law_is_point) .none kV20 dc20 pm20 an20 cd20 ct20), sl20⟩) (c20 : PySem.W.codeIn K cd20 "_law_is_point" = true) (k20 : PySem.W.keepIn K (.ref f20) = true)
    (a21 : PySem.W.nsIn K mainGlobals "_law_e" = some (some (.ref f21))) (l21 : K.lookup f21 = some ⟨oc21, od21, .func (PySem.W.fnOf "_law_e" "_law_e" (defArgs s__law_e) (defBody s__law_e) (defScope s__law_e) .none kV21 dc21 pm21 an21 cd21 ct21), sl21⟩) (c21 : PySem.W.codeIn K cd21 "_law_e" = true) (k21 : PySem.W.keepIn K (.ref f21) = true)
    (a22 : PySem.W.nsIn K mainGlobals "_law_due" = some (some (.ref f22))) (l22 : K.lookup f22 = some ⟨oc22, od22, .func (PySem.W.fnOf "_law_due" "_law_due" (defArgs s__law_due) (defBody s__law_due) (defScope s__law_due) .none kV22 dc22 pm22 an22 cd22 ct22), sl22⟩) (c22 : PySem.W.codeIn K cd22 "_law_due" = true) (k22 : PySem.W.keepIn K (.ref f22) = true)
    (a23 : PySem.W.nsIn K mainGlobals "law" = some (some (.ref f23))) (l23 : K.lookup f23 = some ⟨oc23, od23, .func (PySem.W.fnOf "law" "law" (defArgs s_law) (defBody s_law) (defScope s_law) .none kV23 dc23 pm23 an23 cd23 ct23), sl23⟩) (c23 : PySem.W.codeIn K cd23 "law" = true) (k23 : PySem.W.keepIn K (.ref f23) = true)
    (z_isinstance : PySem.W.nsIn K mainGlobals "isinstance" = some none) (z_int : PySem.W.nsIn K mainGlobals "int" = some none) (z_bool : PySem.W.nsIn K mainGlobals "bool" = some none) (z_zip : PySem.W.nsIn K mainGlobals "zip" = some none) (z_len : PySem.W.nsIn K mainGlobals "len" = some none) (z_abs : PySem.W.nsIn K mainGlobals "abs" = some none) (z_range : PySem.W.nsIn K mainGlobals "range" = some none) (z_list : PySem.W.nsIn K mainGlobals "list" = some none) (z_tuple : PySem.W.nsIn K mainGlobals "tuple" = some none) (z_all : PySem.W.nsIn K mainGlobals "all" = some none) :
    ∃ fd : FuncData, (∀ (s : Shared) (v : Value), BindsTo s fd ⟨[v], []⟩ [("_law_script", v)]) ∧ ∀ base : Heap, K.In base → base.Ns mainGlobals mg → FnOk l.prog w K mg base CX0 5 fa fd ["_law_script"] (spLaw K) := by
  have e := hfa.symm.trans (PySem.W.mg_of X G a23)
  cases e
  have m_isinstance := PySem.W.mg_none_of X G z_isinstance
  have m_int := PySem.W.mg_none_of X G z_int
  have m_bool := PySem.W.mg_none_of X G z_bool
  have m_zip := PySem.W.mg_none_of X G z_zip
  have m_len := PySem.W.mg_none_of X G z_len
  have m_abs := PySem.W.mg_none_of X G z_abs
  have m_range := PySem.W.mg_none_of X G z_range
  have m_list := PySem.W.mg_none_of X G z_list
  have m_tuple := PySem.W.mg_none_of X G z_tuple
  have m_all := PySem.W.mg_none_of X G z_all
  have F0 := fun_mk (st := s_is_whole) l0 c0 k0
  have b0 := F0.binds (ps := ["thing"]) fun _ _ _ _ _ _ us hl => match us, hl with | [_], _ => rfl
  have F1 := fun_mk (st := s_common_divisor) l1 c1 k1
  have b1 := F1.binds (ps := ["number", "above_nought"]) fun _ _ _ _ _ _ us hl => match us, hl with | [_, _], _ => rfl
  have F2 := fun_mkD (st := s_fraction) l2 c2 k2
  have b2 := F2.binds (ps := ["top", "bottom"]) (ds := []) t2 rfl fun _ _ _ _ _ _ us hl => match us, hl with | [_, _], _ => ⟨_, rfl, rfl⟩
  have e2 := F2.binds (ps := ["top", "bottom"]) (ds := [.int 1 tk2]) t2 rfl fun _ _ _ _ _ _ us hl => by
    have h1 : us.length = 1 := by simpa using hl
    match us, h1 with
    | [_], _ => exact ⟨_, rfl, rfl⟩
  have F3 := fun_mk (st := s_lowest) l3 c3 k3
  have b3 := F3.binds (ps := ["top", "bottom"]) fun _ _ _ _ _ _ us hl => match us, hl with | [_, _], _ => rfl
  have F4 := fun_mk (st := s_plus) l4 c4 k4
  have b4 := F4.binds (ps := ["one", "other"]) fun _ _ _ _ _ _ us hl => match us, hl with | [_, _], _ => rfl
  have F5 := fun_mk (st := s_minus) l5 c5 k5
  have b5 := F5.binds (ps := ["one", "other"]) fun _ _ _ _ _ _ us hl => match us, hl with | [_, _], _ => rfl
  have F6 := fun_mk (st := s_summed) l6 c6 k6
  have b6 := F6.binds (ps := ["one", "top", "bottom"]) fun _ _ _ _ _ _ us hl => match us, hl with | [_, _, _], _ => rfl
  have F7 := fun_mk (st := s_times) l7 c7 k7
  have b7 := F7.binds (ps := ["one", "other"]) fun _ _ _ _ _ _ us hl => match us, hl with | [_, _], _ => rfl
  have F8 := fun_mk (st := s_mixed) l8 c8 k8
  have b8 := F8.binds (ps := ["one", "other", "e"]) fun _ _ _ _ _ _ us hl => match us, hl with | [_, _, _], _ => rfl
  have F9 := fun_mk (st := s__law_cell_at) l9 c9 k9
  have b9 := F9.binds (ps := ["_law_script", "_law_k"]) fun _ _ _ _ _ _ us hl => match us, hl with | [_, _], _ => rfl
  have F10 := fun_mk (st := s__law_mixed) l10 c10 k10
  have b10 := F10.binds (ps := ["_law_cell", "_law_k"]) fun _ _ _ _ _ _ us hl => match us, hl with | [_, _], _ => rfl
  have F11 := fun_mk (st := s__law_lowest) l11 c11 k11
  have b11 := F11.binds (ps := ["_law_top", "_law_bottom"]) fun _ _ _ _ _ _ us hl => match us, hl with | [_, _], _ => rfl
  have F12 := fun_mk (st := s__law_less) l12 c12 k12
  have b12 := F12.binds (ps := ["_law_one", "_law_other"]) fun _ _ _ _ _ _ us hl => match us, hl with | [_, _], _ => rfl
  have F13 := fun_mk (st := s__law_any_table) l13 c13 k13
  have b13 := F13.binds (ps := ["_law_seed", "_law_k", "_law_most"]) fun _ _ _ _ _ _ us hl => match us, hl with | [_, _, _], _ => rfl
  have F14 := fun_mk (st := s__law_part) l14 c14 k14
  have b14 := F14.binds (ps := ["_law_cell"]) fun _ _ _ _ _ _ us hl => match us, hl with | [_], _ => rfl
  have F15 := fun_mk (st := s__law_planted) l15 c15 k15
  have b15 := F15.binds (ps := ["_law_script", "_law_point"]) fun _ _ _ _ _ _ us hl => match us, hl with | [_, _], _ => rfl
  have F16 := fun_mk (st := s__law_table_by) l16 c16 k16
  have b16 := F16.binds (ps := ["_law_script"]) fun _ _ _ _ _ _ us hl => match us, hl with | [_], _ => rfl
  have F17 := fun_mk (st := s__law_whole) l17 c17 k17
  have b17 := F17.binds (ps := ["_law_found"]) fun _ _ _ _ _ _ us hl => match us, hl with | [_], _ => rfl
  have F18 := fun_mk (st := s__law_keeps) l18 c18 k18
  have b18 := F18.binds (ps := ["_law_part_here", "_law_bound"]) fun _ _ _ _ _ _ us hl => match us, hl with | [_, _], _ => rfl
  have F19 := fun_mk (st := s__law_lies) l19 c19 k19
  have b19 := F19.binds (ps := ["_law_table", "_law_point"]) fun _ _ _ _ _ _ us hl => match us, hl with | [_, _], _ => rfl
  have F20 := fun_mk (st := s__law_is_point) l20 c20 k20
  have b20 := F20.binds (ps := ["_law_found", "_law_many"]) fun _ _ _ _ _ _ us hl => match us, hl with | [_, _], _ => rfl
  have F21 := fun_mk (st := s__law_e) l21 c21 k21
  have b21 := F21.binds (ps := ["_law_cell"]) fun _ _ _ _ _ _ us hl => match us, hl with | [_], _ => rfl
  have F22 := fun_mk (st := s__law_due) l22 c22 k22
  have b22 := F22.binds (ps := ["_law_one", "_law_other", "_law_e_here"]) fun _ _ _ _ _ _ us hl => match us, hl with | [_, _, _], _ => rfl
  have F23 := fun_mk (st := s_law) l23 c23 k23
  refine ⟨PySem.W.fnOf "law" "law" (defArgs s_law) (defBody s_law) (defScope s_law) .none kV23 dc23 pm23 an23 cd23 ct23, fun s v => .of_eq rfl, fun base _ _ => ?_⟩
  have his_whole : Has l.prog w K mg base 1 "is_whole" ["thing"] (fn S_is_whole) := ⟨⟨_, _, ok_is_whole F0   m_isinstance m_int m_bool, PySem.W.mg_of X G a0, k0, b0⟩⟩
  have hcommon_divisor : Has l.prog w K mg base 1 "common_divisor" ["number", "above_nought"] (fn S_common_divisor) := ⟨⟨_, _, ok_common_divisor F1   , PySem.W.mg_of X G a1, k1, b1⟩⟩
  have hLcell_at : Has l.prog w K mg base 1 "_law_cell_at" ["_law_script", "_law_k"] (fn S__law_cell_at) := ⟨⟨_, _, ok__law_cell_at F9   m_len, PySem.W.mg_of X G a9, k9, b9⟩⟩
  have hLmixed : HasF l.prog w K mg base 1 "_law_mixed" ["_law_cell", "_law_k"] (fn S__law_mixed) := ⟨⟨_, _, ok__law_mixed F10   , PySem.W.mg_of X G a10, k10, b10⟩⟩
  have hLlowest : Has l.prog w K mg base 1 "_law_lowest" ["_law_top", "_law_bottom"] (fn S__law_lowest) := ⟨⟨_, _, ok__law_lowest F11   m_abs, PySem.W.mg_of X G a11, k11, b11⟩⟩
  have hLless : Has l.prog w K mg base 1 "_law_less" ["_law_one", "_law_other"] (fn S__law_less) := ⟨⟨_, _, ok__law_less F12   , PySem.W.mg_of X G a12, k12, b12⟩⟩
  have hLwhole : Has l.prog w K mg base 1 "_law_whole" ["_law_found"] (fn S__law_whole) := ⟨⟨_, _, ok__law_whole F17   m_isinstance m_int m_bool, PySem.W.mg_of X G a17, k17, b17⟩⟩
  have hLkeeps : Has l.prog w K mg base 1 "_law_keeps" ["_law_part_here", "_law_bound"] (fn S__law_keeps) := ⟨⟨_, _, ok__law_keeps F18   , PySem.W.mg_of X G a18, k18, b18⟩⟩
  have hlowest : Has l.prog w K mg base 2 "lowest" ["top", "bottom"] (fn S_lowest) := ⟨⟨_, _, ok_lowest F3 hcommon_divisor  , PySem.W.mg_of X G a3, k3, b3⟩⟩
  have hsummed : Has l.prog w K mg base 2 "summed" ["one", "top", "bottom"] (fn S_summed) := ⟨⟨_, _, ok_summed F6 hcommon_divisor  , PySem.W.mg_of X G a6, k6, b6⟩⟩
  have htimes : Has l.prog w K mg base 2 "times" ["one", "other"] (fn S_times) := ⟨⟨_, _, ok_times F7 hcommon_divisor  , PySem.W.mg_of X G a7, k7, b7⟩⟩
  have hLany_table : HasF l.prog w K mg base 2 "_law_any_table" ["_law_seed", "_law_k", "_law_most"] (fn S__law_any_table) := ⟨⟨_, _, ok__law_any_table F13 hLmixed  m_range, PySem.W.mg_of X G a13, k13, b13⟩⟩
  have hLpart : Has l.prog w K mg base 2 "_law_part" ["_law_cell"] (fn S__law_part) := ⟨⟨_, _, ok__law_part F14 hLlowest  , PySem.W.mg_of X G a14, k14, b14⟩⟩
  have hLplanted : HasF l.prog w K mg base 2 "_law_planted" ["_law_script", "_law_point"] (fn S__law_planted) := ⟨⟨_, _, ok__law_planted F15 hLless hLmixed hLcell_at  m_range m_len, PySem.W.mg_of X G a15, k15, b15⟩⟩
  have hLlies : HasF l.prog w K mg base 2 "_law_lies" ["_law_table", "_law_point"] (fn S__law_lies) := ⟨⟨_, _, ok__law_lies F19 hLkeeps hLless  m_range m_len, PySem.W.mg_of X G a19, k19, b19⟩⟩
  have hLis_point : HasF l.prog w K mg base 2 "_law_is_point" ["_law_found", "_law_many"] (fn S__law_is_point) := ⟨⟨_, _, ok__law_is_point F20 hLlowest hLwhole  m_isinstance m_list m_len m_tuple m_all, PySem.W.mg_of X G a20, k20, b20⟩⟩
  have hLe : Has l.prog w K mg base 2 "_law_e" ["_law_cell"] (fn S__law_e) := ⟨⟨_, _, ok__law_e F21 hLlowest  , PySem.W.mg_of X G a21, k21, b21⟩⟩
  have hLdue : HasF l.prog w K mg base 2 "_law_due" ["_law_one", "_law_other", "_law_e_here"] (fn S__law_due) := ⟨⟨_, _, ok__law_due F22 hLless hLlowest  m_range m_len, PySem.W.mg_of X G a22, k22, b22⟩⟩
  have hfraction : Has l.prog w K mg base 3 "fraction" ["top", "bottom"] (fn S_fraction) := ⟨⟨_, _, ok_fraction F2 hlowest his_whole  , PySem.W.mg_of X G a2, k2, b2⟩⟩
  have hfractionD : HasD l.prog w K mg base 3 "fraction" ["top", "bottom"] [1] (fn S_fraction) := ⟨⟨_, _, _, ok_fraction F2 hlowest his_whole  , PySem.W.mg_of X G a2, k2, .cons ⟨_, rfl⟩ .nil, e2⟩⟩
  have hplus : Has l.prog w K mg base 3 "plus" ["one", "other"] (fn S_plus) := ⟨⟨_, _, ok_plus F4 hsummed  , PySem.W.mg_of X G a4, k4, b4⟩⟩
  have hminus : Has l.prog w K mg base 3 "minus" ["one", "other"] (fn S_minus) := ⟨⟨_, _, ok_minus F5 hsummed  , PySem.W.mg_of X G a5, k5, b5⟩⟩
  have hLtable_by : HasF l.prog w K mg base 3 "_law_table_by" ["_law_script"] (fn S__law_table_by) := ⟨⟨_, _, ok__law_table_by F16 hLcell_at hLplanted hLpart hLany_table  m_int m_range, PySem.W.mg_of X G a16, k16, b16⟩⟩
  have hmixed : HasF l.prog w K mg base 4 "mixed" ["one", "other", "e"] (fn S_mixed) := ⟨⟨_, _, ok_mixed F8 hminus hfractionD hplus htimes  m_zip, PySem.W.mg_of X G a8, k8, b8⟩⟩
  exact ok_law F23 hLtable_by hLpart hLcell_at hLe hmixed hLlowest hLmixed hLlies hLis_point hLdue  m_list m_range m_len
theorem walk {l : PySem.W.OpenLaw} {q : Program} {loose : List Str} {XP : (Str → Option Value) → Heap → Prop} {YP : World → Heap → Prop} {d : DefRec} {K : Params → PySem.W.Frag} (hn : l.most = some 63) (hdf : d.params.defaults = [])
    (hY : ∀ (w : World) (h : Heap), YP w h → (K w.params).In h)
    (F : ∀ (w : World) (mg : Str → Option Value) (fa : Addr) (h : Heap), (K w.params).In h → h.Ns mainGlobals mg → mg d.name = some (.ref fa) →
      ∃ fd : FuncData, (∀ (s : Shared) (u : Value), BindsTo s fd ⟨[u], []⟩ [("_law_script", u)]) ∧ ∀ base : Heap, (K w.params).In base → base.Ns mainGlobals mg → FnOk l.prog w (K w.params) mg base CX0 5 fa fd ["_law_script"] (spLaw (K w.params))) :
    PySem.W.WalkO q loose XP YP l.row.toRowW d [] (fun f vs => PySem.call f vs) :=
  L2.walk_of (n := 63) (k := 5) (x := "_law_script") (CX := fun _ => CX0) (sp := fun w => spLaw (K w.params)) hn (by decide) hdf ⟨rfl, by decide, by decide⟩ hY F (fun _ _ a ns hl _ hS => ⟨a, ns, rfl, hS, hl, fun _ => rfl⟩) fun _ _ _ _ _ z => z
end
end Mine
open PySem PySem.W PyProof.Rows
set_option maxRecDepth 100000 in
set_option maxHeartbeats 0 in
theorem PySem.Challenge.cw_watchyard_k28_mixed_points_holds : PySem.Challenge.rw_watchyard_k28_mixed_points.Holds := by
  w_on; o_law; k_head; (case hw => w_witness2)
  k_fill
  refine Mine.walk (l := PySem.Challenge.rw_watchyard_k28_mixed_points) rfl rfl (fun w h Y => PySem.W.kIn_of Y) ?F
  case F =>
    intro w mg fa h KX G hmg
    refine' Mine.all_mk KX G hmg ?a0 ?l0 ?c0 ?k0 ?a1 ?l1 ?c1 ?k1 ?a2 ?l2 ?t2 ?c2 ?k2 ?a3 ?l3 ?c3 ?k3 ?a4 ?l4 ?c4 ?k4 ?a5 ?l5 ?c5 ?k5 ?a6 ?l6 ?c6 ?k6 ?a7 ?l7 ?c7 ?k7 ?a8 ?l8 ?c8 ?k8 ?a9 ?l9 ?c9 ?k9 ?a10 ?l10 ?c10 ?k10 ?a11 ?l11 ?c11 ?k11 ?a12 ?l12 ?c12 ?k12 ?a13 ?l13 ?c13 ?k13 ?a14 ?l14 ?c14 ?k14 ?a15 ?l15 ?c15 ?k15 ?a16 ?l16 ?c16 ?k16 ?a17 ?l17 ?c17 ?k17 ?a18 ?l18 ?c18 ?k18 ?a19 ?l19 ?c19 ?k19 ?a20 ?l20 ?c20 ?k20 ?a21 ?l21 ?c21 ?k21 ?a22 ?l22 ?c22 ?k22 ?a23 ?l23 ?c23 ?k23 ?z_isinstance ?z_int ?z_bool ?z_zip ?z_len ?z_abs ?z_range ?z_list ?z_tuple ?z_all
    (case a0 => k_is)
    (case l0 => k_is)
    (case c0 => k_is)
    (case k0 => k_is)
    (case a1 => k_is)
    (case l1 => k_is)
    (case c1 => k_is)
    (case k1 => k_is)
    (case a2 => k_is)
    (case l2 => k_is)
    (case t2 => k_is)
    (case c2 => k_is)
    (case k2 => k_is)
    (case a3 => k_is)
    (case l3 => k_is)
    (case c3 => k_is)
    (case k3 => k_is)
    (case a4 => k_is)
    (case l4 => k_is)
    (case c4 => k_is)
    (case k4 => k_is)
    (case a5 => k_is)
    (case l5 => k_is)
    (case c5 => k_is)
    (case k5 => k_is)
    (case a6 => k_is)
    (case l6 => k_is)
    (case c6 => k_is)
    (case k6 => k_is)
    (case a7 => k_is)
    (case l7 => k_is)
    (case c7 => k_is)
    (case k7 => k_is)
    (case a8 => k_is)
    (case l8 => k_is)
    (case c8 => k_is)
    (case k8 => k_is)
    (case a9 => k_is)
    (case l9 => k_is)
    (case c9 => k_is)
    (case k9 => k_is)
    (case a10 => k_is)
    (case l10 => k_is)
    (case c10 => k_is)
    (case k10 => k_is)
    (case a11 => k_is)
    (case l11 => k_is)
    (case c11 => k_is)
    (case k11 => k_is)
    (case a12 => k_is)
    (case l12 => k_is)
    (case c12 => k_is)
    (case k12 => k_is)
    (case a13 => k_is)
    (case l13 => k_is)
    (case c13 => k_is)
    (case k13 => k_is)
    (case a14 => k_is)
    (case l14 => k_is)
    (case c14 => k_is)
    (case k14 => k_is)
    (case a15 => k_is)
    (case l15 => k_is)
    (case c15 => k_is)
    (case k15 => k_is)
    (case a16 => k_is)
    (case l16 => k_is)
    (case c16 => k_is)
    (case k16 => k_is)
    (case a17 => k_is)
    (case l17 => k_is)
    (case c17 => k_is)
    (case k17 => k_is)
    (case a18 => k_is)
    (case l18 => k_is)
    (case c18 => k_is)
    (case k18 => k_is)
    (case a19 => k_is)
    (case l19 => k_is)
    (case c19 => k_is)
    (case k19 => k_is)
    (case a20 => k_is)
    (case l20 => k_is)
    (case c20 => k_is)
    (case k20 => k_is)
    (case a21 => k_is)
    (case l21 => k_is)
    (case c21 => k_is)
    (case k21 => k_is)
    (case a22 => k_is)
    (case l22 => k_is)
    (case c22 => k_is)
    (case k22 => k_is)
    (case a23 => k_is)
    (case l23 => k_is)
    (case c23 => k_is)
    (case k23 => k_is)
    (case z_isinstance => k_is)
    (case z_int => k_is)
    (case z_bool => k_is)
    (case z_zip => k_is)
    (case z_len => k_is)
    (case z_abs => k_is)
    (case z_range => k_is)
    (case z_list => k_is)
    (case z_tuple => k_is)
    (case z_all => k_is)
