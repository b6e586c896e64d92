import PyProof.Rows.All
import Wide.All
import OpenK.AllK
import Wide.FinOn
import Lean
import PyProof.EqAt
import PyProof.EqKinds
import PyProof.TupleCall
import KE.KTryMore
import PyProof.NeKinds
import PySem.Challenge.RW_everydraw_k03_whole_walks_of_fractions
set_option Elab.async false
set_option linter.all false
set_option maxRecDepth 100000
/-! THE HAND LAYER, for ints, bools, texts, own classes, LISTS and tuples (index, slices, in, append, pop ..), calls, loops. Paste it whole ahead of your own text; what your proof does not reach may be deleted. -/
namespace L2
open PySem PySem.Spec PyProof.Rows

/-- a key: an int or a str -/
abbrev Key := Sum Int Str
def keyIs : Key → Value → Bool
  | .inl k, v => Value.isInt k v
  | .inr x, v => Value.isStrOf x v
def keyH (w : World) : Key → Int
  | .inl k => hashInt k
  | .inr x => hashStr w x
theorem keyIs_shape : ∀ {k : Key} {v : Value}, keyIs k v = true → (∃ i t, k = Sum.inl i ∧ v = Value.int i t) ∨ (∃ x t, k = Sum.inr x ∧ v = Value.str x t)
  | .inl i, v, h => by
    obtain ⟨t, e⟩ := Value.isInt_shape (k := i) (v := v) h
    exact .inl ⟨i, t, rfl, e⟩
  | .inr x, v, h => by
    obtain ⟨t, e⟩ := Value.isStrOf_shape (x := x) (v := v) h
    exact .inr ⟨x, t, rfl, e⟩
theorem key_ll (a b : Int) : decide ((Sum.inl a : Key) = Sum.inl b) = (a == b) := by
  by_cases e : a = b
  · subst e; simp
  · have h : ¬ (Sum.inl a : Key) = Sum.inl b := fun q => e (Sum.inl.inj q)
    rw [decide_eq_false h]
    exact (beq_eq_false_iff_ne.mpr e).symm
theorem key_rr (a b : Str) : decide ((Sum.inr a : Key) = Sum.inr b) = decide (a = b) := by
  by_cases e : a = b
  · subst e; simp
  · have h : ¬ (Sum.inr a : Key) = Sum.inr b := fun q => e (Sum.inr.inj q)
    rw [decide_eq_false h, decide_eq_false e]
theorem key_lr (a : Int) (b : Str) : decide ((Sum.inl a : Key) = Sum.inr b) = false := decide_eq_false (fun q => nomatch q)
theorem key_rl (a : Str) (b : Int) : decide ((Sum.inr a : Key) = Sum.inl b) = false := decide_eq_false (fun q => nomatch q)

def mixKind (prog : Program) (w : World) : PySem.KeyKind prog w Key where
  is := keyIs
  hash := keyH w
  inj := fun v a b ha hb => by
    rcases keyIs_shape ha with ⟨i, t, rfl, rfl⟩ | ⟨x, t, rfl, rfl⟩
    · rcases keyIs_shape hb with ⟨j, u, rfl, e⟩ | ⟨y, u, rfl, e⟩
      · injection e with e1 _; rw [e1]
      · exact nomatch e
    · rcases keyIs_shape hb with ⟨j, u, rfl, e⟩ | ⟨y, u, rfl, e⟩
      · exact nomatch e
      · injection e with e1 _; rw [e1]
  byValue := fun k v h => by
    rcases keyIs_shape h with ⟨i, t, rfl, rfl⟩ | ⟨x, t, rfl, rfl⟩ <;> rfl
  pyHash := fun hv h => by
    rcases keyIs_shape hv with ⟨i, t, rfl, rfl⟩ | ⟨x, t, rfl, rfl⟩
    · exact wpAny_pyHash_int h
    · exact wpAny_pyHash_str h
  eqBool := fun hu hv h => by
    rcases keyIs_shape hu with ⟨i, t, rfl, rfl⟩ | ⟨x, t, rfl, rfl⟩
    · rcases keyIs_shape hv with ⟨j, u, rfl, rfl⟩ | ⟨y, u, rfl, rfl⟩
      · rw [key_ll] at h; exact wpAny_eqBool_int h
      · rw [key_lr] at h; exact SeqAt.EqAt.int_str i t y u _ _ _ _ h
    · rcases keyIs_shape hv with ⟨j, u, rfl, rfl⟩ | ⟨y, u, rfl, rfl⟩
      · rw [key_rl] at h; exact SeqAt.EqAt.str_int x t j u _ _ _ _ h
      · rw [key_rr] at h; exact wpAny_eqBool_str h
  «strs» := fun k x t v h => by
    rcases keyIs_shape h with ⟨i, u, rfl, e⟩ | ⟨y, u, rfl, e⟩
    · exact nomatch e
    · injection e with e1 _
      subst e1
      cases v <;> rfl

end L2

namespace L2
open PySem PySem.Spec PyProof.Rows

/-- a value, without the heap -/
inductive V where
  | non | bl (b : Bool) | int (i : Int) | str (x : Str) | byt (b : Array UInt8) | flt (b : UInt64) | ref (a : Addr) | ty (n : String)
  deriving DecidableEq

def RelV : V → Value → Prop
  | .non, u => u = Value.none
  | .bl b, u => u = Value.bool b
  | .int i, u => ∃ t, u = Value.int i t
  | .str x, u => ∃ t, u = Value.str x t
  | .byt b, u => ∃ t, u = Value.bytes b t
  | .flt b, u => ∃ t, u = Value.float b t
  | .ref a, u => u = Value.ref a
  | .ty n, u => u = Value.type n

abbrev Vals : List V → List Value → Prop := Paired RelV
theorem Vals.length {xs : List V} {us : List Value} (r : Vals xs us) : xs.length = us.length := Paired.length r
theorem Vals.get : ∀ {xs : List V} {us : List Value} {i : Nat} {x : V}, Vals xs us → xs[i]? = some x → ∃ u, us[i]? = some u ∧ RelV x u
  | _, _, _, _, .nil, e => by simp at e
  | _, _, 0, _, .cons r _, e => by simp at e; subst e; exact ⟨_, rfl, r⟩
  | _, _, i + 1, x, .cons _ t, e => by
    obtain ⟨u, h1, h2⟩ := Vals.get (i := i) (x := x) t (by simpa using e)
    exact ⟨u, by simpa using h1, h2⟩
theorem Vals.set {x : V} {u : Value} (r : RelV x u) : ∀ {xs : List V} {us : List Value} (i : Nat), Vals xs us → Vals (xs.set i x) (us.set i u)
  | _, _, _, .nil => .nil
  | _, _, 0, .cons _ t => .cons r t
  | _, _, i + 1, .cons q t => .cons q (Vals.set r i t)
theorem Vals.append : ∀ {xs ys : List V} {us ws : List Value}, Vals xs us → Vals ys ws → Vals (xs ++ ys) (us ++ ws)
  | _, _, _, _, .nil, s => s
  | _, _, _, _, .cons r t, s => .cons r (Vals.append t s)
theorem Vals.take : ∀ {xs : List V} {us : List Value} (n : Nat), Vals xs us → Vals (xs.take n) (us.take n)
  | _, _, 0, _ => .nil
  | _, _, _ + 1, .nil => .nil
  | _, _, n + 1, .cons r t => .cons r (Vals.take n t)
theorem Vals.drop : ∀ {xs : List V} {us : List Value} (n : Nat), Vals xs us → Vals (xs.drop n) (us.drop n)
  | _, _, 0, r => r
  | _, _, _ + 1, .nil => .nil
  | _, _, n + 1, .cons _ t => Vals.drop n t

def RelO : Option V → Option Value → Prop
  | some v, some u => RelV v u
  | none, none => True
  | _, _ => False
def KV {κ : Type} : List (κ × V) → List (κ × Value) → Prop := Paired fun (p : κ × V) (q : κ × Value) => p.1 = q.1 ∧ RelV p.2 q.2

/-- a key of a dict (00_mix): an int or a text -/
def kV : Key → V
  | .inl i => .int i
  | .inr x => .str x

/-- what stands at a tracked address -/
inductive HO where
  /-- a list -/
  | lst (xs : List V)
  /-- a tuple (never changes) -/
  | tup (xs : List V)
  /-- a dict whose keys are ints and texts; one whose keys are tuples of ints and texts (the empty one is both) -/
  | dK (kvs : List (Key × V)) | dT (kvs : List (List Key × Addr × V))
  /-- a set of ints: its members, its size -/
  | set (S : Int → Bool) (n : Nat)
  /-- an instance of the class at C, its dict at dx, its attributes -/
  | ins (C dx : Addr) (fs : List (Str × V))
  /-- the dict of the instance at x -/
  | own (x : Addr)
  /-- the dict of an exception -/
  | xd (fs : List (Str × V))
  /-- a bound method, f of x -/
  | met (f x : Addr)
  /-- a range object lo, lo + 1, .. below hi -/
  | rng (lo hi : Int)
  /-- a thing that is known to the object (the script; a dict while a loop walks it): read, never written while it is so -/
  | frz (o : Obj) (u : HO)
  /-- a code object's table -/
  | tbl (ps : Array Value)
  /-- any other thing, by what is true of its one object (a def of one's own: SetO a S n := HO.ext fun h => ..) -/
  | ext (φ : Heap → Prop)

abbrev Hp := Addr → Option HO
def upd (H : Hp) (a : Addr) (o : HO) : Hp := fun b => if b = a then some o else H b
theorem upd_same {H : Hp} {a : Addr} {o : HO} : upd H a o a = some o := by unfold upd; rw [if_pos rfl]
theorem upd_ne {H : Hp} {a b : Addr} {o : HO} (h : b ≠ a) : upd H a o b = H b := by unfold upd; rw [if_neg h]
theorem ne_of_none {H : Hp} {a b : Addr} {o : HO} (h : H a = some o) (h' : H b = none) : a ≠ b := by
  intro e; subst e; rw [h] at h'; cases h'

section
variable (P : Program) (w : World)
def ObjOk (H : Hp) (h : Heap) (a : Addr) : HO → Prop
  | .lst xs => xs.length ≤ sizeLine ∧ ∃ (its : List Value) (n : Nat), Vals xs its ∧ h.get? a = some { cls := .type "list", data := .seq its.toArray n }
  | .tup xs => xs.length ≤ sizeLine ∧ ∃ its : List Value, Vals xs its ∧ IsTup h a its.toArray
  | .dK kvs => kvs.length ≤ sizeLine ∧ (a == sysModules) = false ∧ ∃ vs, KV kvs vs ∧ h.DictOf (mixKind P w) a vs
  | .dT kvs => kvs.length ≤ sizeLine ∧ (a == sysModules) = false ∧ ∃ xs : List (List Key × Addr × Value),
      Paired (fun (p : List Key × Addr × V) (q : List Key × Addr × Value) => p.1 = q.1 ∧ p.2.1 = q.2.1 ∧ RelV p.2.2 q.2.2) kvs xs ∧
      ∃ o es ep, h.get? a = some o ∧ o.ExactDict ∧ o.data = .dict es ep ∧ es.toList = xs.map (entryOfKey (tupleKind (mixKind P w))) ∧ (xs.map (·.1)).Nodup
  | .set S n => h.SetOf (intKind P w) a S n
  | .ins C dx fs => H dx = some (.own a) ∧ fs.length ≤ 1000 ∧ dx ≠ a ∧ h.get? a = some (PySem.W.instObj C dx) ∧
      ∃ mA, h.Ns1 dx mA ∧ (∀ f, RelO (fs.lookup f) (mA f)) ∧ PySem.Within mA (fs.map (·.1))
  | .own _ => ∃ o, h.get? a = some o
  | .xd fs => ∃ mA, h.Ns1 a mA ∧ ∀ f, RelO (fs.lookup f) (mA f)
  | .rng lo hi => ∃ t u v, h.get? a = some { cls := .type "range", data := .fields #[.int lo t, .int hi u, .int 1 v] }
  | .frz o u => h.get? a = some o ∧ ObjOk H h a u
  | .tbl ps => h.get? a = some { cls := .none, data := .fields ps }
  | .met f x => h.get? a = some (PySem.W.methodObj (.ref f) (.ref x))
  | .ext φ => φ h ∧ (∃ o, h.get? a = some o) ∧ ∀ h1 h2 : Heap, φ h1 → (∀ o, h1.get? a = some o → h2.get? a = some o) → φ h2
/-- the abstract heap is held -/
def HOk (H : Hp) (h : Heap) : Prop := ∀ a o, H a = some o → ObjOk P w H h a o
end

section
variable {P : Program} {w : World} {H H' : Hp} {h h' : Heap} {a : Addr} {o : HO}
theorem ObjOk.lt (x : ObjOk P w H h a o) : a < h.objs.size := by
  cases o with
  | lst xs => obtain ⟨_, _, _, _, e⟩ := x; exact Heap.lt_size e
  | tup xs => obtain ⟨_, _, _, p⟩ := x; exact p.lt
  | dK kvs => obtain ⟨_, _, _, _, o, _, _, e, _⟩ := x; exact Heap.lt_size e
  | dT kvs => obtain ⟨_, _, _, _, o, _, _, e, _⟩ := x; exact Heap.lt_size e
  | set S n => obtain ⟨o, _, _, _, e, _⟩ := x; exact Heap.lt_size e
  | ins C dx fs => obtain ⟨_, _, _, e, _⟩ := x; exact Heap.lt_size e
  | own y => obtain ⟨_, e⟩ := x; exact Heap.lt_size e
  | xd fs => obtain ⟨_, ⟨_, _, _, e, _⟩, _⟩ := x; exact Heap.lt_size e
  | rng lo hi => obtain ⟨_, _, _, e⟩ := x; exact Heap.lt_size e
  | frz ob u => obtain ⟨e, _⟩ := x; exact Heap.lt_size e
  | tbl ps => exact Heap.lt_size (show h.get? a = some _ from x)
  | met f y => exact Heap.lt_size (show h.get? a = some _ from x)
  | ext φ => obtain ⟨_, ⟨_, e⟩, _⟩ := x; exact Heap.lt_size e
theorem Paired.mapP {α β : Type} {F G : α → β → Prop} : ∀ {l₁ : List α} {l₂ : List β}, Paired F l₁ l₂ → (∀ a b, F a b → G a b) → Paired G l₁ l₂
  | _, _, .nil, _ => .nil
  | _, _, .cons r t, f => .cons (f _ _ r) (Paired.mapP t f)
/-- what an object's description leans on: its own object, its own dict, the tuples -/
theorem ObjOk.stay (x : ObjOk P w H h a o) (k : ∀ b u, (b = a ∨ H b = some (.own a)) → h.get? b = some u → h'.get? b = some u)
    (ho : ∀ b, H b = some (.own a) → H' b = some (.own a)) (ht : ∀ b xs, H b = some (.tup xs) → H' b = some (.tup xs)) : ObjOk P w H' h' a o := by
  induction o with
  | lst xs => obtain ⟨z, its, n, r, e⟩ := x; exact ⟨z, its, n, r, k _ _ (.inl rfl) e⟩
  | tup xs => obtain ⟨z, its, r, ob, e, c⟩ := x; exact ⟨z, its, r, ob, k _ _ (.inl rfl) e, c⟩
  | dK kvs => obtain ⟨z, y, vs, r, ob, es, ep, e, c⟩ := x; exact ⟨z, y, vs, r, ob, es, ep, k _ _ (.inl rfl) e, c⟩
  | dT kvs =>
    obtain ⟨z, y, xs, r, ob, es, ep, e, c⟩ := x
    exact ⟨z, y, xs, r, ob, es, ep, k _ _ (.inl rfl) e, c⟩
  | set S n => obtain ⟨ob, es, ep, t, e, c⟩ := x; exact ⟨ob, es, ep, t, k _ _ (.inl rfl) e, c⟩
  | ins C dx fs =>
    obtain ⟨d, z, ne, e, mA, ⟨od, es, ep, e2, c⟩, r⟩ := x
    exact ⟨ho _ d, z, ne, k _ _ (.inl rfl) e, mA, ⟨od, es, ep, k _ _ (.inr d) e2, c⟩, r⟩
  | own y => obtain ⟨ob, e⟩ := x; exact ⟨ob, k _ _ (.inl rfl) e⟩
  | xd fs => obtain ⟨mA, ⟨od, es, ep, e, c⟩, r⟩ := x; exact ⟨mA, ⟨od, es, ep, k _ _ (.inl rfl) e, c⟩, r⟩
  | rng lo hi => obtain ⟨t, u, v, e⟩ := x; exact ⟨t, u, v, k _ _ (.inl rfl) e⟩
  | frz ob u ih => obtain ⟨e, q⟩ := x; exact ⟨k _ _ (.inl rfl) e, ih q⟩
  | tbl ps =>
    have e : h.get? a = some { cls := .none, data := .fields ps } := x
    show h'.get? a = some { cls := .none, data := .fields ps }
    exact k a _ (.inl rfl) e
  | met f y =>
    have e : h.get? a = some (PySem.W.methodObj (.ref f) (.ref y)) := x
    show h'.get? a = some (PySem.W.methodObj (.ref f) (.ref y))
    exact k a _ (.inl rfl) e
  | ext φ => obtain ⟨p, ⟨o, e⟩, st⟩ := x; exact ⟨st _ _ p fun o q => k _ _ (.inl rfl) q, ⟨o, k _ _ (.inl rfl) e⟩, st⟩
theorem HOk.lt (x : HOk P w H h) (e : H a = some o) : a < h.objs.size := (x a o e).lt
theorem HOk.fresh (x : HOk P w H h) (e : h.objs.size ≤ a) : H a = none := by
  cases q : H a with
  | none => rfl
  | some u => exact absurd (Nat.lt_of_lt_of_le (x.lt q) e) (Nat.lt_irrefl _)
/-- every object of the heap is kept -/
theorem HOk.kept (x : HOk P w H h) (k : ∀ b u, h.get? b = some u → h'.get? b = some u) : HOk P w H h' := fun a o e =>
  (x a o e).stay (fun b u _ q => k b u q) (fun _ q => q) fun _ _ q => q
/-- a new object is laid and tracked -/
theorem HOk.laid (x : HOk P w H h) (k : ∀ b u, h.get? b = some u → h'.get? b = some u) (hp : h.objs.size ≤ a) (new : ObjOk P w (upd H a o) h' a o) : HOk P w (upd H a o) h' := fun b u e => by
  have hn := x.fresh hp
  by_cases hb : b = a
  · subst hb; rw [upd_same] at e; cases e; exact new
  · rw [upd_ne hb] at e
    exact (x b u e).stay (fun c v _ q => k c v q) (fun c q => by rw [upd_ne (ne_of_none q hn)]; exact q) fun c xs q => by rw [upd_ne (ne_of_none q hn)]; exact q
end

/-- what may be read as u: it is u, or a known u -/
def Rd (H : Hp) (a : Addr) (u : HO) : Prop := H a = some u ∨ ∃ o, H a = some (.frz o u)
theorem Rd.of {H : Hp} {a : Addr} {u : HO} (h : H a = some u) : Rd H a u := .inl h
theorem Rd.ok {P : Program} {w : World} {H : Hp} {h : Heap} {a : Addr} {u : HO} (r : Rd H a u) (x : HOk P w H h) : ObjOk P w H h a u := by
  rcases r with r | ⟨o, r⟩
  · exact x a u r
  · obtain ⟨_, q⟩ := x a _ r
    exact q
/-- what may be written -/
def Mut : Option HO → Prop
  | some (.lst _) => True
  | some (.dK _) => True
  | some (.dT _) => True
  | some (.set _ _) => True
  | some (.ins _ _ _) => True
  | some (.ext _) => True
  | _ => False
section
variable {P : Program} {w : World} {H : Hp} {h h' : Heap} {x e : Addr} {o' : HO}
/-- the object at e is changed: x itself, or the dict of the instance x -/
theorem HOk.write (ok : HOk P w H h) (mu : Mut (H x)) (he : e = x ∨ H e = some (.own x)) (k : ∀ b u, b ≠ e → h.get? b = some u → h'.get? b = some u) (heo : ∃ u, h'.get? e = some u)
    (new : ObjOk P w (upd H x o') h' x o') : HOk P w (upd H x o') h' := fun b u q => by
  have nown : ∀ c y, H c = some (.own y) → c ≠ x := fun c y r z => by subst z; rw [r] at mu; exact mu
  have ntup : ∀ c xs, H c = some (.tup xs) → c ≠ x := fun c xs r z => by subst z; rw [r] at mu; exact mu
  by_cases hb : b = x
  · subst hb; rw [upd_same] at q; cases q; exact new
  · rw [upd_ne hb] at q
    by_cases hbe : b = e
    · have q' : H b = some (.own x) := by
        rcases he with z | z
        · exact absurd (hbe.trans z) hb
        · rw [hbe]; exact z
      rw [q] at q'; cases q'
      obtain ⟨v, hv⟩ := heo
      exact ⟨v, by rw [hbe]; exact hv⟩
    · refine (ok b u q).stay (fun c v hc r => k c v ?_ r) (fun c r => by rw [upd_ne (nown c b r)]; exact r) fun c xs r => by rw [upd_ne (ntup c xs r)]; exact r
      rcases hc with rfl | hc
      · exact hbe
      · rintro rfl
        rcases he with z | z
        · exact nown c b hc z
        · rw [hc] at z; cases z; exact hb rfl
end

/-! ### kept unless tracked; of the frames at fs (the callers') the slots may change (an exception that passes writes there); of the records at ex (iterators) nothing is said -/
structure Un (fs ex : List Addr) (H H' : Hp) (h h' : Heap) : Prop where
  keep : ∀ b o, h.get? b = some o → H b = none → b ∉ fs → b ∉ ex → h'.get? b = some o
  slot : ∀ b o, h.get? b = some o → H b = none → b ∈ fs → b ∉ ex → ∃ sl, h'.get? b = some { o with slots := sl }
  free : ∀ b o, h.get? b = some o → H b = none → b ∉ ex → H' b = none
  there : ∀ b o, h.get? b = some o → b ∉ ex → ∃ o', h'.get? b = some o'
  tups : ∀ b xs, H b = some (.tup xs) → H' b = some (.tup xs)
  frzs : ∀ b o u, H b = some (.frz o u) → H' b = some (.frz o u)
  tbls : ∀ b ps, H b = some (.tbl ps) → ∃ more, H' b = some (.tbl (ps ++ more))
section
variable {fs fs' ex ex' : List Addr} {H H1 H2 : Hp} {h h1 h2 h' : Heap} {a x e : Addr} {o : HO}
theorem Un.any (u : Un fs ex H H1 h h1) {b : Addr} {ob : Obj} (q : h.get? b = some ob) (n : H b = none) (hx : b ∉ ex) : ∃ sl, h1.get? b = some { ob with slots := sl } := by
  by_cases hb : b ∈ fs
  · exact u.slot b ob q n hb hx
  · exact ⟨ob.slots, u.keep b ob q n hb hx⟩
theorem Un.trans (a : Un fs ex H H1 h h1) (b : Un fs ex H1 H2 h1 h2) : Un fs ex H H2 h h2 where
  keep := fun c ob q n hc hx => b.keep c ob (a.keep c ob q n hc hx) (a.free c ob q n hx) hc hx
  slot := fun c ob q n hc hx => by
    obtain ⟨sl, e1⟩ := a.slot c ob q n hc hx
    obtain ⟨sl', e2⟩ := b.slot c _ e1 (a.free c ob q n hx) hc hx
    exact ⟨sl', e2⟩
  free := fun c ob q n hx => by
    obtain ⟨o', e1⟩ := a.there c ob q hx
    exact b.free c o' e1 (a.free c ob q n hx) hx
  there := fun c ob q hx => by
    obtain ⟨o', e1⟩ := a.there c ob q hx
    exact b.there c o' e1 hx
  tups := fun c xs q => b.tups c xs (a.tups c xs q)
  frzs := fun c ob xs q => b.frzs c ob xs (a.frzs c ob xs q)
  tbls := fun c ps q => by
    obtain ⟨m1, e1⟩ := a.tbls c ps q
    obtain ⟨m2, e2⟩ := b.tbls c _ e1
    exact ⟨m1 ++ m2, by rw [e2, Array.append_assoc]⟩
theorem Un.kept (k : ∀ b u, h.get? b = some u → h'.get? b = some u) : Un fs ex H H h h' :=
  ⟨fun b ob q _ _ _ => k b ob q, fun b ob q _ _ _ => ⟨ob.slots, k b ob q⟩, fun _ _ _ n _ => n, fun b ob q _ => ⟨ob, k b ob q⟩, fun _ _ q => q, fun _ _ _ q => q, fun _ ps q => ⟨#[], by rw [q]; simp⟩⟩
theorem Un.refl : Un fs ex H H h h := Un.kept fun _ _ q => q
theorem Un.laid (k : ∀ b u, h.get? b = some u → h'.get? b = some u) (hp : h.objs.size ≤ a) (hn : H a = none) : Un fs ex H (upd H a o) h h' where
  keep := fun b u q _ _ _ => k b u q
  slot := fun b u q _ _ _ => ⟨u.slots, k b u q⟩
  free := fun b u q n _ => by rw [upd_ne (Nat.ne_of_lt (Nat.lt_of_lt_of_le (Heap.lt_size q) hp))]; exact n
  there := fun b u q _ => ⟨u, k b u q⟩
  tups := fun b xs q => by rw [upd_ne (ne_of_none q hn)]; exact q
  frzs := fun b u xs q => by rw [upd_ne (ne_of_none q hn)]; exact q
  tbls := fun b ps q => ⟨#[], by rw [upd_ne (ne_of_none q hn), q]; simp⟩
theorem Un.write (mu : Mut (H x)) (he : e = x ∨ H e = some (.own x)) (k : ∀ b u, b ≠ e → h.get? b = some u → h'.get? b = some u) (heo : ∃ u, h'.get? e = some u) : Un fs ex H (upd H x o) h h' := by
  have hx : ∀ b, H b = none → b ≠ x := fun b n z => by subst z; rw [n] at mu; exact mu
  have hb : ∀ b, H b = none → b ≠ e := fun b n z => by
    subst z
    rcases he with r | r
    · exact hx b n r
    · rw [n] at r; cases r
  have hm : ∀ b u, H b = some u → ¬ Mut (some u) → b ≠ x := fun b u q nm z => by subst z; rw [q] at mu; exact nm mu
  refine ⟨fun b u q n _ _ => k b u (hb b n) q, fun b u q n _ _ => ⟨u.slots, k b u (hb b n) q⟩, fun b u q n _ => by rw [upd_ne (hx b n)]; exact n, fun b u q _ => ?_,
    fun b xs q => by rw [upd_ne (hm b _ q fun z => z)]; exact q, fun b u xs q => by rw [upd_ne (hm b _ q fun z => z)]; exact q, fun b ps q => ⟨#[], by rw [upd_ne (hm b _ q fun z => z), q]; simp⟩⟩
  by_cases hbe : b = e
  · subst hbe; exact heo
  · exact ⟨u, k b u hbe q⟩
theorem Un.mono (u : Un fs ex H H1 h h1) (hs : ∀ b ∈ fs, b ∈ fs') (hx : ∀ b ∈ ex, b ∈ ex') : Un fs' ex' H H1 h h1 :=
  ⟨fun b ob q n hb he => u.keep b ob q n (fun z => hb (hs b z)) fun z => he (hx b z), fun _ _ q n _ he => u.any q n fun z => he (hx _ z), fun b ob q n he => u.free b ob q n fun z => he (hx b z), fun b ob q he => u.there b ob q fun z => he (hx b z), u.tups, u.frzs, u.tbls⟩
end

/-! ### the heap without what is tracked -/
def trk (h : Heap) (H : Hp) : List Addr := (List.range h.objs.size).filter fun a => (H a).isSome
def hidT (h : Heap) (H : Hp) : Heap := PySem.W.hideAll h (trk h H)
theorem hidT_size (h : Heap) (H : Hp) : (hidT h H).objs.size = h.objs.size := PySem.W.hideAll_size _ _
theorem hidT_get {h : Heap} {H : Hp} {b : Addr} {o : Obj} (e : h.get? b = some o) (n : H b = none) : (hidT h H).get? b = some o :=
  PySem.W.hideAll_get _ e fun hm => by
    have q : (H b).isSome = true := (List.mem_filter.mp hm).2
    rw [n] at q; simp at q
theorem of_hidT {h : Heap} {H : Hp} {b : Addr} {o : Obj} (e : (hidT h H).get? b = some o) : h.get? b = some o ∧ H b = none := by
  have e' : h.get? b = some o := PySem.W.of_hideAll (trk h H) e
  refine ⟨e', ?_⟩
  cases q : H b with
  | none => rfl
  | some x =>
    have hm : b ∈ trk h H := List.mem_filter.mpr ⟨List.mem_range.mpr (Heap.lt_size e'), by simp [q]⟩
    have z : (hidT h H).get? b = none := PySem.W.hideAll_none (trk h H) hm
    rw [z] at e; cases e

/-! ### OpenK's ledger, filled with every new object but one -/
def allNews (g h : Heap) (L : Addr) : List (Addr × Obj) := (List.range h.objs.size).filterMap fun a => if a = L ∨ (g.get? a).isSome = true then none else (h.get? a).map fun o => (a, o)
def rest (g h : Heap) (L d : Addr) : List (Addr × Obj) := (allNews g h L).filter fun p => decide (p.1 ≠ d)
end L2

namespace L2
open PySem PySem.Spec PyProof.Rows

/-- the module's facts, over the base: the heap at the law's entry without what is tracked there -/
structure Mod (K : PySem.W.Frag) (mg : Str → Option Value) (base : Heap) : Prop where
  kin : K.In base
  glob : base.Ns mainGlobals mg
  blt : ∃ mb, base.Ns builtinsNs mb ∧ ∀ x : Str, x ≠ "__name__" → mb x = bootBuiltins x
  nolimit : base.NoLimit

/-- the context: a def's body (or a comprehension's block) running. base: fixed through the whole law; s₀, H₀: the entry; outer: the frames whose slots others may change (a def's callers); stack: all frames that run;
   ex: iterators that were made ahead of the entry and are walked here (a comprehension's); fn: the names whose cells were made at the entry (a def: all; a comprehension's block: its own); calm: not within an except suite; pn: pins that every state bears; xe: what is wanted of an exception that leaves the code -/
structure Cx where
  prog : Program
  w : World
  K : PySem.W.Frag
  mg : Str → Option Value
  base : Heap
  A : Around
  N : List Str
  s₀ : Shared
  H₀ : Hp
  env : Env
  outer : List Env
  stack : List Env
  ex : List Addr
  fn : Str → Bool
  calm : Bool
  pn : List (Addr × Obj)
  xe : Value → Shared → Prop
/-- the callers' frames -/
def frs (l : List Env) : List Addr := l.filterMap (·.frame)
abbrev Cx.fs (X : Cx) : List Addr := frs X.outer

def Vis (sc : Scope) (x : Str) : Prop := sc.names.lookup x = some .local ∨ sc.names.lookup x = some .cell ∨ sc.names.lookup x = some .free
def Loc (sc : Scope) (x : Str) : Prop := sc.names.lookup x = some .local ∨ sc.names.lookup x = some .cell
def Look (env : Env) (h : Heap) (m : Str → Option Value) (x : Str) (u : Value) : Prop :=
  (env.kindOf x = some .local ∧ m x = some u) ∨ ((env.kindOf x = some .cell ∨ env.kindOf x = some .free) ∧ ∃ c, env.cells.lookup x = some c ∧ h.IsCell c (some u))

structure Cx.Ok (X : Cx) : Prop where
  mod : Mod X.K X.mg X.base
  kind : X.env.scope.kind = .function
  glob : X.env.globals = mainGlobals
  blt : X.env.builtins = builtinsNs
  above : X.s₀.heap.objs.size ≤ X.env.locals
  inj : ∀ x y c, X.env.cells.lookup x = some c → X.env.cells.lookup y = some c → x = y
  has : ∀ x, (X.env.kindOf x = some .cell ∨ X.env.kindOf x = some .free) → ∃ c, X.env.cells.lookup x = some c
  cab : ∀ x c, X.fn x = true → X.env.cells.lookup x = some c → X.s₀.heap.objs.size ≤ c
  hd : X.calm = true → X.A.handled = none
  frames : X.A.frames = some X.stack
  stk : X.stack = X.outer ∨ (X.stack = X.env :: X.outer ∧ X.env.frame = some X.env.locals)
  exf : ∀ b ∈ X.ex, b ≠ X.env.locals ∧ ∀ x c, X.env.cells.lookup x = some c → c ≠ b
  bs : ∀ b o, X.base.get? b = some o → X.s₀.heap.get? b = some o ∧ X.H₀ b = none
  bsz : X.base.objs.size ≤ X.s₀.heap.objs.size
  noex : ∀ b o, X.base.get? b = some o → b ∉ X.ex
  exfs : ∀ b ∈ X.ex, b ∉ X.fs
  funs : X.s₀.heap.FunFrames X.base X.outer
  frf : ∀ b ∈ X.fs, X.H₀ b = none

structure Inv (X : Cx) (pins : List (Addr × Obj)) (σ : List (Option V)) (H : Hp) (s : Shared) : Prop where
  ok : X.Ok
  os : s.os = X.s₀.os
  bare : AllBare s.gens
  base : Un X.fs X.ex X.H₀ H X.s₀.heap s.heap
  loc : ∃ m, s.heap.Ns X.env.locals m ∧ ∀ (i : Nat) (x : Str) (v : V), X.N[i]? = some x → σ[i]? = some (some v) → Vis X.env.scope x → ∃ u, RelV v u ∧ Look X.env s.heap m x u
  cell : ∀ x c, X.env.cells.lookup x = some c → ∃ v, s.heap.IsCell c v
  free : H X.env.locals = none
  freeC : ∀ x c, X.env.cells.lookup x = some c → H c = none
  pin : ∀ p ∈ X.pn ++ pins, s.heap.get? p.1 = some p.2 ∧ H p.1 = none ∧ p.1 ≠ X.env.locals ∧ p.1 ∉ X.fs ∧ ∀ v, p.2.data ≠ .cell v
  hok : HOk X.prog X.w H s.heap
  len : σ.length = X.N.length

section
variable {X : Cx} {pins : List (Addr × Obj)} {σ : List (Option V)} {H H' : Hp} {s : Shared} {h' : Heap}

theorem Cx.Ok.nofr (ok : X.Ok) {b : Addr} {o : Obj} (e : X.base.get? b = some o) : b ∉ X.fs := fun hb => by
  have := (ok.funs.mem hb).1
  rw [e] at this; cases this
theorem Inv.bs (I : Inv X pins σ H s) : ∀ b o, X.base.get? b = some o → s.heap.get? b = some o ∧ H b = none := fun b o e =>
  ⟨I.base.keep b o (I.ok.bs b o e).1 (I.ok.bs b o e).2 (I.ok.nofr e) (I.ok.noex b o e), I.base.free b o (I.ok.bs b o e).1 (I.ok.bs b o e).2 (I.ok.noex b o e)⟩
theorem Inv.bk (I : Inv X pins σ H s) : ∀ b o, X.base.get? b = some o → s.heap.get? b = some o := fun b o e => (I.bs b o e).1
theorem Inv.mod (I : Inv X pins σ H s) : Mod X.K X.mg X.base := I.ok.mod
theorem Inv.kIn (I : Inv X pins σ H s) : X.K.In s.heap := I.ok.mod.kin.keeps I.bk
theorem Inv.nolimit (I : Inv X pins σ H s) : s.heap.NoLimit := I.ok.mod.nolimit.keeps I.bk
/-- the frame over the base: for OpenK's rules (K.In X.base is I.mod.kin) -/
theorem Inv.fr (I : Inv X pins σ H s) : ∃ m, Fr X.base X.env.locals s.heap m :=
  let ⟨m, hn, _⟩ := I.loc
  ⟨m, hn, I.bk, Nat.le_trans I.ok.bsz I.ok.above⟩
theorem Inv.lt (I : Inv X pins σ H s) : X.env.locals < s.heap.objs.size := let ⟨_, hn, _⟩ := I.loc; hn.lt
theorem Inv.sz (I : Inv X pins σ H s) : X.s₀.heap.objs.size ≤ s.heap.objs.size := Nat.le_trans I.ok.above (Nat.le_of_lt I.lt)
theorem Inv.nofs (I : Inv X pins σ H s) {a : Addr} (h : s.heap.objs.size ≤ a) : a ∉ X.fs := fun hb => by
  obtain ⟨_, o, ho, _⟩ := I.ok.funs.mem hb
  exact absurd (Nat.lt_of_lt_of_le (Heap.lt_size ho) (Nat.le_trans I.sz h)) (Nat.lt_irrefl _)
theorem Inv.cne (I : Inv X pins σ H s) : ∀ x c, X.env.cells.lookup x = some c → c ≠ X.env.locals := fun x c e z => by
  obtain ⟨v, o, ho, hd⟩ := I.cell x c e
  obtain ⟨m, ⟨o', es, ep, ho', hd', _⟩, _⟩ := I.loc
  rw [z, ho'] at ho; cases ho; rw [hd'] at hd; cases hd
theorem Inv.funs (I : Inv X pins σ H s) : s.heap.FunFrames X.base X.outer := by
  have all : ∀ (l : List Env), (∀ b ∈ frs l, b ∈ X.fs) → X.s₀.heap.FunFrames X.base l → s.heap.FunFrames X.base l := by
    intro l
    induction l with
    | nil => intro _ _; trivial
    | cons env r ih =>
      intro hs hl
      obtain ⟨hk, ⟨L, o, hf, hn, ho, hd⟩, hr⟩ := hl
      have hL : L ∈ X.fs := hs L (by unfold frs; rw [List.filterMap_cons, hf]; exact List.mem_cons_self)
      obtain ⟨sl, e⟩ := I.base.slot L o ho (I.ok.frf L hL) hL fun z => I.ok.exfs L z hL
      exact ⟨hk, ⟨L, _, hf, hn, e, hd⟩, ih (fun b hb => hs b (by unfold frs; rw [List.filterMap_cons, hf]; exact List.mem_cons_of_mem _ hb)) hr⟩
  exact all X.outer (fun _ hb => hb) I.ok.funs

/-- the frames that run, for a call -/
theorem Inv.stack (I : Inv X pins σ H s) : s.heap.FunFrames X.base X.stack := by
  rcases I.ok.stk with e | ⟨e, hf⟩
  · rw [e]; exact I.funs
  · rw [e]
    obtain ⟨m, hn, _⟩ := I.loc
    refine .cons (by rw [I.ok.kind]; decide) hf hn ?_ I.funs
    exact Heap.get?_none_of_le (Nat.le_trans I.ok.bsz I.ok.above)
theorem Inv.stkSub (I : Inv X pins σ H s) : ∀ b ∈ frs X.stack, b ∈ X.env.locals :: X.fs := fun b hb => by
  rcases I.ok.stk with e | ⟨e, hf⟩
  · rw [e] at hb; exact List.mem_cons_of_mem _ hb
  · rw [e] at hb
    unfold frs at hb
    rw [List.filterMap_cons, hf] at hb
    exact hb
theorem Inv.stkFree (I : Inv X pins σ H s) : ∀ b ∈ frs X.stack, H b = none := fun b hb => by
  rcases List.mem_cons.mp (I.stkSub b hb) with e | hb
  · rw [e]; exact I.free
  · obtain ⟨_, o, ho, _⟩ := I.ok.funs.mem hb
    exact I.base.free b o ho (I.ok.frf b hb) fun z => I.ok.exfs b z hb

/-- THE STEP: the untracked objects but the frame and the records at ch are kept (the callers' frames up to slots), the frame's map is kept, the new abstract heap is held -/
theorem Inv.step {g' : Array GenState} {t' : Nat} {d' : Drawn} {ch : List Addr} (I : Inv X pins σ H s)
    (hch : ∀ b ∈ ch, (b ∈ X.ex ∨ X.s₀.heap.objs.size ≤ b) ∧ b ≠ X.env.locals ∧ (∀ x c, X.env.cells.lookup x = some c → c ≠ b) ∧ ∀ p ∈ X.pn ++ pins, p.1 ≠ b)
    (keep : ∀ b o, b ≠ X.env.locals → b ∉ X.fs → b ∉ ch → s.heap.get? b = some o → H b = none → h'.get? b = some o)
    (slot : ∀ b o, b ≠ X.env.locals → b ∈ X.fs → b ∉ ch → s.heap.get? b = some o → H b = none → ∃ sl, h'.get? b = some { o with slots := sl }) (free : ∀ b o, b ∉ ch → s.heap.get? b = some o → H b = none → H' b = none)
    (there : ∀ b o, b ∉ ch → s.heap.get? b = some o → ∃ o', h'.get? b = some o')
    (tups : ∀ b xs, H b = some (.tup xs) → H' b = some (.tup xs)) (frzs : ∀ b o u, H b = some (.frz o u) → H' b = some (.frz o u)) (tbls : ∀ b ps, H b = some (.tbl ps) → ∃ more, H' b = some (.tbl (ps ++ more)))
    (ns : ∀ m, s.heap.Ns X.env.locals m → h'.Ns X.env.locals m) (hok : HOk X.prog X.w H' h') (hg : AllBare g') :
    Inv X pins σ H' { s with heap := h', gens := g', drawn := d', toks := t' } := by
  have neL : ∀ b o, X.s₀.heap.get? b = some o → b ≠ X.env.locals := fun b o e => Nat.ne_of_lt (Nat.lt_of_lt_of_le (Heap.lt_size e) I.ok.above)
  have neC : ∀ b o, X.s₀.heap.get? b = some o → b ∉ X.ex → b ∉ ch := fun b o e hx hb => by
    rcases (hch b hb).1 with z | z
    · exact hx z
    · exact absurd (Nat.lt_of_lt_of_le (Heap.lt_size e) z) (Nat.lt_irrefl _)
  have cellK : ∀ x c, X.env.cells.lookup x = some c → ∀ v, s.heap.IsCell c v → h'.IsCell c v := fun x c e v ⟨o, ho, hd⟩ => by
    have nch : c ∉ ch := fun z => (hch c z).2.2.1 x c e rfl
    by_cases hc : c ∈ X.fs
    · obtain ⟨sl, q⟩ := slot c o (I.cne x c e) hc nch ho (I.freeC x c e)
      exact ⟨_, q, hd⟩
    · exact ⟨o, keep c o (I.cne x c e) hc nch ho (I.freeC x c e), hd⟩
  refine ⟨I.ok, I.os, hg, ⟨fun b o e n hb hx => ?_, fun b o e n hb hx => ?_, fun b o e n hx => ?_, fun b o e hx => ?_, fun b xs e => tups b xs (I.base.tups b xs e), fun b o xs e => frzs b o xs (I.base.frzs b o xs e), fun b ps e => ?_⟩, ?_, fun x c e => ?_, ?_, fun x c e => ?_, fun p hp => ?_, hok, I.len⟩
  · exact keep b o (neL b o e) hb (neC b o e hx) (I.base.keep b o e n hb hx) (I.base.free b o e n hx)
  · obtain ⟨sl, e1⟩ := I.base.slot b o e n hb hx
    obtain ⟨sl', e2⟩ := slot b _ (neL b o e) hb (neC b o e hx) e1 (I.base.free b o e n hx)
    exact ⟨sl', e2⟩
  · obtain ⟨o', e1⟩ := I.base.there b o e hx
    exact free b o' (neC b o e hx) e1 (I.base.free b o e n hx)
  · obtain ⟨o', e1⟩ := I.base.there b o e hx
    exact there b o' (neC b o e hx) e1
  · obtain ⟨m1, e1⟩ := I.base.tbls b ps e
    obtain ⟨m2, e2⟩ := tbls b _ e1
    exact ⟨m1 ++ m2, by rw [e2, Array.append_assoc]⟩
  · obtain ⟨m, hn, hl⟩ := I.loc
    refine ⟨m, ns m hn, fun i x v e1 e2 e3 => ?_⟩
    obtain ⟨u, r, l⟩ := hl i x v e1 e2 e3
    refine ⟨u, r, ?_⟩
    rcases l with l | ⟨k, c, e, z⟩
    · exact .inl l
    · exact .inr ⟨k, c, e, cellK x c e _ z⟩
  · obtain ⟨v, z⟩ := I.cell x c e
    exact ⟨v, cellK x c e v z⟩
  · obtain ⟨m, ⟨o, _, _, ho, _⟩, _⟩ := I.loc
    exact free _ o (fun z => (hch _ z).2.1 rfl) ho I.free
  · obtain ⟨v, o, ho, hd⟩ := I.cell x c e
    exact free c o (fun z => (hch c z).2.2.1 x c e rfl) ho (I.freeC x c e)
  · obtain ⟨e, n, ne, nf, d⟩ := I.pin p hp
    have nch : p.1 ∉ ch := fun z => (hch p.1 z).2.2.2 p hp rfl
    exact ⟨keep p.1 p.2 ne nf nch e n, free p.1 p.2 nch e n, ne, nf, d⟩
/-- .. where the frame's own object is kept too -/
theorem Inv.un {t' : Nat} (I : Inv X pins σ H s) (u : Un X.fs [] H H' s.heap h') (hok : HOk X.prog X.w H' h') : Inv X pins σ H' { s with heap := h', toks := t' } := by
  obtain ⟨m, ⟨o, es, ep, ho, r⟩, _⟩ := id I.loc
  obtain ⟨sl, hL⟩ := u.any ho I.free (by simp)
  exact I.step (g' := s.gens) (d' := s.drawn) (ch := []) (fun _ z => nomatch z) (fun b o _ hb _ e n => u.keep b o e n hb (by simp)) (fun b o _ hb _ e n => u.slot b o e n hb (by simp)) (fun b o _ e n => u.free b o e n (by simp)) (fun b o _ e => u.there b o e (by simp)) u.tups u.frzs u.tbls (fun m' hm => by
    obtain ⟨o', es', ep', ho', r'⟩ := hm
    rw [ho] at ho'; cases ho'
    exact ⟨_, es', ep', hL, r'⟩) hok I.bare
/-- behind a call (or a comprehension's block): the slots of this frame may have changed too, the records at ch may have turned -/
theorem Inv.call {g' : Array GenState} {t' : Nat} {d' : Drawn} {ch : List Addr} (I : Inv X pins σ H s) (u : Un (frs X.stack) ch H H' s.heap h') (hok : HOk X.prog X.w H' h') (hg : AllBare g')
    (hch : ∀ b ∈ ch, (b ∈ X.ex ∨ X.s₀.heap.objs.size ≤ b) ∧ b ≠ X.env.locals ∧ (∀ x c, X.env.cells.lookup x = some c → c ≠ b) ∧ ∀ p ∈ X.pn ++ pins, p.1 ≠ b) :
    Inv X pins σ H' { s with heap := h', gens := g', drawn := d', toks := t' } := by
  obtain ⟨m, ⟨o, es, ep, ho, r⟩, _⟩ := id I.loc
  obtain ⟨sl, hL⟩ := u.any ho I.free fun z => (hch _ z).2.1 rfl
  exact I.step (ch := ch) hch (fun b o hL hb hc e n => u.keep b o e n (fun z => (List.mem_cons.mp (I.stkSub b z)).elim hL hb) hc) (fun b o _ _ hc e n => u.any e n hc) (fun b o hc e n => u.free b o e n hc) (fun b o hc e => u.there b o e hc) u.tups u.frzs u.tbls (fun m' hm => by
    obtain ⟨o', es', ep', ho', r'⟩ := hm
    rw [ho] at ho'; cases ho'
    exact ⟨_, es', ep', hL, r'⟩) hok hg
/-- an untracked record of ours (an iterator) has turned -/
theorem Inv.turned {t' : Nat} {it : Addr} (I : Inv X pins σ H s) (k : ∀ b o, b ≠ it → s.heap.get? b = some o → h'.get? b = some o) (hn : H it = none) (hL : it ≠ X.env.locals)
    (h1 : it ∈ X.ex ∨ X.s₀.heap.objs.size ≤ it) (h2 : ∀ x c, X.env.cells.lookup x = some c → c ≠ it) (h3 : ∀ p ∈ X.pn ++ pins, p.1 ≠ it) : Inv X pins σ H { s with heap := h', toks := t' } := by
  have nit : ∀ b u, H b = some u → b ≠ it := fun b u e z => by rw [z, hn] at e; cases e
  refine I.step (g' := s.gens) (d' := s.drawn) (ch := [it]) (fun b hb => ?_) (fun b o _ _ hc e _ => k b o (fun z => hc (by simp [z])) e) (fun b o _ _ hc e _ => ⟨o.slots, k b o (fun z => hc (by simp [z])) e⟩) (fun _ _ _ _ n => n)
    (fun b o hc e => ⟨o, k b o (fun z => hc (by simp [z])) e⟩) (fun _ _ e => e) (fun _ _ _ e => e) (fun b ps e => ⟨#[], by rw [e]; simp⟩) (fun m hm => ?_) (fun b u e => ?_) I.bare
  · have e : b = it := by simpa using hb
    subst e
    exact ⟨h1, hL, h2, h3⟩
  · obtain ⟨o, es, ep, ho, r⟩ := hm
    exact ⟨o, es, ep, k _ o (Ne.symm hL) ho, r⟩
  · refine (I.hok b u e).stay (fun c v hc q => k c v ?_ q) (fun _ q => q) fun _ _ q => q
    rcases hc with z | z
    · rw [z]; exact nit b u e
    · exact nit c _ z
theorem Inv.tok (I : Inv X pins σ H s) (t : Nat) : Inv X pins σ H { s with toks := t } := I.un (h' := s.heap) (t' := t) Un.refl I.hok
/-- all objects kept -/
theorem Inv.kept {t' : Nat} (I : Inv X pins σ H s) (k : ∀ b u, s.heap.get? b = some u → h'.get? b = some u) : Inv X pins σ H { s with heap := h', toks := t' } := I.un (Un.kept k) (I.hok.kept k)
/-- a new object laid and tracked -/
theorem Inv.laid {a : Addr} {o : HO} {t' : Nat} (I : Inv X pins σ H s) (k : ∀ b u, s.heap.get? b = some u → h'.get? b = some u) (hp : s.heap.objs.size ≤ a) (new : ObjOk X.prog X.w (upd H a o) h' a o) :
    Inv X pins σ (upd H a o) { s with heap := h', toks := t' } := I.un (Un.laid k hp (I.hok.fresh hp)) (I.hok.laid k hp new)
/-- an object written -/
theorem Inv.write {x e : Addr} {o : HO} {t' : Nat} (I : Inv X pins σ H s) (mu : Mut (H x)) (he : e = x ∨ H e = some (.own x)) (k : ∀ b u, b ≠ e → s.heap.get? b = some u → h'.get? b = some u) (heo : ∃ u, h'.get? e = some u)
    (new : ObjOk X.prog X.w (upd H x o) h' x o) : Inv X pins σ (upd H x o) { s with heap := h', toks := t' } := I.un (Un.write mu he k heo) (I.hok.write mu he k heo new)
/-- forgetting slots, pins -/
theorem Inv.weak {σ' : List (Option V)} (I : Inv X pins σ H s) (hl : σ'.length = σ.length) (w : ∀ (i : Nat) v, σ'[i]? = some (some v) → σ[i]? = some (some v)) : Inv X pins σ' H s :=
  ⟨I.ok, I.os, I.bare, I.base, let ⟨m, hn, hl'⟩ := I.loc; ⟨m, hn, fun i x v e1 e2 e3 => hl' i x v e1 (w i v e2) e3⟩, I.cell, I.free, I.freeC, I.pin, I.hok, hl.trans I.len⟩
theorem Inv.pins_of {pins' : List (Addr × Obj)} (I : Inv X pins σ H s) (h : ∀ p ∈ pins', s.heap.get? p.1 = some p.2 ∧ H p.1 = none ∧ p.1 ≠ X.env.locals ∧ p.1 ∉ X.fs ∧ ∀ v, p.2.data ≠ .cell v) : Inv X pins' σ H s :=
  ⟨I.ok, I.os, I.bare, I.base, I.loc, I.cell, I.free, I.freeC, fun p hp => (List.mem_append.mp hp).elim (fun z => I.pin p (List.mem_append_left _ z)) (h p), I.hok, I.len⟩

theorem nodup_ix {N : List Str} (hN : N.Nodup) {i j : Nat} {x : Str} (a : N[i]? = some x) (b : N[j]? = some x) : i = j := by
  obtain ⟨h1, e1⟩ := List.getElem?_eq_some_iff.mp a
  obtain ⟨h2, e2⟩ := List.getElem?_eq_some_iff.mp b
  exact (List.getElem_inj hN).mp (e1.trans e2.symm)

/-- a name is stored; what changed -/
theorem store_ok2 {M : Model} {A : Around} {E : Value → Shared → Prop} {i : Nat} {x : Str} {v : V} {u : Value} {Q : Unit → Shared → Prop} (I : Inv X pins σ H s) (hN : X.N.Nodup) (hi : X.N[i]? = some x) (hx : Loc X.env.scope x) (r : RelV v u)
    (h : ∀ s', Inv X pins (σ.set i (some v)) H s' → (∃ a, Heap.SameBut a s.heap s'.heap ∧ (a = X.env.locals ∨ X.env.cells.lookup x = some a)) → Q () s') (hf : X.fn x = true ∨ X.env.scope.names.lookup x = some .local := by first | exact .inl rfl | exact .inr rfl | assumption) : wpAny M A (storeName X.env x u) Q E s := by
  obtain ⟨m, hn, hl⟩ := id I.loc
  have hcls : (X.env.scope.kind == .class || (X.env.scope.kind == .module && X.env.locals != X.env.globals)) = false := by rw [I.ok.kind]; rfl
  have hiσ : i < σ.length := by rw [I.len]; exact (List.getElem?_eq_some_iff.mp hi).1
  have cne := I.cne
  have tracked : ∀ {a : Addr} {h' : Heap}, (∃ o, s.heap.get? a = some o ∧ H a = none) → Heap.SameBut a s.heap h' → HOk X.prog X.w H h' := fun {a h'} ha hs b ob e => by
    obtain ⟨_, _, hfree⟩ := ha
    refine (I.hok b ob e).stay (fun c w' hc q => (hs.2 c ?_).trans q) (fun _ q => q) fun _ _ q => q
    rintro rfl
    rcases hc with rfl | hc
    · rw [hfree] at e; cases e
    · rw [hfree] at hc; cases hc
  rcases hx with hk | hk
  · refine wpAny_storeName_local hk hn (fun h' hn' hs => ?_) hcls
    obtain ⟨oL, _, _, hoL, _⟩ := id hn
    refine h _ ⟨I.ok, I.os, I.bare, ⟨fun b o e n hb hx => ?_, fun b o e n hb hx => ?_, I.base.free, fun b o e hx => ?_, I.base.tups, I.base.frzs, I.base.tbls⟩, ⟨_, hn', fun j y v' e1 e2 e3 => ?_⟩, fun y c e => ?_, I.free, I.freeC, fun p hp => ?_, tracked ⟨oL, hoL, I.free⟩ hs, by simpa using I.len⟩ ⟨_, hs, .inl rfl⟩
    · exact (hs.2 b (Nat.ne_of_lt (Nat.lt_of_lt_of_le (Heap.lt_size e) I.ok.above))).trans (I.base.keep b o e n hb hx)
    · obtain ⟨sl, e1⟩ := I.base.slot b o e n hb hx
      exact ⟨sl, (hs.2 b (Nat.ne_of_lt (Nat.lt_of_lt_of_le (Heap.lt_size e) I.ok.above))).trans e1⟩
    · obtain ⟨o', e1⟩ := I.base.there b o e hx
      exact ⟨o', (hs.2 b (Nat.ne_of_lt (Nat.lt_of_lt_of_le (Heap.lt_size e) I.ok.above))).trans e1⟩
    · by_cases hj : j = i
      · subst hj
        rw [hi] at e1; cases e1
        rw [List.getElem?_set_self hiσ] at e2
        cases e2
        exact ⟨u, r, .inl ⟨hk, by simp⟩⟩
      · rw [List.getElem?_set_ne (Ne.symm hj)] at e2
        obtain ⟨u', r', q⟩ := hl j y v' e1 e2 e3
        refine ⟨u', r', ?_⟩
        rcases q with ⟨k, e⟩ | ⟨k, c, e, z⟩
        · refine .inl ⟨k, ?_⟩
          have : y ≠ x := fun e => hj (nodup_ix hN e1 (e ▸ hi))
          simp [this, e]
        · exact .inr ⟨k, c, e, z.sameBut hs (cne y c e)⟩
    · obtain ⟨w', z⟩ := I.cell y c e
      exact ⟨w', z.sameBut hs (cne y c e)⟩
    · obtain ⟨e, n, ne, nf, d⟩ := I.pin p hp
      exact ⟨(hs.2 p.1 ne).trans e, n, ne, nf, d⟩
  · have hfn : X.fn x = true := by
      rcases hf with z | z
      · exact z
      · rw [z] at hk; cases hk
    obtain ⟨c, hc⟩ := I.ok.has x (.inl hk)
    obtain ⟨w', z⟩ := I.cell x c hc
    refine wpAny_storeName_cell I.ok.kind hk hc z (fun h' hc' hs => ?_)
    obtain ⟨oc, hoc, hocd⟩ := id z
    refine h { s with heap := h' } ⟨I.ok, I.os, I.bare, ⟨fun b o e n hb hx => ?_, fun b o e n hb hx => ?_, I.base.free, fun b o e hx => ?_, I.base.tups, I.base.frzs, I.base.tbls⟩, ⟨m, hn.sameBut hs (Ne.symm (cne x c hc)), fun j y v' e1 e2 e3 => ?_⟩, fun y c' e => ?_, I.free, I.freeC, fun p hp => ?_, tracked ⟨oc, hoc, I.freeC x c hc⟩ hs, by simpa using I.len⟩ ⟨c, hs, .inr hc⟩
    · exact (hs.2 b (Nat.ne_of_lt (Nat.lt_of_lt_of_le (Heap.lt_size e) (I.ok.cab x c hfn hc)))).trans (I.base.keep b o e n hb hx)
    · obtain ⟨sl, e1⟩ := I.base.slot b o e n hb hx
      exact ⟨sl, (hs.2 b (Nat.ne_of_lt (Nat.lt_of_lt_of_le (Heap.lt_size e) (I.ok.cab x c hfn hc)))).trans e1⟩
    · obtain ⟨o', e1⟩ := I.base.there b o e hx
      exact ⟨o', (hs.2 b (Nat.ne_of_lt (Nat.lt_of_lt_of_le (Heap.lt_size e) (I.ok.cab x c hfn hc)))).trans e1⟩
    · by_cases hj : j = i
      · subst hj
        rw [hi] at e1; cases e1
        rw [List.getElem?_set_self hiσ] at e2
        cases e2
        exact ⟨u, r, .inr ⟨.inl hk, c, hc, hc'⟩⟩
      · rw [List.getElem?_set_ne (Ne.symm hj)] at e2
        obtain ⟨u', r', q⟩ := hl j y v' e1 e2 e3
        refine ⟨u', r', ?_⟩
        rcases q with q | ⟨k, c', e, z'⟩
        · exact .inl q
        · refine .inr ⟨k, c', e, z'.sameBut hs ?_⟩
          rintro rfl
          exact hj (nodup_ix hN e1 (I.ok.inj _ _ _ e hc ▸ hi))
    · by_cases hcc : c' = c
      · subst hcc; exact ⟨_, hc'⟩
      · obtain ⟨w2, z2⟩ := I.cell y c' e
        exact ⟨w2, z2.sameBut hs hcc⟩
    · obtain ⟨e, n, ne, nf, d⟩ := I.pin p hp
      refine ⟨(hs.2 p.1 ?_).trans e, n, ne, nf, d⟩
      intro q
      rw [q, hoc] at e
      have q' : oc = p.2 := Option.some.inj e
      exact d w' (by rw [← q']; exact hocd)
theorem store_ok {M : Model} {A : Around} {E : Value → Shared → Prop} {i : Nat} {x : Str} {v : V} {u : Value} {Q : Unit → Shared → Prop} (I : Inv X pins σ H s) (hN : X.N.Nodup) (hi : X.N[i]? = some x) (hx : Loc X.env.scope x) (r : RelV v u)
    (h : ∀ s', Inv X pins (σ.set i (some v)) H s' → Q () s') (hf : X.fn x = true ∨ X.env.scope.names.lookup x = some .local := by first | exact .inl rfl | exact .inr rfl | assumption) : wpAny M A (storeName X.env x u) Q E s :=
  store_ok2 I hN hi hx r (fun s' I' _ => h s' I') hf
end

/-! ### the judgements -/
/-- an exception: its class, its own dict's address (where it has one), the abstract heap behind it -/
abbrev XK := Value → Option Addr → Hp → Prop
abbrev St := List (Option V)
abbrev VK := V → Hp → Prop
/-- an expression's reading; a test's; an argument list's -/
abbrev TE := St → Hp → VK → Prop
abbrev TT := St → Hp → (Bool → Hp → Prop) → Prop
abbrev TA := St → Hp → (List V → Hp → Prop) → Prop
/-- what is wanted behind a statement -/
structure Ends where
  nx : St → Hp → Prop
  rt : VK
  bk : St → Hp → Prop := fun _ _ => False
  ct : St → Hp → Prop := fun _ _ => False
abbrev TS := Ends → St → Hp → Prop

def EP (X : Cx) (pins : List (Addr × Obj)) (σ : St) (Q : VK) (u : Value) (s' : Shared) : Prop := ∃ v H', Inv X pins σ H' s' ∧ RelV v u ∧ Q v H'
def TP (X : Cx) (pins : List (Addr × Obj)) (σ : St) (Q : Bool → Hp → Prop) (b : Bool) (s' : Shared) : Prop := ∃ H', Inv X pins σ H' s' ∧ Q b H'
def AP (X : Cx) (pins : List (Addr × Obj)) (σ : St) (Q : List V → Hp → Prop) (us : List Value) (s' : Shared) : Prop := ∃ vs H', Inv X pins σ H' s' ∧ Vals vs us ∧ Q vs H'
def SP (X : Cx) (pins : List (Addr × Obj)) (D : Ends) (f : Flow) (s' : Shared) : Prop :=
  match f with
  | .next => ∃ σ' H', Inv X pins σ' H' s' ∧ D.nx σ' H'
  | .brk => ∃ σ' H', Inv X pins σ' H' s' ∧ D.bk σ' H'
  | .cont => ∃ σ' H', Inv X pins σ' H' s' ∧ D.ct σ' H'
  | .ret u => ∃ v σ' H', Inv X pins σ' H' s' ∧ RelV v u ∧ D.rt v H'

def PE (X : Cx) (e : Expr) (t : TE) : Prop :=
  ∀ (pins : List (Addr × Obj)) (s : Shared) (σ : St) (H : Hp) (Q : VK), Inv X pins σ H s → t σ H Q → wpAny (model X.prog X.w) X.A (eval e X.env) (EP X pins σ Q) X.xe s
def PT (X : Cx) (e : Expr) (t : TT) : Prop :=
  ∀ (pins : List (Addr × Obj)) (s : Shared) (σ : St) (H : Hp) (Q : Bool → Hp → Prop), Inv X pins σ H s → t σ H Q → wpAny (model X.prog X.w) X.A (isTrue e X.env (eval e X.env)) (TP X pins σ Q) X.xe s
/-- a test whatever its 'whole' is (and, or) -/
def PW (X : Cx) (e : Expr) (t : TT) : Prop :=
  ∀ (whole : Sem Value) (pins : List (Addr × Obj)) (s : Shared) (σ : St) (H : Hp) (Q : Bool → Hp → Prop), Inv X pins σ H s → t σ H Q → wpAny (model X.prog X.w) X.A (isTrue e X.env whole) (TP X pins σ Q) X.xe s
theorem PW.pt {X : Cx} {e : Expr} {t : TT} (h : PW X e t) : PT X e t := h _
/-- an argument list (no star), from the left -/
def PA (X : Cx) (es : List Expr) (t : TA) : Prop :=
  ∀ (pos : Pos) (pins : List (Addr × Obj)) (s : Shared) (σ : St) (H : Hp) (Q : List V → Hp → Prop), Inv X pins σ H s → t σ H Q → wpAny (model X.prog X.w) X.A (spliced (backTo pos (starEach es X.env))) (AP X pins σ Q) X.xe s
def PS (X : Cx) (st : Stmt) (t : TS) : Prop :=
  ∀ (pins : List (Addr × Obj)) (s : Shared) (σ : St) (H : Hp) (D : Ends), Inv X pins σ H s → t D σ H → wpAny (model X.prog X.w) X.A (exec st X.env) (SP X pins D) X.xe s
def PSs (X : Cx) (st : List Stmt) (t : TS) : Prop :=
  ∀ (pins : List (Addr × Obj)) (s : Shared) (σ : St) (H : Hp) (D : Ends), Inv X pins σ H s → t D σ H → wpAny (model X.prog X.w) X.A (execs st X.env) (SP X pins D) X.xe s
/-- weaken the end -/
theorem thn {α : Type} {t : Sem α} {Q Q' : α → Shared → Prop} {M : Model} {A : Around} {E : Value → Shared → Prop} {s : Shared} (h : wpAny M A t Q E s) (hQ : ∀ a s, Q a s → Q' a s) : wpAny M A t Q' E s := wpAny_mono h hQ fun _ _ x => x
end L2

namespace L2
open PySem PySem.Spec PyProof.Rows
section
variable {X : Cx}


/-! ### names and constants -/
def tVar (i : Nat) : TE := fun σ H Q => ∃ v, σ[i]? = some (some v) ∧ Q v H
def tC (v : V) : TE := fun _ H Q => Q v H
theorem pe_var {i : Nat} {x : Str} {pos : Pos} (hN : X.N[i]? = some x) (hv : Vis X.env.scope x) (hd : (x == ("__debug__" : Str)) = false := by decide) (hcd : (x == ("__classdict__" : Str)) = false := by decide) : PE X (.Name x pos) (tVar i) := by
  intro pins s σ H Q I h
  obtain ⟨v, e, h⟩ := h
  obtain ⟨m, hn, hl⟩ := I.loc
  obtain ⟨u, r, l⟩ := hl i x v hN e hv
  have fin : EP X pins σ Q u s := ⟨v, H, I, r, h⟩
  rcases l with ⟨hk, hm⟩ | ⟨hk, c, hc, hcell⟩
  · exact wpAny_Name (wpAny_loadName_local I.ok.kind hk hn hm fin) hd
  · rcases hk with hk | hk
    · exact wpAny_Name (wpAny_loadName_cell I.ok.kind hk hc hcell fin) hd
    · exact wpAny_Name (wpAny_loadName_free I.ok.kind hk hc hcell fin hcd) hd
theorem pe_int {i j pos} : PE X (.Constant (.int i) j pos) (tC (.int i)) := fun _ _ _ H _ I h => wpAny_Constant_int ⟨.int i, H, I.tok _, ⟨_, rfl⟩, h⟩
theorem pe_bl {b j pos} : PE X (.Constant (.bool b) j pos) (tC (.bl b)) := fun _ _ _ H _ I h => Constant_bool ⟨.bl b, H, I, rfl, h⟩

/-- a global name of the def -/
def Gl (X : Cx) (x : Str) : Prop := X.env.kindOf x = some .globalImplicit
theorem ld_glob {E : Value → Shared → Prop} {pins : List (Addr × Obj)} {s : Shared} {σ : St} {H : Hp} {x : Str} {u : Value} {pos : Pos} {Q : Value → Shared → Prop} (I : Inv X pins σ H s) (hg : Gl X x) (hm : X.mg x = some u) (h : Q u s)
    (hd : (x == ("__debug__" : Str)) = false := by decide) : wpAny (model X.prog X.w) X.A (eval (.Name x pos) X.env) Q E s :=
  Calls.Name_function_global I.ok.kind hg (Calls.loadGlobal_global (by rw [I.ok.glob]; exact I.mod.glob.keeps I.bk) hm h) hd
theorem ld_blt {E : Value → Shared → Prop} {pins : List (Addr × Obj)} {s : Shared} {σ : St} {H : Hp} {x : Str} {u : Value} {pos : Pos} {Q : Value → Shared → Prop} (I : Inv X pins σ H s) (hg : Gl X x) (hm : X.mg x = none) (hv : bootBuiltins x = some u) (h : Q u s)
    (hn : x ≠ "__name__" := by decide) (hd : (x == ("__debug__" : Str)) = false := by decide) : wpAny (model X.prog X.w) X.A (eval (.Name x pos) X.env) Q E s := by
  obtain ⟨mb, h1, h2⟩ := I.mod.blt
  exact Calls.Name_function_global I.ok.kind hg (Calls.loadGlobal_builtin (by rw [I.ok.glob]; exact I.mod.glob.keeps I.bk) hm (by rw [I.ok.blt]; exact h1.keeps I.bk) ((h2 x hn).trans hv) h) hd

/-! ### arithmetic -/
variable {a b : Expr} {ta tb : TE} {pos : Pos}

/-! ### comparisons -/
/-- a comparison as a value, as a test -/
def tB (t : TE) : TT := fun σ H Q => t σ H fun x H1 => ∃ c, x = .bl c ∧ Q c H1
/-- an expression whose value is a bool, as a test -/
theorem pt_val {e : Expr} {t : TE} (h : PE X e t) (he : ∀ whole, isTrue e X.env whole = (do let v ← whole; standAt e.pos; holding [v] (truthy v)) := by intro _; rfl) : PT X e (tB t) := by
  intro pins s σ H Q I hw
  refine isTrue_plain (thn (h pins s σ H _ I hw) fun v s1 ⟨x, H1, I1, r1, q1⟩ => ?_) (he _)
  obtain ⟨d, rfl, q⟩ := q1
  cases r1
  exact wpAny_truthy_bool ⟨H1, I1, q⟩

/-! ### and, or, not -/
variable {tA tB' : TT} {rest : List Expr}
def tOr (t u : TT) : TT := fun σ H Q => t σ H fun c H1 => if c = true then Q true H1 else u σ H1 Q
def tNot (t : TT) : TT := fun σ H Q => t σ H fun c H1 => Q (!c) H1
theorem pw_or1 (ha : PT X a tA) : PW X (.BoolOp .Or [a] pos) tA := by
  intro wh pins s σ H Q I h
  refine isTrue_or (thn (ha pins s σ H Q I h) fun c s1 e => ?_)
  cases c with
  | false => exact isTrue_or_nil e
  | true => exact e
theorem pw_or (ha : PT X a tA) (hb : PW X (.BoolOp .Or (b :: rest) pos) tB') : PW X (.BoolOp .Or (a :: b :: rest) pos) (tOr tA tB') := by
  intro wh pins s σ H Q I h
  refine isTrue_or (thn (ha pins s σ H _ I h) fun c s1 ⟨H1, I1, q1⟩ => ?_)
  cases c with
  | true => exact ⟨H1, I1, q1⟩
  | false => exact hb wh pins s1 σ H1 Q I1 q1
theorem pt_not (ha : PT X a tA) : PT X (.UnaryOp .Not a pos) (tNot tA) := by
  intro pins s σ H Q I h
  exact isTrue_not (ha pins s σ H (fun c H1 => Q (!c) H1) I h)
/-- .. as values (bools) -/
def tAndV (ta tb : TE) : TE := fun σ H Q => ta σ H fun x H1 => ∃ c, x = .bl c ∧ if c = true then tb σ H1 Q else Q (.bl false) H1
def tNotV (ta : TE) : TE := fun σ H Q => ta σ H fun x H1 => ∃ c, x = .bl c ∧ Q (.bl (!c)) H1
theorem pe_one {op} {t : TE} (h : PE X a t) : PE X (.BoolOp op [a] pos) t := fun pins s σ H Q I hw => BoolOp_one (h pins s σ H Q I hw)
theorem pe_and (ha : PE X a ta) (hb : PE X (.BoolOp .And (b :: rest) pos) tb) : PE X (.BoolOp .And (a :: b :: rest) pos) (tAndV ta tb) := by
  intro pins s σ H Q I h
  refine BoolOp_and (thn (ha pins s σ H _ I h) fun v s1 ⟨x, H1, I1, r1, q1⟩ => ?_)
  obtain ⟨c, rfl, q1⟩ := q1
  cases r1
  refine wpAny_truthy_bool ?_
  cases c with
  | true => exact hb pins s1 σ H1 Q I1 q1
  | false => exact ⟨.bl false, H1, I1, rfl, q1⟩
theorem pe_not (ha : PE X a ta) : PE X (.UnaryOp .Not a pos) (tNotV ta) := by
  intro pins s σ H Q I h
  refine UnaryOp_ (thn (ha pins s σ H _ I h) fun v s1 ⟨x, H1, I1, r1, q1⟩ => ?_)
  obtain ⟨c, rfl, q1⟩ := q1
  cases r1
  exact not_of (wpAny_truthy_bool ⟨.bl (!c), H1, I1, rfl, q1⟩)
end
end L2

namespace L2
open PySem PySem.Spec PyProof.Rows

/-! ### a list, a tuple that is read: tracked, frozen, or an object of the module -/
def SqL (K : PySem.W.Frag) (H : Hp) (a : Addr) (xs : List V) : Prop :=
  Rd H a (.lst xs) ∨
    ∃ (o : Obj) (its : Array Value) (n : Nat), K.lookup a = some o ∧ o.cls = .type "list" ∧ o.dict = none ∧ o.data = .seq its n ∧ its.size ≤ sizeLine ∧ Vals xs its.toList
def SqT (K : PySem.W.Frag) (H : Hp) (a : Addr) (xs : List V) : Prop :=
  Rd H a (.tup xs) ∨
    ∃ (o : Obj) (its : Array Value) (n : Nat), K.lookup a = some o ∧ o.cls = .type "tuple" ∧ o.data = .seq its n ∧ its.size ≤ sizeLine ∧ Vals xs its.toList
def absV : Value → Option V
  | .none => some .non
  | .bool b => some (.bl b)
  | .int i _ => some (.int i)
  | .str x _ => some (.str x)
  | .bytes b _ => some (.byt b)
  | .float b _ => some (.flt b)
  | .ref a => some (.ref a)
  | .type n => some (.ty n)
  | _ => none
theorem RelV.abs {x : V} {u : Value} (r : RelV x u) : absV u = some x := by
  cases x with
  | non => cases r; rfl
  | bl _ => cases r; rfl
  | int _ => obtain ⟨t, rfl⟩ := r; rfl
  | str _ => obtain ⟨t, rfl⟩ := r; rfl
  | byt _ => obtain ⟨t, rfl⟩ := r; rfl
  | flt _ => obtain ⟨t, rfl⟩ := r; rfl
  | ref _ => cases r; rfl
  | ty _ => cases r; rfl
theorem RelV.inj {x y : V} {u : Value} (r : RelV x u) (q : RelV y u) : x = y := Option.some.inj (r.abs.symm.trans q.abs)
theorem Vals.inj : ∀ {xs ys : List V} {us : List Value}, Vals xs us → Vals ys us → xs = ys
  | _, _, _, .nil, .nil => rfl
  | _, _, _, .cons r t, .cons r' t' => by rw [r.inj r', Vals.inj t t']
section
variable {X : Cx} {pins : List (Addr × Obj)} {σ : St} {H : Hp} {s : Shared} {a : Addr} {xs ys : List V}
theorem SqL.of {K : PySem.W.Frag} (h : H a = some (.lst xs)) : SqL K H a xs := .inl (.inl h)
theorem SqT.of {K : PySem.W.Frag} (h : H a = some (.tup xs)) : SqT K H a xs := .inl (.inl h)
theorem Inv.list (I : Inv X pins σ H s) (h : SqL X.K H a xs) : ∃ its : List Value, Vals xs its ∧ PlainL s.heap a its.toArray ∧ xs.length ≤ sizeLine := by
  rcases h with h | ⟨o, its, n, hk, hc, hd, hs, hz, r⟩
  · obtain ⟨z, its, n, r, e⟩ := h.ok I.hok
    exact ⟨its, r, ⟨_, n, e, rfl, rfl, rfl⟩, z⟩
  · refine ⟨its.toList, r, ⟨o, n, I.kIn a o hk, hc, hd, by simpa using hs⟩, ?_⟩
    have e := r.length
    simp only [Array.length_toList] at e
    omega
theorem Inv.tuple (I : Inv X pins σ H s) (h : SqT X.K H a xs) : ∃ its : List Value, Vals xs its ∧ IsTup s.heap a its.toArray ∧ xs.length ≤ sizeLine := by
  rcases h with h | ⟨o, its, n, hk, hc, hs, hz, r⟩
  · obtain ⟨z, its, r, p⟩ := h.ok I.hok
    exact ⟨its, r, p, z⟩
  · refine ⟨its.toList, r, ⟨o, I.kIn a o hk, hc, n, by simpa using hs⟩, ?_⟩
    have e := r.length
    simp only [Array.length_toList] at e
    omega
theorem Inv.list_inj (I : Inv X pins σ H s) (h : SqL X.K H a xs) (h' : SqL X.K H a ys) : xs = ys := by
  obtain ⟨its, r, ⟨o, n, e, _, _, d⟩, _⟩ := I.list h
  obtain ⟨its', r', ⟨o', n', e', _, _, d'⟩, _⟩ := I.list h'
  rw [e] at e'; cases e'
  rw [d] at d'
  injection d' with d1 _
  have : its = its' := by simpa using congrArg Array.toList d1
  subst this
  exact r.inj r'
theorem Inv.tuple_inj (I : Inv X pins σ H s) (h : SqT X.K H a xs) (h' : SqT X.K H a ys) : xs = ys := by
  obtain ⟨its, r, ⟨o, e, _, n, d⟩, _⟩ := I.tuple h
  obtain ⟨its', r', ⟨o', e', _, n', d'⟩, _⟩ := I.tuple h'
  rw [e] at e'; cases e'
  rw [d] at d'
  injection d' with d1 _
  have : its = its' := by simpa using congrArg Array.toList d1
  subst this
  exact r.inj r'
end

/-! ### another wish about exceptions -/
abbrev Cx.wish (X : Cx) (E : Value → Shared → Prop) : Cx := { X with xe := E }
/-- no exception leaves -/
abbrev Cx.nox (X : Cx) : Cx := X.wish fun _ _ => False
theorem Cx.Ok.wish {X : Cx} (ok : X.Ok) (E : Value → Shared → Prop) : (X.wish E).Ok :=
  ⟨ok.mod, ok.kind, ok.glob, ok.blt, ok.above, ok.inj, ok.has, ok.cab, ok.hd, ok.frames, ok.stk, ok.exf, ok.bs, ok.bsz, ok.noex, ok.exfs, ok.funs, ok.frf⟩
theorem Cx.Ok.unwish {X : Cx} {E : Value → Shared → Prop} (ok : (X.wish E).Ok) : X.Ok :=
  ⟨ok.mod, ok.kind, ok.glob, ok.blt, ok.above, ok.inj, ok.has, ok.cab, ok.hd, ok.frames, ok.stk, ok.exf, ok.bs, ok.bsz, ok.noex, ok.exfs, ok.funs, ok.frf⟩
section
variable {X : Cx} {pins : List (Addr × Obj)} {σ : St} {H : Hp} {s : Shared} {E : Value → Shared → Prop}
theorem Inv.wish (I : Inv X pins σ H s) (E : Value → Shared → Prop) : Inv (X.wish E) pins σ H s := ⟨I.ok.wish E, I.os, I.bare, I.base, I.loc, I.cell, I.free, I.freeC, I.pin, I.hok, I.len⟩
theorem Inv.unwish (I : Inv (X.wish E) pins σ H s) : Inv X pins σ H s := ⟨I.ok.unwish, I.os, I.bare, I.base, I.loc, I.cell, I.free, I.freeC, I.pin, I.hok, I.len⟩
theorem SP.unwish {D : Ends} {f : Flow} {s' : Shared} (h : SP (X.wish E) pins D f s') : SP X pins D f s' := by
  cases f with
  | next => obtain ⟨σ', H', I, q⟩ := h; exact ⟨σ', H', I.unwish, q⟩
  | brk => obtain ⟨σ', H', I, q⟩ := h; exact ⟨σ', H', I.unwish, q⟩
  | cont => obtain ⟨σ', H', I, q⟩ := h; exact ⟨σ', H', I.unwish, q⟩
  | ret u => obtain ⟨v, σ', H', I, r, q⟩ := h; exact ⟨v, σ', H', I.unwish, r, q⟩
theorem PE.nox {e : Expr} {t : TE} (h : PE X.nox e t) : PE X e t := fun pins s σ H Q I hw =>
  wpAny_mono (h pins s σ H Q (I.wish _) hw) (fun _ _ ⟨v, H', I', r, q⟩ => ⟨v, H', I'.unwish, r, q⟩) fun _ _ z => False.elim z
theorem PT.nox {e : Expr} {t : TT} (h : PT X.nox e t) : PT X e t := fun pins s σ H Q I hw =>
  wpAny_mono (h pins s σ H Q (I.wish _) hw) (fun _ _ ⟨H', I', q⟩ => ⟨H', I'.unwish, q⟩) fun _ _ z => False.elim z
theorem PSs.nox {st : List Stmt} {t : TS} (h : PSs X.nox st t) : PSs X st t := fun pins s σ H D I hw =>
  wpAny_mono (h pins s σ H D (I.wish _) hw) (fun _ _ q => q.unwish) fun _ _ z => False.elim z
end

/-! ### blocks and small statements -/
section
variable {X : Cx} {st : Stmt} {rest : List Stmt} {t u : TS} {e : Expr} {te : TE} {pos : Pos}
def tNext : TS := fun D σ H => D.nx σ H
def tSeq (t u : TS) : TS := fun D σ H => t { D with nx := u D } σ H
theorem pss_nil : PSs X [] tNext := fun _ _ σ H _ I h => wpAny_execs_nil ⟨σ, H, I, h⟩
theorem pss_cons (h1 : PS X st t) (h2 : PSs X rest u) : PSs X (st :: rest) (tSeq t u) := by
  intro pins s σ H D I h
  refine wpAny_execs_cons (thn (h1 pins s σ H { D with nx := u D } I h) fun f s1 q => ?_)
  cases f with
  | next =>
    obtain ⟨σ', H', I', q⟩ := q
    exact h2 pins s1 σ' H' D I' q
  | ret v => exact q
  | brk => exact q
  | cont => exact q
/-- in a def's body nothing is shown -/
theorem Inv.quiet {pins : List (Addr × Obj)} {σ : St} {H : Hp} {s : Shared} (I : Inv X pins σ H s) : interactive X.env = false := by simp [interactive, I.ok.kind]
/-- an expression whose value is dropped -/
def tDrop (te : TE) : TS := fun D σ H => te σ H fun _ H1 => D.nx σ H1
theorem ps_expr (he : PE X e te) (hs : swapsWith e none pos.line X.env = pure false := by rfl) : PS X (.Expr e pos) (tDrop te) := by
  intro pins s σ H D I h
  exact wpAny_Expr_any (thn (he pins s σ H _ I h) fun v s1 ⟨x, H1, I1, r1, q1⟩ => ⟨σ, H1, I1, q1⟩) I.quiet hs
def tRet (te : TE) : TS := fun D σ H => te σ H D.rt
theorem ps_ret (he : PE X e te) : PS X (.Return (some e) pos) (tRet te) := by
  intro pins s σ H D I h
  exact wpAny_Return_some (thn (he pins s σ H _ I h) fun v s1 ⟨x, H1, I1, r1, q1⟩ => ⟨x, σ, H1, I1, r1, q1⟩)
def tIfS (c : TT) (t u : TS) : TS := fun D σ H => c σ H fun b H1 => if b = true then t D σ H1 else u D σ H1
theorem ps_if {c : Expr} {a b : List Stmt} {tc : TT} (hc : PT X c tc) (ha : PSs X a t) (hb : PSs X b u) : PS X (.If c a b pos) (tIfS tc t u) := by
  intro pins s σ H D I h
  refine wpAny_If (thn (hc pins s σ H _ I h) fun d s1 ⟨H1, I1, q1⟩ => ?_)
  cases d with
  | true => exact ha pins s1 σ H1 D I1 q1
  | false => exact hb pins s1 σ H1 D I1 q1
end

/-! ### targets -/
abbrev TG := V → St → Hp → (St → Hp → Prop) → Prop
abbrev TGs := List V → St → Hp → (St → Hp → Prop) → Prop
def PG (X : Cx) (target : Expr) (t : TG) : Prop :=
  ∀ (pins : List (Addr × Obj)) (s : Shared) (σ : St) (H : Hp) (v : V) (u : Value) (Q : St → Hp → Prop), Inv X pins σ H s → RelV v u → t v σ H Q →
    wpAny (model X.prog X.w) X.A (assign target X.env u) (fun _ s' => ∃ σ' H', Inv X pins σ' H' s' ∧ Q σ' H') X.xe s
/-- several targets, one after another -/
def PGs (X : Cx) (ts : List Expr) (t : TGs) : Prop :=
  ∀ (pins : List (Addr × Obj)) (s : Shared) (σ : St) (H : Hp) (vs : List V) (us : List Value) (Q : St → Hp → Prop), Inv X pins σ H s → Vals vs us → t vs σ H Q →
    wpAny (model X.prog X.w) X.A (assignInOrder ((assignEach ts X.env).map (·.2)) us) (fun _ s' => ∃ σ' H', Inv X pins σ' H' s' ∧ Q σ' H') X.xe s
section
variable {X : Cx} {pos : Pos}
def gName (i : Nat) : TG := fun v σ H Q => Q (σ.set i (some v)) H
theorem pg_name {i : Nat} {x : Str} (hN : X.N.Nodup) (hi : X.N[i]? = some x) (hx : Loc X.env.scope x) (hf : X.fn x = true ∨ X.env.scope.names.lookup x = some .local := by first | exact .inl rfl | exact .inr rfl | assumption) : PG X (.Name x pos) (gName i) := by
  intro pins s σ H v u Q I r h
  exact wpAny_assign_Name (store_ok I hN hi hx r (fun s' I' => ⟨_, H, I', h⟩) hf)
def gNil : TGs := fun vs σ H Q => vs = [] ∧ Q σ H
def gCons (t : TG) (u : TGs) : TGs := fun vs σ H Q => ∃ v r, vs = v :: r ∧ t v σ H fun σ' H' => u r σ' H' Q
theorem pgs_nil : PGs X [] gNil := by
  intro pins s σ H vs us Q I r h
  obtain ⟨e, h⟩ := h
  subst e
  cases r
  exact assignInOrder_nil ⟨σ, H, I, h⟩
theorem pgs_cons {e : Expr} {es : List Expr} {t : TG} {u : TGs} (h1 : PG X e t) (h2 : PGs X es u)
    (hs : (assignEach (e :: es) X.env).map (·.2) = assign e X.env :: (assignEach es X.env).map (·.2) := by rfl) : PGs X (e :: es) (gCons t u) := by
  intro pins s σ H vs us Q I r h
  obtain ⟨v, vr, e1, h⟩ := h
  subst e1
  cases r with
  | cons r rr =>
    rw [hs]
    refine assignInOrder_cons (thn (h1 pins s σ H _ _ _ I r h) fun _ s1 ⟨σ1, H1, I1, q1⟩ => ?_)
    exact h2 pins s1 σ1 H1 _ _ Q I1 rr q1
/-- (a, b, ..) = a tuple of that length -/
def gTup (K : PySem.W.Frag) (n : Nat) (t : TGs) : TG := fun v σ H Q => ∃ a xs, v = .ref a ∧ SqT K H a xs ∧ xs.length = n ∧ t xs σ H Q
theorem pg_tup {es : List Expr} {k : Nat} {t : TGs} {n : Nat} (hc : X.calm = true) (h : PGs X es t)
    (hn : (assignEach es X.env).length = n := by rfl) (hst : (assignEach es X.env).findIdx? (·.1) = none := by rfl) : PG X (.Tuple es k pos) (gTup X.K n t) := by
  intro pins s σ H v u Q I r hw
  obtain ⟨a, xs, e1, hq, hl, hw⟩ := hw
  subst e1
  cases r
  obtain ⟨its, rv, ht, hz⟩ := I.tuple hq
  refine assign_Tuple_tuple (I.ok.hd hc) ht (by simp [hn, ← hl, rv.length]) hst fun h' hx => ?_
  have I1 : Inv X pins σ H { s with heap := h' } := I.kept (t' := s.toks) fun b o e => hx b o (Nat.ne_of_lt (Heap.lt_size e)) e
  exact h pins _ σ H xs _ Q I1 (by simpa using rv) hw
/-- target = value -/
def tAsg (te : TE) (g : TG) : TS := fun D σ H => te σ H fun x H1 => g x σ H1 D.nx
theorem ps_asg {tg e : Expr} {te : TE} {g : TG} (he : PE X e te) (hg : PG X tg g) (hs : swapsWithSole [tg] e pos.line X.env = pure false := by rfl) (hw : swappedStores [tg] e X.env = pure none := by rfl)
    (h1 : (assignEach [tg] X.env).map (·.2) = [assign tg X.env] := by rfl) : PS X (.Assign [tg] e pos) (tAsg te g) := by
  intro pins s σ H D I h
  refine wpAny_Assign_stores (thn (he pins s σ H _ I h) fun v s1 ⟨x, H1, I1, r1, q1⟩ => ?_) hs hw
  rw [h1]
  exact thn (hg pins s1 σ H1 x v _ I1 r1 q1) fun _ s2 q => q
/-- name = value -/
theorem ps_set {i : Nat} {x : Str} {e : Expr} {te : TE} {pos' : Pos} (hN : X.N.Nodup) (hi : X.N[i]? = some x) (hx : Loc X.env.scope x) (he : PE X e te) (hs : swapsWith e (some (.Name x pos')) pos.line X.env = pure false := by rfl) (hf : X.fn x = true ∨ X.env.scope.names.lookup x = some .local := by first | exact .inl rfl | exact .inr rfl | assumption) :
    PS X (.Assign [.Name x pos'] e pos) (tAsg te (gName i)) := by
  intro pins s σ H D I h
  refine wpAny_Assign_Name (thn (he pins s σ H _ I h) fun v s1 ⟨y, H1, I1, r1, q1⟩ => ?_) hs
  exact store_ok I1 hN hi hx r1 (fun s2 I2 => ⟨_, H1, I2, q1⟩) hf
/-- a, b = x, y with plain local names: stored from the right; the pair itself is not tracked (the opening rows as in PyProof/Rows/TupAssign.lean:23) -/
def tPar (i j : Nat) (ta : TA) : TS := fun D σ H => ta σ H fun vs H1 => ∃ v w, vs = [v, w] ∧ D.nx ((σ.set i (some v)).set j (some w)) H1
theorem ps_par {i j : Nat} {x y : Str} {a b : Expr} {ta : TA} {px py pt : Pos} {kt k2 pt2} (hc : X.calm = true) (hN : X.N.Nodup) (hi : X.N[i]? = some x) (hj : X.N[j]? = some y) (hij : i ≠ j)
    (hx : X.env.scope.names.lookup x = some .local) (hy : X.env.scope.names.lookup y = some .local) (ha : PA X [a, b] ta)
    (hw : swappedStores [.Tuple [.Name x px, .Name y py] kt pt] (.Tuple [a, b] k2 pt2) X.env = pure (some [x, y]))
    (hs : swapsWithSole [.Tuple [.Name x px, .Name y py] kt pt] (.Tuple [a, b] k2 pt2) pos.line X.env = pure false := by rfl) :
    PS X (.Assign [.Tuple [.Name x px, .Name y py] kt pt] (.Tuple [a, b] k2 pt2) pos) (tPar i j ta) := by
  intro pins s σ H D I h
  rw [exec_Assign_arm]
  refine wpAny_bind (wpAny_standAt ?_)
  rw [hs]
  refine wpAny_bind (wpAny_pure ?_)
  rw [if_neg (by decide)]
  refine wpAny_bind (Tuple_ (thn (ha _ pins s σ H _ I h) fun us s1 ⟨vs, H1, I1, r1, q1⟩ => ?_))
  obtain ⟨v, w, e1, q1⟩ := q1
  subst e1
  obtain ⟨u1, u2, rfl, rv, rw'⟩ : ∃ u1 u2, us = [u1, u2] ∧ RelV v u1 ∧ RelV w u2 := by
    cases r1 with
    | cons p q =>
      cases q with
      | cons p' q' =>
        cases q'
        exact ⟨_, _, rfl, p, p'⟩
  refine wpAny_newObj_type ?_ (by show 2 ≤ sizeLine; decide)
  have I2 : Inv X pins σ H1 { s1 with heap := s1.heap.push { cls := .type "tuple", data := .seq [u1, u2].toArray } } := I1.kept (t' := s1.toks) fun b o e => Heap.get?_push_of_some _ e
  rw [hw]
  refine wpAny_bind (wpAny_pure ?_)
  show wpAny (model X.prog X.w) X.A (do rule "assign.swapped-stores"; let items ← unpackItems (.ref s1.heap.objs.size) 2 none; assignInOrder [fun v => bindName X.env y v, fun v => bindName X.env x v] items.reverse; pure Flow.next) _ _ _
  refine wpAny_bind (wpAny_rule (wpAny_bind (unpackItems_tuple (items := #[u1, u2]) (I.ok.hd hc) (IsTup.new s1.heap _) fun h' hx' => ?_)))
  have I3 := I2.kept (h' := h') (t' := s1.toks) fun b o e => hx' b o (Nat.ne_of_lt (Heap.lt_size e)) e
  show wpAny _ _ (assignInOrder [fun v => bindName X.env y v, fun v => bindName X.env x v] [u2, u1] >>= fun _ => pure Flow.next) _ _ _
  refine wpAny_bind (assignInOrder_cons (wpAny_bindName (store_ok I3 hN hj (.inl hy) rw' (fun s2 I4 => ?_) (.inr hy))))
  refine assignInOrder_cons (wpAny_bindName (store_ok I4 hN hi (.inl hx) rv (fun s3 I5 => assignInOrder_nil (wpAny_pure ?_)) (.inr hx)))
  rw [List.set_comm _ _ (Ne.symm hij)] at I5
  exact ⟨_, H1, I5, q1⟩
end

/-! ### while -/
section
variable {X : Cx} {pos : Pos}
/-- the invariant W with its measure -/
def tWhile (c : TT) (tb : TS) : TS := fun D σ H => ∃ W : Nat → St → Hp → Prop, (∃ m, W m σ H) ∧ ∀ m σ H, W m σ H →
  c σ H fun b H1 => if b = true then ∃ N : St → Hp → Prop, (∀ σ' H', N σ' H' → ∃ m', m' < m ∧ W m' σ' H') ∧ tb { D with nx := N, ct := N, bk := D.nx } σ H1 else D.nx σ H1
theorem ps_while {c : Expr} {body : List Stmt} {tc : TT} {tb : TS} (hp : PassesOwn (model X.prog X.w) X.A X.env X.xe) (hc : PT X c tc) (hb : PSs X body tb) : PS X (.While c body [] pos) (tWhile tc tb) := by
  intro pins s σ H D I h
  obtain ⟨W, ⟨m0, w0⟩, turn⟩ := h
  refine wpAny_While (codeAny_whileLoop (fun n s' => ∃ σ' H', Inv X pins σ' H' s' ∧ W n σ' H') ?_ m0 ⟨σ, H, I, w0⟩)
  rintro n s1 ⟨σ1, H1, I1, w1⟩
  refine wpAny_passesOwn hp (thn (hc pins s1 σ1 H1 _ I1 (turn n σ1 H1 w1)) fun b s2 ⟨H2, I2, q2⟩ => ?_)
  cases b with
  | true =>
    obtain ⟨N, hN, q2⟩ := q2
    rw [if_pos rfl]
    refine wpAny_passesOwn hp (thn (hb pins s2 σ1 H2 _ I2 q2) fun f s3 q3 => ?_)
    cases f with
    | next =>
      obtain ⟨σ3, H3, I3, n3⟩ := q3
      obtain ⟨m', hm, w3⟩ := hN σ3 H3 n3
      exact ⟨m', hm, σ3, H3, I3, w3⟩
    | cont =>
      obtain ⟨σ3, H3, I3, n3⟩ := q3
      obtain ⟨m', hm, w3⟩ := hN σ3 H3 n3
      exact ⟨m', hm, σ3, H3, I3, w3⟩
    | brk => exact q3
    | ret v => exact q3
  | false =>
    rw [if_neg Bool.false_ne_true]
    exact wpAny_execs_nil ⟨σ1, H2, I2, q2⟩
end

/-! ### what a loop or a comprehension walks -/
/-- at turn i: it yields x (the heap may grow), or it stops -/
structure It where
  go : Nat → Hp → Prop
  yld : Nat → Hp → V → Hp → Prop
  stop : Nat → Hp → Prop
/-- the iterator's own objects may turn: they are not the frame's, not pinned, younger than the entry (or a comprehension's own) -/
def FpOk (X : Cx) (pins : List (Addr × Obj)) (H : Hp) (b : Addr) : Prop :=
  H b = none ∧ b ≠ X.env.locals ∧ b ∉ X.fs ∧ (b ∈ X.ex ∨ X.s₀.heap.objs.size ≤ b) ∧ (∀ x c, X.env.cells.lookup x = some c → c ≠ b) ∧ ∀ p ∈ X.pn ++ pins, p.1 ≠ b
theorem Inv.fpOk {X : Cx} {pins : List (Addr × Obj)} {σ : St} {H H' : Hp} {s : Shared} {b : Addr} (I : Inv X pins σ H s) (hb : s.heap.objs.size ≤ b) (hn : H' b = none) : FpOk X pins H' b := by
  refine ⟨hn, Nat.ne_of_gt (Nat.lt_of_lt_of_le I.lt hb), I.nofs hb, .inr (Nat.le_trans I.sz hb), fun x c e z => ?_, fun p hp z => ?_⟩
  · obtain ⟨v, q⟩ := I.cell x c e
    exact absurd (Nat.lt_of_lt_of_le q.lt (by rw [z]; exact hb)) (Nat.lt_irrefl _)
  · exact absurd (Nat.lt_of_lt_of_le (Heap.lt_size (I.pin p hp).1) (by rw [z]; exact hb)) (Nat.lt_irrefl _)
structure Turn (P : Program) (w : World) (K : PySem.W.Frag) (tg : Expr) (J : It) (fp : List Addr) (it : Addr) (tn : Nat → Heap → Prop) : Prop where
  mem : it ∈ fp
  obj : ∀ i h, tn i h → ∀ b ∈ fp, ∃ o, h.get? b = some o ∧ ∀ v, o.data ≠ .cell v
  keep : ∀ i h h', tn i h → (∀ b ∈ fp, ∀ o, h.get? b = some o → h'.get? b = some o) → tn i h'
  item : ∀ (X : Cx), X.prog = P → X.w = w → X.K = K → X.calm = true → ∀ (i : Nat) (pins : List (Addr × Obj)) (s : Shared) (σ : St) (H : Hp) (E : Value → Shared → Prop), Inv X pins σ H s → (∀ b ∈ fp, FpOk X pins H b) → tn i s.heap → J.go i H →
    wpAny (model P w) X.A (pyNext (.ref it)) (fun r s1 => ∃ u, r = some u ∧
      wpAny (model P w) X.A (letOwnedTupleGo tg (.ref it) u) (fun _ s2 => ∃ x H', Inv X pins σ H' s2 ∧ RelV x u ∧ J.yld i H x H' ∧ tn (i + 1) s2.heap ∧ ∀ b ∈ fp, H' b = none) E s1) E s
  done : ∀ (X : Cx), X.prog = P → X.w = w → X.K = K → X.calm = true → ∀ (i : Nat) (pins : List (Addr × Obj)) (s : Shared) (σ : St) (H : Hp) (E : Value → Shared → Prop), Inv X pins σ H s → (∀ b ∈ fp, FpOk X pins H b) → tn i s.heap → J.stop i H →
    wpAny (model P w) X.A (pyNext (.ref it)) (fun r s1 => r = none ∧ Inv X pins σ H s1) E s
  self : ∀ (A : Around) (i : Nat) (s : Shared) (Q : Value → Shared → Prop) (E : Value → Shared → Prop), tn i s.heap → Q (.ref it) s → wpAny (model P w) A (pyIter (.ref it)) Q E s
abbrev TI := St → Hp → (It → Hp → Prop) → Prop
/-- an iterator has come -/
def PIE (X : Cx) (pins : List (Addr × Obj)) (σ : St) (tg : Expr) (R : It → Hp → Prop) (itv : Value) (s2 : Shared) : Prop :=
  ∃ (it : Addr) (fp : List Addr) (tn : Nat → Heap → Prop) (J : It) (H' : Hp), itv = .ref it ∧ Inv X pins σ H' s2 ∧ Turn X.prog X.w X.K tg J fp it tn ∧ tn 0 s2.heap ∧ (∀ b ∈ fp, FpOk X pins H' b) ∧ R J H'
def PI (X : Cx) (tg iter : Expr) (wi : TI) : Prop :=
  ∀ (pins : List (Addr × Obj)) (s : Shared) (σ : St) (H : Hp) (R : It → Hp → Prop), Inv X pins σ H s → wi σ H R →
    wpAny (model X.prog X.w) X.A (eval iter X.env) (fun v s1 => wpAny (model X.prog X.w) X.A (pyIter v) (PIE X pins σ tg R) X.xe s1) X.xe s

/-- the step ahead of the store is nothing for an iterator that keeps no tuple -/
theorem go_of {M : Model} {A : Around} {E : Value → Shared → Prop} {s : Shared} {tg : Expr} {it : Addr} {u : Value} {o : Obj} {n : String} {vs : Array Value} {Q : Unit → Shared → Prop} (ho : s.heap.get? it = some o) (hc : o.cls = .type n) (hd : o.data = .fields vs)
    (hn : ["enumerate", "zip", "dict_itemiterator", "dict_reverseitemiterator", "odict_iterator", "itertools.zip_longest", "itertools.pairwise"].contains n = false) (hQ : Q () s) : wpAny M A (letOwnedTupleGo tg (.ref it) u) Q E s := by
  unfold letOwnedTupleGo
  cases tg <;> first
    | exact wpAny_pure hQ
    | (cases u <;> first
        | exact wpAny_pure hQ
        | (refine wpAny_bind (wpAny_load ho ?_)
           rw [hc, hd]
           show wpAny M A (if (["enumerate", "zip", "dict_itemiterator", "dict_reverseitemiterator", "odict_iterator", "itertools.zip_longest", "itertools.pairwise"].contains n && vs[0]? == some (rawInt _)) = true then _ else _) Q E s
           rw [if_neg (by intro h; rw [hn, Bool.false_and] at h; cases h)]
           exact wpAny_pure hQ))

/-- the list at a, as it stands at each turn (a loop may append to it) -/
def Itl (K : PySem.W.Frag) (a : Addr) : It :=
  ⟨fun i H => ∃ xs x, SqL K H a xs ∧ xs[i]? = some x, fun i H x H' => H' = H ∧ ∀ xs, SqL K H a xs → xs[i]? = some x, fun i H => ∃ xs, SqL K H a xs ∧ xs.length ≤ i⟩
def Itt (K : PySem.W.Frag) (a : Addr) : It :=
  ⟨fun i H => ∃ xs x, SqT K H a xs ∧ xs[i]? = some x, fun i H x H' => H' = H ∧ ∀ xs, SqT K H a xs → xs[i]? = some x, fun i H => ∃ xs, SqT K H a xs ∧ xs.length ≤ i⟩
theorem turn_list {P : Program} {w : World} {K : PySem.W.Frag} {tg : Expr} (a it : Addr) : Turn P w K tg (Itl K a) [it] it (fun i h => h.IsListIter it a i) where
  mem := by simp
  obj := fun i h st b hb => by
    have e : b = it := by simpa using hb
    subst e
    obtain ⟨o, e, c, d⟩ := st
    exact ⟨o, e, fun v z => by rw [d] at z; cases z⟩
  keep := fun i h h' st k => st.at fun o e => k it (by simp) o e
  item := by
    intro X hP hw hK hc i pins s σ H E I hf st hg
    subst hP hw hK
    obtain ⟨xs, x, hq, hx⟩ := hg
    obtain ⟨its, rv, p, hz⟩ := I.list hq
    obtain ⟨u, hu, ru⟩ := rv.get hx
    obtain ⟨f0, f1, f2, f3, f4, f5⟩ := hf it (by simp)
    refine wpAny_pyNext_list_item st p.isList (x := u) (by simpa using hu) fun h' st' sb => ?_
    have I1 : Inv X pins σ H { s with heap := h' } := I.turned (t' := s.toks) (fun b o hb e => (sb.2 b hb).trans e) f0 f1 f3 f4 f5
    obtain ⟨o, e, c, d⟩ := id st'
    exact ⟨u, rfl, go_of (s := { s with heap := h' }) e c d (by decide) ⟨x, H, I1, ru, ⟨rfl, fun ys hy => by rw [I.list_inj hy hq]; exact hx⟩, st', fun b hb => (hf b hb).1⟩⟩
  done := by
    intro X hP hw hK hc i pins s σ H E I hf st hg
    subst hP hw hK
    obtain ⟨xs, hq, hx⟩ := hg
    obtain ⟨its, rv, p, hz⟩ := I.list hq
    obtain ⟨f0, f1, f2, f3, f4, f5⟩ := hf it (by simp)
    have hl := rv.length
    exact wpAny_pyNext_list_end (I.ok.hd hc) st p.isList (by simp; omega) fun h' eb => ⟨rfl, I.turned (t' := s.toks) (fun b o hb e => eb b o hb e) f0 f1 f3 f4 f5⟩
  self := fun _ _ _ _ _ st h => wpAny_pyIter_listiter st h
theorem turn_tuple {P : Program} {w : World} {K : PySem.W.Frag} {tg : Expr} (a it : Addr) : Turn P w K tg (Itt K a) [it] it (fun i h => h.IsTupleIter it a i) where
  mem := by simp
  obj := fun i h st b hb => by
    have e : b = it := by simpa using hb
    subst e
    obtain ⟨o, e, c, d⟩ := st
    exact ⟨o, e, fun v z => by rw [d] at z; cases z⟩
  keep := fun i h h' st k => st.at fun o e => k it (by simp) o e
  item := by
    intro X hP hw hK hc i pins s σ H E I hf st hg
    subst hP hw hK
    obtain ⟨xs, x, hq, hx⟩ := hg
    obtain ⟨its, rv, p, hz⟩ := I.tuple hq
    obtain ⟨u, hu, ru⟩ := rv.get hx
    obtain ⟨f0, f1, f2, f3, f4, f5⟩ := hf it (by simp)
    refine wpAny_pyNext_tuple_item st (show s.heap.IsTuple a its.toArray from p) (x := u) (by simpa using hu) fun h' st' sb => ?_
    have I1 : Inv X pins σ H { s with heap := h' } := I.turned (t' := s.toks) (fun b o hb e => (sb.2 b hb).trans e) f0 f1 f3 f4 f5
    obtain ⟨o, e, c, d⟩ := id st'
    exact ⟨u, rfl, go_of (s := { s with heap := h' }) e c d (by decide) ⟨x, H, I1, ru, ⟨rfl, fun ys hy => by rw [I.tuple_inj hy hq]; exact hx⟩, st', fun b hb => (hf b hb).1⟩⟩
  done := by
    intro X hP hw hK hc i pins s σ H E I hf st hg
    subst hP hw hK
    obtain ⟨xs, hq, hx⟩ := hg
    obtain ⟨its, rv, p, hz⟩ := I.tuple hq
    obtain ⟨f0, f1, f2, f3, f4, f5⟩ := hf it (by simp)
    have hl := rv.length
    exact wpAny_pyNext_tuple_end (I.ok.hd hc) st (show s.heap.IsTuple a its.toArray from p) (by simp; omega) fun h' eb => ⟨rfl, I.turned (t' := s.toks) (fun b o hb e => eb b o hb e) f0 f1 f3 f4 f5⟩
  self := fun _ _ _ _ _ st h => wpAny_pyIter_tupleiter st h
end L2

namespace L2
open PySem PySem.Spec PyProof.Rows
section
variable {X : Cx} {tg : Expr}

/-! ### for -/
/-- W: the invariant by the turn and a measure; N: what the body is to reach -/
def tFor (wi : TI) (g : TG) (tb : TS) : TS := fun D σ H => wi σ H fun J H1 => ∃ W : Nat → Nat → St → Hp → Prop, (∃ m, W 0 m σ H1) ∧ ∀ i m σ H, W i m σ H →
  (J.stop i H ∧ D.nx σ H) ∨ (J.go i H ∧ ∃ N : St → Hp → Prop, (∀ σ' H', N σ' H' → ∃ m', m' < m ∧ W (i + 1) m' σ' H') ∧ ∀ x H', J.yld i H x H' → g x σ H' fun σ2 H2 => tb { D with nx := N, ct := N, bk := D.nx } σ2 H2)
/-- the records at fp as they stand -/
def pinsAt (fp : List Addr) (h : Heap) : List (Addr × Obj) := fp.filterMap fun b => (h.get? b).map fun o => (b, o)
theorem mem_pinsAt {fp : List Addr} {h : Heap} {b : Addr} {o : Obj} (hb : b ∈ fp) (e : h.get? b = some o) : (b, o) ∈ pinsAt fp h := List.mem_filterMap.mpr ⟨b, hb, by rw [e]; rfl⟩
theorem of_pinsAt {fp : List Addr} {h : Heap} {p : Addr × Obj} (hp : p ∈ pinsAt fp h) : p.1 ∈ fp ∧ h.get? p.1 = some p.2 := by
  obtain ⟨b, hb, e⟩ := List.mem_filterMap.mp hp
  cases q : h.get? b with
  | none => rw [q] at e; cases e
  | some o =>
    rw [q] at e
    have e' : (b, o) = p := Option.some.inj e
    subst e'
    exact ⟨hb, q⟩
theorem Inv.pinned {pins : List (Addr × Obj)} {σ : St} {H : Hp} {s : Shared} {fp : List Addr} (I : Inv X pins σ H s) (hf : ∀ b ∈ fp, FpOk X pins H b) (ho : ∀ b ∈ fp, ∃ o, s.heap.get? b = some o ∧ ∀ v, o.data ≠ .cell v) : Inv X (pins ++ pinsAt fp s.heap) σ H s :=
  I.pins_of fun p hp => (List.mem_append.mp hp).elim (fun z => I.pin p (List.mem_append_right _ z)) fun z => by
    obtain ⟨hb, e⟩ := of_pinsAt z
    obtain ⟨f0, f1, f2, _⟩ := hf p.1 hb
    obtain ⟨o, e', d⟩ := ho p.1 hb
    rw [e] at e'; cases e'
    exact ⟨e, f0, f1, f2, d⟩
theorem Inv.unpinned {pins pl : List (Addr × Obj)} {σ : St} {H : Hp} {s : Shared} (I : Inv X (pins ++ pl) σ H s) : Inv X pins σ H s := I.pins_of fun p hp => I.pin p (List.mem_append_right _ (List.mem_append_left _ hp))
theorem ps_for {iter : Expr} {body : List Stmt} {wi : TI} {g : TG} {tb : TS} {pos : Pos} (hp : PassesOwn (model X.prog X.w) X.A X.env X.xe) (hc : X.calm = true) (hi : PI X tg iter wi) (hg : PG X tg g) (hb : PSs X body tb)
    (hs : ∀ x, foldedSetIterable iter X.env x = pure x := by intro _; rfl) : PS X (.For tg iter body [] pos) (tFor wi g tb) := by
  intro pins s σ H D I h
  refine wpAny_For (thn (hi pins s σ H _ I h) fun v s1 h1 => thn h1 fun itv s2 h2 => ?_) hs
  obtain ⟨it, fp, tn, J, H2, e, I2, T, st2, f2, W, ⟨m0, w0⟩, turn⟩ := h2
  subst e
  -- what stays true of the iterator's objects through the loop
  have stat : ∀ {H' : Hp}, (∀ b ∈ fp, H' b = none) → ∀ b ∈ fp, FpOk X pins H' b := fun hn b hb => ⟨hn b hb, (f2 b hb).2⟩
  refine codeAny_forLoop_any (fun n s' => ∃ i σ' H', Inv X pins σ' H' s' ∧ tn i s'.heap ∧ (∀ b ∈ fp, H' b = none) ∧ W i n σ' H') ?_ m0 ⟨0, σ, H2, I2, st2, fun b hb => (f2 b hb).1, w0⟩
  rintro n s3 ⟨i, σ3, H3, I3, st3, fr3, w3⟩
  rcases turn i n σ3 H3 w3 with ⟨stop, qn⟩ | ⟨go, N, hN, step⟩
  · refine wpAny_passesOwn hp (thn (T.done X rfl rfl rfl hc i pins s3 σ3 H3 X.xe I3 (stat fr3) st3 stop) fun r s4 ⟨hr, I4⟩ => ?_)
    subst hr
    exact wpAny_execs_nil ⟨σ3, H3, I4, qn⟩
  · refine wpAny_passesOwn hp (thn (T.item X rfl rfl rfl hc i pins s3 σ3 H3 X.xe I3 (stat fr3) st3 go) fun r s4 ⟨u, hr, h4⟩ => ?_)
    subst hr
    refine wpAny_passesOwn hp (thn h4 fun _ s5 ⟨x, H5, I5, r5, y5, st5, fr5⟩ => ?_)
    have I5' := I5.pinned (stat fr5) (T.obj _ _ st5)
    refine wpAny_passesOwn hp (thn (hg _ s5 σ3 H5 x u _ I5' r5 (step x H5 y5)) fun _ s6 ⟨σ6, H6, I6, q6⟩ => ?_)
    refine wpAny_passesOwn hp (thn (hb _ s6 σ6 H6 _ I6 q6) fun f s7 q7 => ?_)
    have again : ∀ {σ7 : St} {H7 : Hp}, Inv X (pins ++ pinsAt fp s5.heap) σ7 H7 s7 → N σ7 H7 → ∃ m, m < n ∧ ∃ i σ' H', Inv X pins σ' H' s7 ∧ tn i s7.heap ∧ (∀ b ∈ fp, H' b = none) ∧ W i m σ' H' := fun {σ7 H7} I7 n7 => by
      obtain ⟨m', hm, w7⟩ := hN σ7 H7 n7
      refine ⟨m', hm, i + 1, σ7, H7, I7.unpinned, T.keep _ _ _ st5 fun b hb o e => (I7.pin (b, o) (List.mem_append_right _ (List.mem_append_right _ (mem_pinsAt hb e)))).1, fun b hb => ?_, w7⟩
      obtain ⟨o, e, d⟩ := T.obj _ _ st5 b hb
      exact (I7.pin (b, o) (List.mem_append_right _ (List.mem_append_right _ (mem_pinsAt hb e)))).2.1
    cases f with
    | next => obtain ⟨σ7, H7, I7, n7⟩ := q7; exact again I7 n7
    | cont => obtain ⟨σ7, H7, I7, n7⟩ := q7; exact again I7 n7
    | brk => obtain ⟨σ7, H7, I7, q7⟩ := q7; exact ⟨σ7, H7, I7.unpinned, q7⟩
    | ret v => obtain ⟨x7, σ7, H7, I7, r7, q7⟩ := q7; exact ⟨x7, σ7, H7, I7.unpinned, r7, q7⟩
end

/-! ### the forms one uses -/
end L2

namespace L2
open PySem PySem.Spec PyProof.Rows

abbrev R2 := V → V → Hp → VK → Prop
/-- a two-place operation on values: f is binaryOp op, inplaceOp op or compareOp op -/
def OpR (X : Cx) (f : Value → Value → Sem Value) (r : R2) : Prop :=
  ∀ (pins : List (Addr × Obj)) (s : Shared) (σ : St) (H : Hp) (x y : V) (v u : Value) (Q : VK), Inv X pins σ H s → RelV x v → RelV y u → r x y H Q →
    wpAny (model X.prog X.w) X.A (f v u) (EP X pins σ Q) X.xe s
/-- a one-place operation -/
def UnR (X : Cx) (f : Value → Sem Value) (r : V → Hp → VK → Prop) : Prop :=
  ∀ (pins : List (Addr × Obj)) (s : Shared) (σ : St) (H : Hp) (x : V) (v : Value) (Q : VK), Inv X pins σ H s → RelV x v → r x H Q →
    wpAny (model X.prog X.w) X.A (f v) (EP X pins σ Q) X.xe s
/-- a call of a value that is known (a builtin, a type) with values -/
def CallR (X : Cx) (f : Value) (r : List V → Hp → VK → Prop) : Prop :=
  ∀ (pins : List (Addr × Obj)) (s : Shared) (σ : St) (H : Hp) (xs : List V) (us : List Value) (Q : VK), Inv X pins σ H s → Vals xs us → r xs H Q →
    wpAny (model X.prog X.w) X.A (call f us) (EP X pins σ Q) X.xe s

def tOp (r : R2) (ta tb : TE) : TE := fun σ H Q => ta σ H fun x H1 => tb σ H1 fun y H2 => r x y H2 Q
def tUn (r : V → Hp → VK → Prop) (ta : TE) : TE := fun σ H Q => ta σ H fun x H1 => r x H1 Q
/-- ints in, under C, and a value out -/
def rI (C : Int → Int → Prop) (g : Int → Int → V) : R2 := fun x y H Q => ∃ i j, x = .int i ∧ y = .int j ∧ C i j ∧ Q (g i j) H
def rI0 (g : Int → Int → V) : R2 := fun x y H Q => ∃ i j, x = .int i ∧ y = .int j ∧ Q (g i j) H
def rU (g : Int → V) : V → Hp → VK → Prop := fun x H Q => ∃ i, x = .int i ∧ Q (g i) H

section
variable {X : Cx} {a b c : Expr} {ta tb tc : TE} {pos : Pos}

theorem binT (ha : PE X a ta) (hb : PE X b tb) {pins : List (Addr × Obj)} {s : Shared} {σ : St} {H : Hp} {R : V → V → Hp → Prop} (I : Inv X pins σ H s)
    (h : ta σ H fun x H1 => tb σ H1 fun y H2 => R x y H2) {Q : Value → Shared → Prop} {f : Value → Value → Sem Value}
    (hf : ∀ v u s2 x y H2, Inv X pins σ H2 s2 → RelV x v → RelV y u → R x y H2 → wpAny (model X.prog X.w) X.A (f v u) Q X.xe s2) :
    wpAny (model X.prog X.w) X.A (eval a X.env) (fun v s₁ => wpAny (model X.prog X.w) X.A (eval b X.env) (fun u s₂ => wpAny (model X.prog X.w) X.A (f v u) Q X.xe s₂) X.xe s₁) X.xe s := by
  refine thn (ha pins s σ H _ I h) fun v s1 ⟨x, H1, I1, r1, q1⟩ => ?_
  refine thn (hb pins s1 σ H1 _ I1 q1) fun u s2 ⟨y, H2, I2, r2, q2⟩ => ?_
  exact hf v u s2 x y H2 I2 r1 r2 q2

theorem pe_op {op : Operator} {r : R2} (ho : OpR X (binaryOp op) r) (ha : PE X a ta) (hb : PE X b tb) : PE X (.BinOp a op b pos) (tOp r ta tb) := by
  intro pins s σ H Q I h
  exact wpAny_BinOp (binT ha hb I h fun v u s2 x y H2 I2 rx ry q => ho pins s2 σ H2 x y v u Q I2 rx ry q)
theorem pe_un {op : UnaryOp} {r : V → Hp → VK → Prop} (ho : UnR X (unaryOp op) r) (ha : PE X a ta) : PE X (.UnaryOp op a pos) (tUn r ta) := by
  intro pins s σ H Q I h
  exact UnaryOp_ (thn (ha pins s σ H _ I h) fun v s1 ⟨x, H1, I1, r1, q1⟩ => ho pins s1 σ H1 x v Q I1 r1 q1)

/-! ### ints -/
theorem opI {f : Value → Value → Sem Value} {C : Int → Int → Prop} {g : Int → Int → Int}
    (rule : ∀ (i j : Int) (t u : Tok) (s : Shared) (Q : Value → Shared → Prop) (E : Value → Shared → Prop), C i j → Q (.int (g i j) s.toks) { s with toks := s.toks + 1 } → wpAny (model X.prog X.w) X.A (f (.int i t) (.int j u)) Q E s) :
    OpR X f (rI C fun i j => .int (g i j)) := by
  intro pins s σ H x y v u Q I rx ry h
  obtain ⟨i, j, rfl, rfl, hc, q⟩ := h
  obtain ⟨t, rfl⟩ := rx
  obtain ⟨t', rfl⟩ := ry
  exact rule i j t t' s _ _ hc ⟨.int (g i j), H, I.tok _, ⟨_, rfl⟩, q⟩
theorem opI0 {f : Value → Value → Sem Value} {g : Int → Int → Int}
    (rule : ∀ (i j : Int) (t u : Tok) (s : Shared) (Q : Value → Shared → Prop) (E : Value → Shared → Prop), Q (.int (g i j) s.toks) { s with toks := s.toks + 1 } → wpAny (model X.prog X.w) X.A (f (.int i t) (.int j u)) Q E s) :
    OpR X f (rI0 fun i j => .int (g i j)) := by
  intro pins s σ H x y v u Q I rx ry h
  obtain ⟨i, j, rfl, rfl, q⟩ := h
  obtain ⟨t, rfl⟩ := rx
  obtain ⟨t', rfl⟩ := ry
  exact rule i j t t' s _ _ ⟨.int (g i j), H, I.tok _, ⟨_, rfl⟩, q⟩
theorem opB0 {f : Value → Value → Sem Value} {g : Int → Int → Bool}
    (rule : ∀ (i j : Int) (t u : Tok) (s : Shared) (Q : Value → Shared → Prop) (E : Value → Shared → Prop), Q (.bool (g i j)) s → wpAny (model X.prog X.w) X.A (f (.int i t) (.int j u)) Q E s) :
    OpR X f (rI0 fun i j => .bl (g i j)) := by
  intro pins s σ H x y v u Q I rx ry h
  obtain ⟨i, j, rfl, rfl, q⟩ := h
  obtain ⟨t, rfl⟩ := rx
  obtain ⟨t', rfl⟩ := ry
  exact rule i j t t' s _ _ ⟨.bl (g i j), H, I, rfl, q⟩

def CPow (i j : Int) : Prop := 0 ≤ j ∧ j ≤ 1000000 ∧ i.natAbs < 2 ^ 64
def CMul (i j : Int) : Prop := (-(2 ^ 64) < i ∧ i < 2 ^ 64) ∨ (-(2 ^ 64) < j ∧ j < 2 ^ 64)
theorem CMul.ok {i j : Int} (h : CMul i j) : IntMulOk i j := by
  rcases h with ⟨h1, h2⟩ | ⟨h1, h2⟩
  · exact .of_left (intBits_le_64 h1 h2)
  · exact .of_right (intBits_le_64 h1 h2)

theorem op_add : OpR X (binaryOp .Add) (rI0 fun i j => .int (i + j)) := opI0 fun _ _ _ _ _ _ _ q => add_int q
theorem op_sub : OpR X (binaryOp .Sub) (rI0 fun i j => .int (i - j)) := opI0 fun _ _ _ _ _ _ _ q => sub_int q
/-- % by a positive divisor of any size -/
theorem op_mod : OpR X (binaryOp .Mod) (rI (fun _ j => 0 < j) fun i j => .int (i % j)) := opI fun i j _ _ _ _ _ hc q => by
  have h1 : (0 : Int) < j := hc
  exact mod_int' (by omega) (by rw [Int.fmod_eq_emod_of_nonneg i (by omega)]; exact q)
theorem op_pow : OpR X (binaryOp .Pow) (rI CPow fun i j => .int (i ^ j.toNat)) := opI fun _ _ _ _ _ _ _ hc q => pow_int_small hc.1 hc.2.1 hc.2.2 q


theorem unI {f : Value → Sem Value} {g : Int → Int}
    (rule : ∀ (i : Int) (t : Tok) (s : Shared) (Q : Value → Shared → Prop) (E : Value → Shared → Prop), Q (.int (g i) s.toks) { s with toks := s.toks + 1 } → wpAny (model X.prog X.w) X.A (f (.int i t)) Q E s) :
    UnR X f (rU fun i => .int (g i)) := by
  intro pins s σ H x v Q I rx h
  obtain ⟨i, rfl, q⟩ := h
  obtain ⟨t, rfl⟩ := rx
  exact rule i t s _ _ ⟨.int (g i), H, I.tok _, ⟨_, rfl⟩, q⟩
theorem un_neg : UnR X (unaryOp .USub) (rU fun i => .int (-i)) := unI fun _ _ _ _ _ q => neg_int q

/-! ### bools among ints: n += (a < b) -/
end

/-! ### comparisons -/
/-- the scalars that == tells apart as data does -/
def scal : V → V → Bool
  | .non, .non => true | .non, .int _ => true | .int _, .non => true | .non, .bl _ => true | .bl _, .non => true | .non, .str _ => true | .str _, .non => true
  | .int _, .int _ => true | .bl _, .bl _ => true | .str _, .str _ => true | .byt _, .byt _ => true
  | .int _, .str _ => true | .str _, .int _ => true | .bl _, .str _ => true | .str _, .bl _ => true
  | _, _ => false
def rEq : R2 := fun x y H Q => scal x y = true ∧ Q (.bl (decide (x = y))) H
def rNe : R2 := fun x y H Q => scal x y = true ∧ Q (.bl (!decide (x = y))) H

theorem dec_int {i j : Int} : decide (V.int i = V.int j) = (i == j) := by
  rw [Bool.eq_iff_iff]
  simp
theorem dec_bl {i j : Bool} : decide (V.bl i = V.bl j) = (i == j) := by
  rw [Bool.eq_iff_iff]
  simp
theorem dec_str {i j : Str} : decide (V.str i = V.str j) = (i == j) := by
  rw [Bool.eq_iff_iff]
  simp
theorem dec_byt {i j : Array UInt8} : decide (V.byt i = V.byt j) = (i.toList == j.toList) := by
  rw [Bool.eq_iff_iff]
  cases i
  cases j
  simp

section
variable {X : Cx} {a b c : Expr} {ta tb tc : TE} {pos : Pos}
theorem fin_bl {pins : List (Addr × Obj)} {σ : St} {H : Hp} {s : Shared} {Q : VK} {k k' : Bool} (I : Inv X pins σ H s) (q : Q (.bl k) H) (e : k = k') : EP X pins σ Q (.bool k') s := by
  subst e
  exact ⟨.bl k, H, I, rfl, q⟩
theorem op_eq : OpR X (compareOp .Eq) rEq := by
  intro pins s σ H x y v u Q I rx ry h
  obtain ⟨hs, q⟩ := h
  cases x with
  | non =>
    cases rx
    cases y with
    | non => cases ry; exact PySem.EqNone.eq_none_none (fin_bl I q (by simp))
    | bl j => cases ry; exact PySem.EqNone.eq_none_bool (fin_bl I q (by simp))
    | int j => obtain ⟨t', rfl⟩ := ry; exact PySem.EqNone.eq_none_int (fin_bl I q (by simp))
    | str j => obtain ⟨t', rfl⟩ := ry; exact PySem.EqNone.eq_none_str (fin_bl I q (by simp))
    | _ => exact absurd (show false = true from hs) Bool.false_ne_true
  | bl i =>
    cases rx
    cases y with
    | non => cases ry; exact PySem.EqNone.eq_bool_none (fin_bl I q (by simp))
    | bl j => cases ry; exact eq_bool (fin_bl I q dec_bl)
    | str j => obtain ⟨t', rfl⟩ := ry; exact PySem.EqMixed.eq_bool_str (fin_bl I q (by simp))
    | _ => exact absurd (show false = true from hs) Bool.false_ne_true
  | int i =>
    obtain ⟨t, rfl⟩ := rx
    cases y with
    | non => cases ry; exact PySem.EqNone.eq_int_none (fin_bl I q (by simp))
    | int j => obtain ⟨t', rfl⟩ := ry; exact eq_int (fin_bl I q dec_int)
    | str j => obtain ⟨t', rfl⟩ := ry; exact PySem.EqMixed.eq_int_str (fin_bl I q (by simp))
    | _ => exact absurd (show false = true from hs) Bool.false_ne_true
  | str i =>
    obtain ⟨t, rfl⟩ := rx
    cases y with
    | non => cases ry; exact PySem.EqNone.eq_str_none (fin_bl I q (by simp))
    | bl j => cases ry; exact PySem.EqMixed.eq_str_bool (fin_bl I q (by simp))
    | int j => obtain ⟨t', rfl⟩ := ry; exact PySem.EqMixed.eq_str_int (fin_bl I q (by simp))
    | str j => obtain ⟨t', rfl⟩ := ry; exact eq_str (fin_bl I q dec_str)
    | _ => exact absurd (show false = true from hs) Bool.false_ne_true
  | byt i =>
    obtain ⟨t, rfl⟩ := rx
    cases y with
    | byt j => obtain ⟨t', rfl⟩ := ry; exact PySem.W.eq_bytes (fin_bl I q dec_byt)
    | _ => exact absurd (show false = true from hs) Bool.false_ne_true
  | _ => cases y <;> exact absurd (show false = true from hs) Bool.false_ne_true
theorem op_ne : OpR X (compareOp .NotEq) rNe := by
  intro pins s σ H x y v u Q I rx ry h
  obtain ⟨hs, q⟩ := h
  cases x with
  | non =>
    cases rx
    cases y with
    | non => cases ry; exact PySem.EqNone.ne_none_none (fin_bl I q (by simp))
    | bl j => cases ry; exact PySem.EqNone.ne_none_bool (fin_bl I q (by simp))
    | int j => obtain ⟨t', rfl⟩ := ry; exact PySem.EqNone.ne_none_int (fin_bl I q (by simp))
    | str j => obtain ⟨t', rfl⟩ := ry; exact PySem.EqNone.ne_none_str (fin_bl I q (by simp))
    | _ => exact absurd (show false = true from hs) Bool.false_ne_true
  | bl i =>
    cases rx
    cases y with
    | non => cases ry; exact PySem.EqNone.ne_bool_none (fin_bl I q (by simp))
    | bl j => cases ry; exact ne_bool (fin_bl I q (congrArg not dec_bl))
    | str j => obtain ⟨t', rfl⟩ := ry; exact PySem.EqMixed.ne_bool_str (fin_bl I q (by simp))
    | _ => exact absurd (show false = true from hs) Bool.false_ne_true
  | int i =>
    obtain ⟨t, rfl⟩ := rx
    cases y with
    | non => cases ry; exact PySem.EqNone.ne_int_none (fin_bl I q (by simp))
    | int j => obtain ⟨t', rfl⟩ := ry; exact ne_int (fin_bl I q (congrArg not dec_int))
    | str j => obtain ⟨t', rfl⟩ := ry; exact PySem.EqMixed.ne_int_str (fin_bl I q (by simp))
    | _ => exact absurd (show false = true from hs) Bool.false_ne_true
  | str i =>
    obtain ⟨t, rfl⟩ := rx
    cases y with
    | non => cases ry; exact PySem.EqNone.ne_str_none (fin_bl I q (by simp))
    | bl j => cases ry; exact PySem.EqMixed.ne_str_bool (fin_bl I q (by simp))
    | int j => obtain ⟨t', rfl⟩ := ry; exact PySem.EqMixed.ne_str_int (fin_bl I q (by simp))
    | str j => obtain ⟨t', rfl⟩ := ry; exact ne_str (fin_bl I q (congrArg not dec_str))
    | _ => exact absurd (show false = true from hs) Bool.false_ne_true
  | byt i =>
    obtain ⟨t, rfl⟩ := rx
    cases y with
    | byt j => obtain ⟨t', rfl⟩ := ry; exact PySem.W.ne_bytes (fin_bl I q (congrArg not dec_byt))
    | _ => exact absurd (show false = true from hs) Bool.false_ne_true
  | _ => cases y <;> exact absurd (show false = true from hs) Bool.false_ne_true

theorem op_lt : OpR X (compareOp .Lt) (rI0 fun i j => .bl (decide (i < j))) := opB0 fun _ _ _ _ _ _ _ q => lt_int q
theorem op_gt : OpR X (compareOp .Gt) (rI0 fun i j => .bl (decide (j < i))) := opB0 fun _ _ _ _ _ _ _ q => gt_int q



/-- two rules for one operation: by cases -/
theorem OpR.or {f : Value → Value → Sem Value} {r r' : R2} (h : OpR X f r) (h' : OpR X f r') : OpR X f (fun x y H Q => r x y H Q ∨ r' x y H Q) := by
  intro pins s σ H x y v u Q I rx ry q
  rcases q with q | q
  · exact h pins s σ H x y v u Q I rx ry q
  · exact h' pins s σ H x y v u Q I rx ry q

theorem nomark (b : Expr) {op : CmpOp} (h : op ≠ .In := by decide) (h2 : op ≠ .NotIn := by decide) : behindInMarks op b = false := by
  have e1 : (op == CmpOp.In) = false := by cases op <;> first | rfl | exact absurd rfl h
  have e2 : (op == CmpOp.NotIn) = false := by cases op <;> first | rfl | exact absurd rfl h2
  cases b <;> simp [behindInMarks, e1, e2]
/-- a comparison as a value; hm: nomark b, or (for in, not in) by with_unfolding_all rfl -/
theorem pe_cmpR {op : CmpOp} {r : R2} (ho : OpR X (compareOp op) r) (ha : PE X a ta) (hb : PE X b tb) (hm : behindInMarks op b = false) : PE X (.Compare a [op] [b] pos) (tOp r ta tb) := by
  intro pins s σ H Q I h
  exact wpAny_Compare1 (binT ha hb I h fun v u s2 x y H2 I2 rx ry q => ho pins s2 σ H2 x y v u Q I2 rx ry q) hm
/-- a reading of a value as a test -/
def tTest (t : TE) : TT := fun σ H Q => t σ H fun x H' => ∃ k, x = .bl k ∧ Q k H'
theorem pt_cmpR {op : CmpOp} {r : R2} (ho : OpR X (compareOp op) r) (ha : PE X a ta) (hb : PE X b tb) (hm : behindInMarks op b = false) : PT X (.Compare a [op] [b] pos) (tTest (tOp r ta tb)) := by
  intro pins s σ H Q I h
  refine wpAny_isTrue_Compare1 (thn (ha pins s σ H _ I h) fun v s1 ⟨x, H1, I1, r1, q1⟩ => thn (hb pins s1 σ H1 _ I1 q1) fun u s2 ⟨y, H2, I2, r2, q2⟩ =>
    thn (ho pins s2 σ H2 x y v u _ I2 r1 r2 q2) fun c s3 ⟨z, H3, I3, r3, k, e, q3⟩ => ?_) hm
  subst e
  cases r3
  exact wpAny_truthy_bool ⟨H3, I3, q3⟩

/-! ### truth -/
theorem line63 : (sizeLine : Nat) < 2 ^ 63 := by rw [sizeLine_eq]; decide

/-! ### strs and bytes -/
theorem op_add_str : OpR X (binaryOp .Add) (fun x y H Q => ∃ i j, x = .str i ∧ y = .str j ∧ i.length + j.length ≤ sizeLine ∧ Q (.str (i ++ j)) H) := by
  intro pins s σ H x y v u Q I rx ry h
  obtain ⟨i, j, rfl, rfl, hz, q⟩ := h
  obtain ⟨t, rfl⟩ := rx
  obtain ⟨t', rfl⟩ := ry
  exact add_str (fun t' tk => ⟨.str (i ++ j), H, I.tok _, ⟨_, rfl⟩, q⟩) hz


/-! ### scalar builtins, by CallR -/
theorem vals1 {x : V} {us : List Value} (r : Vals [x] us) : ∃ u, us = [u] ∧ RelV x u := by
  cases r with
  | cons r1 r2 => cases r2; exact ⟨_, rfl, r1⟩
theorem call_abs : CallR X (.builtin "abs") (fun xs H Q => ∃ i, xs = [.int i] ∧ Q (.int (if i < 0 then -i else i)) H) := by
  intro pins s σ H xs us Q I r h
  obtain ⟨i, rfl, q⟩ := h
  obtain ⟨u, rfl, t, rfl⟩ := vals1 r
  exact call_abs_int fun u tk => ⟨.int (if i < 0 then -i else i), H, I.tok _, ⟨_, rfl⟩, q⟩
theorem call_int1 : CallR X (.type "int") (fun xs H Q => (∃ i, xs = [.int i] ∧ Q (.int i) H) ∨ ∃ k, xs = [.bl k] ∧ Q (.int (if k then 1 else 0)) H) := by
  intro pins s σ H xs us Q I r h
  rcases h with ⟨i, rfl, q⟩ | ⟨k, rfl, q⟩
  · obtain ⟨u, rfl, t, rfl⟩ := vals1 r
    exact call_int_int ⟨.int i, H, I, ⟨_, rfl⟩, q⟩
  · obtain ⟨u, rfl, r1⟩ := vals1 r
    cases r1
    exact call_int_bool ⟨.int (if k then 1 else 0), H, I.tok _, ⟨_, rfl⟩, q⟩
end
end L2

namespace L2
open PySem PySem.Spec PyProof.Rows

/-! ### an instance, its attributes a map -/
structure ObjM (h : Heap) (x dx C : Addr) (mA : Str → Option Value) : Prop where
  obj : h.get? x = some (PySem.W.instObj C dx)
  ns : h.Ns1 dx mA
  ne : dx ≠ x



section
variable {prog : Program} {w : World} {A : Around} {E : Value → Shared → Prop} {s : Shared} {K : PySem.W.Frag} {x dx C f : Addr} {mA : Str → Option Value} {name : Str} {v : Value}





end

/-! ### the attributes as a list of pairs -/


section
variable {P : Program} {w : World} {H H' : Hp} {h h' : Heap} {a C dx : Addr} {fs fs' : List (Str × V)}
end

/-! ### what of the text a class must have -/
structure Cls (K : PySem.W.Frag) (C : Addr) : Prop where
  pg : PySem.W.plainGet K C Str.empty = true
  hd : PySem.W.hasDictIn K C = true
  po : PySem.W.plainOver K C = true
  sa : PySem.W.findIn K (.ref C) "__setattr__" = some (some (.builtin "object.__setattr__"))
theorem Cls.get {K : PySem.W.Frag} {C : Addr} (c : Cls K C) (f : Str) : PySem.W.plainGet K C f = true := c.pg
/-- a constant of the class -/
structure Con (K : PySem.W.Frag) (C : Addr) (f : Str) (v : V) (u : Value) : Prop where
  at_ : PySem.W.findIn K (.ref C) f = some (some u)
  rel : RelV v u
  get : PySem.W.specialIn K u "__get__" = some none
  cp : PySem.W.copiedNames.contains f = false
/-- a method: a plain def of the class or of one above it -/
structure Meth (K : PySem.W.Frag) (C : Addr) (m : Str) (f : Addr) : Prop where
  at_ : PySem.W.findIn K (.ref C) m = some (some (.ref f))
  fn : PySem.W.isFn K (.ref f) = true
  kp : PySem.W.keepIn K (.ref f) = true

section
variable {X : Cx} {pins : List (Addr × Obj)} {σ : St} {H : Hp} {s : Shared} {a C dx : Addr} {fs : List (Str × V)} {f : Str} {v : V} {A : Around} {E : Value → Shared → Prop}





/-- a new instance, tracked, without attributes -/
theorem Inv.made (I : Inv X pins σ H s) : Inv X pins σ (upd (upd H s.heap.objs.size (.own (s.heap.objs.size + 1))) (s.heap.objs.size + 1) (.ins C s.heap.objs.size []))
    { s with heap := (s.heap.push PySem.W.emptyDict).push (PySem.W.instObj C s.heap.objs.size) } := by
  have e1 : (s.heap.push PySem.W.emptyDict).get? s.heap.objs.size = some PySem.W.emptyDict := Heap.get?_push_size s.heap rfl
  have e2 : ((s.heap.push PySem.W.emptyDict).push (PySem.W.instObj C s.heap.objs.size)).get? (s.heap.objs.size + 1) = some (PySem.W.instObj C s.heap.objs.size) := by
    have := Heap.get?_push_size (s.heap.push PySem.W.emptyDict) (o := PySem.W.instObj C s.heap.objs.size) rfl
    rwa [Heap.size_push] at this
  have e3 : (s.heap.push PySem.W.emptyDict).Ns s.heap.objs.size (fun _ => none) := ⟨PySem.W.emptyDict, #[], _, e1, rfl, (fun e he => absurd he (by simp)), fun _ => rfl⟩
  have I1 := I.laid (a := s.heap.objs.size) (o := .own (s.heap.objs.size + 1)) (h' := s.heap.push PySem.W.emptyDict) (t' := s.toks) (fun b u q => Heap.get?_push_of_some _ q) (Nat.le_refl _) ⟨_, e1⟩
  refine I1.laid (a := s.heap.objs.size + 1) (o := .ins C s.heap.objs.size []) (t' := s.toks) (fun b u q => Heap.get?_push_of_some _ q) (Nat.le_of_eq (Heap.size_push _ _)) ?_
  have ne : s.heap.objs.size ≠ s.heap.objs.size + 1 := Nat.ne_of_lt (Nat.lt_succ_self _)
  refine ⟨by rw [upd_ne ne, upd_same], Nat.zero_le _, ne, e2, fun _ => none, (Heap.Ns1.of_empty e3).at fun o q => Heap.get?_push_of_some _ q, fun _ => True.intro, fun y hy => absurd rfl hy⟩

end

/-! ### readings and rules -/

section
variable {X : Cx} {o e value : Expr} {f : Str} {pos pos' tpos : Pos} {ta tv : TE}

end

/-! ### isinstance -/
section
variable {X : Cx} {pins : List (Addr × Obj)} {σ : St} {H : Hp} {s : Shared} {A : Around} {E : Value → Shared → Prop} {Q : Value → Shared → Prop} {c : Value} {b : Bool}
/-- the type of a value, as the fragment's deciders take it; for an instance its class -/
inductive TyOf (K : PySem.W.Frag) (H : Hp) : V → Value → Prop where
  | non : TyOf K H .non (.type "NoneType")
  | bl (x : Bool) : TyOf K H (.bl x) (.type "bool")
  | int (i : Int) : TyOf K H (.int i) (.type "int")
  | str (x : Str) : TyOf K H (.str x) (.type "str")
  | flt (x : UInt64) : TyOf K H (.flt x) (.type "float")
  | lst {a : Addr} {xs : List V} (e : H a = some (.lst xs)) : TyOf K H (.ref a) (.type "list")
  | frz {a : Addr} {o : Obj} {xs : List V} (e : H a = some (.frz o (.lst xs))) : TyOf K H (.ref a) (.type "list")
  | tup {a : Addr} {xs : List V} (e : H a = some (.tup xs)) : TyOf K H (.ref a) (.type "tuple")
  | dK {a : Addr} {kvs : List (Key × V)} (e : H a = some (.dK kvs)) : TyOf K H (.ref a) (.type "dict")
  | dT {a : Addr} {kvs : List (List Key × Addr × V)} (e : H a = some (.dT kvs)) : TyOf K H (.ref a) (.type "dict")
  | ins {a C dx : Addr} {fs : List (Str × V)} (e : H a = some (.ins C dx fs)) (cl : Cls K C) (ha : PySem.W.findIn K (.ref C) "__class__" = some (some (.builtin "object.__class__")))
      (hn : PySem.W.specialIn K (.builtin "object.__class__") "__get__" = some (some (.builtin "getset_descriptor.__get__"))) (htk : PySem.W.takesIn K (.builtin "object.__class__") = some true)
      (hm : PySem.W.mroIn K C (.type "object") = some true) : TyOf K H (.ref a) (.ref C)
end
end L2

namespace L2
open PySem PySem.Spec PyProof.Rows

/-! ### room -/
structure Room (k : Nat) (A : Around) : Prop where
  hd : A.handled = none
  dp : A.depth + 3 * k + 5 < recursionLimit
  un : A.units + 16 * k + 200 < cLine
theorem Room.mono {j k : Nat} {A : Around} (r : Room k A) (h : j ≤ k) : Room j A := ⟨r.hd, by have := r.dp; omega, by have := r.un; omega⟩
theorem Room.deeper {k : Nat} {A : Around} (r : Room (k + 1) A) (env : Env) : Room k (A.deeper env) :=
  ⟨r.hd, by have := r.dp; show A.depth + 1 + 3 * k + 5 < _; omega, by have := r.un; show A.units + 3 + 16 * k + 200 < _; omega⟩
theorem Room.in1 {k : Nat} {A : Around} (r : Room (k + 1) A) : Room k A.in1 :=
  ⟨r.hd, by have := r.dp; show A.depth + 3 * k + 5 < _; omega, by have := r.un; show A.units + 1 + 16 * k + 200 < _; omega⟩
theorem Room.depth {k : Nat} {A : Around} (r : Room k A) : A.depth < recursionLimit := by have := r.dp; omega
theorem Room.units {k : Nat} {A : Around} (r : Room k A) : A.units + 64 < cLine := by have := r.un; omega

/-! ### argument lists and displays -/
def tNil : TA := fun _ H Q => Q [] H
def tCons (ta : TE) (tr : TA) : TA := fun σ H Q => ta σ H fun x H1 => tr σ H1 fun xs H2 => Q (x :: xs) H2
section
variable {X : Cx} {e : Expr} {es : List Expr} {te : TE} {t : TA} {pos : Pos}
theorem pa_nil : PA X [] tNil := fun _ _ _ _ H Q I h => Calls.spliced_nil ⟨[], H, I, .nil, h⟩
theorem pa_cons (ha : PE X e te) (hr : PA X es t) (hs : starEach (e :: es) X.env = (false, eval e X.env) :: starEach es X.env := by rfl) : PA X (e :: es) (tCons te t) := by
  intro pos pins s σ H Q I h
  rw [hs]
  show wpAny _ _ (spliced ((false, eval e X.env) :: backTo pos (starEach es X.env))) _ _ s
  refine Calls.spliced_cons (thn (ha pins s σ H _ I h) fun u s1 ⟨x, H1, I1, r1, q1⟩ => ?_)
  exact thn (hr pos pins s1 σ H1 _ I1 q1) fun us s2 ⟨xs, H2, I2, r2, q2⟩ => ⟨x :: xs, H2, I2, .cons r1 r2, q2⟩

/-- a tuple, a list of written items -/
def tTup (t : TA) : TE := fun σ H Q => t σ H fun xs H1 => xs.length ≤ sizeLine ∧ ∀ p, H1 p = none → Q (.ref p) (upd H1 p (.tup xs))
def tLst (t : TA) : TE := fun σ H Q => t σ H fun xs H1 => xs.length ≤ sizeLine ∧ ∀ p, H1 p = none → Q (.ref p) (upd H1 p (.lst xs))
theorem pe_tup {x1} (h : PA X es t) : PE X (.Tuple es x1 pos) (tTup t) := by
  intro pins s σ H Q I hq
  refine wpAny_Tuple_spliced (thn (h pos pins s σ H _ I hq) fun us s1 ⟨xs, H1, I1, r, z, q⟩ => ⟨by rw [← r.length]; exact z, ?_⟩)
  have hf : H1 s1.heap.objs.size = none := I1.hok.fresh (Nat.le_refl _)
  refine ⟨.ref s1.heap.objs.size, upd H1 s1.heap.objs.size (.tup xs), I1.laid (t' := s1.toks) (fun b u e => Heap.get?_push_of_some _ e) (Nat.le_refl _) ?_, rfl, q _ hf⟩
  exact ⟨z, us, r, ⟨_, Heap.get?_push_size _ rfl, rfl, _, rfl⟩⟩
theorem pe_lst (h : PA X es t) : PE X (.List es pos) (tLst t) := by
  intro pins s σ H Q I hq
  refine wpAny_List_spliced (thn (h pos pins s σ H _ I hq) fun us s1 ⟨xs, H1, I1, r, z, q⟩ => ⟨by rw [← r.length]; exact z, ?_⟩)
  have hf : H1 s1.heap.objs.size = none := I1.hok.fresh (Nat.le_refl _)
  refine ⟨.ref s1.heap.objs.size, upd H1 s1.heap.objs.size (.lst xs), I1.laid (t' := s1.toks) (fun b u e => Heap.get?_push_of_some _ e) (Nat.le_refl _) ?_, rfl, q _ hf⟩
  exact ⟨z, us, 0, r, Heap.get?_push_size _ rfl⟩
end

/-! ### what a def promises -/
/-- a def's promise: the bound arguments in the parameters' order, the heap, the wanted end, the wanted exception -/
abbrev Sp := List V → Hp → VK → XK → Prop
/-- how an exception lies behind a call (file 08 gives it): the callers' frames, abstract heap and state ahead of the call, the wish, the exception, the state -/
abbrev CXT := List Env → Hp → Shared → XK → Value → Shared → Prop

/-- the state at a call -/
structure Env0 (P : Program) (w : World) (K : PySem.W.Frag) (mg : Str → Option Value) (base : Heap) (A : Around) (outer : List Env) (s : Shared) (H : Hp) : Prop where
  frames : A.frames = some outer
  mod : Mod K mg base
  bs : ∀ b o, base.get? b = some o → s.heap.get? b = some o ∧ H b = none
  bsz : base.objs.size ≤ s.heap.objs.size
  funs : s.heap.FunFrames base outer
  frf : ∀ b ∈ frs outer, H b = none
  hok : HOk P w H s.heap
  bare : AllBare s.gens
/-- a call's end -/
def CE (outer : List Env) (P : Program) (w : World) (H : Hp) (s : Shared) (Q : VK) (u : Value) (s' : Shared) : Prop :=
  ∃ v H', s'.os = s.os ∧ AllBare s'.gens ∧ Un (frs outer) [] H H' s.heap s'.heap ∧ HOk P w H' s'.heap ∧ RelV v u ∧ Q v H'
def CR (CX : CXT) (outer : List Env) (P : Program) (w : World) (H : Hp) (s : Shared) (Q : VK) (E : XK) (r : Result) (s' : Shared) : Prop :=
  match r with
  | .ok (.ret u) => CE outer P w H s Q u s'
  | .ok _ => False
  | .error e => CX outer H s E e s'
structure FnOk (P : Program) (w : World) (K : PySem.W.Frag) (mg : Str → Option Value) (base : Heap) (CX : CXT) (k : Nat) (f : Addr) (fd : FuncData) (ps : List Str) (sp : Sp) : Prop where
  len : ∀ vs H Q E, sp vs H Q E → vs.length = ps.length
  run : ∀ (A : Around) (outer : List Env) (s : Shared) (H : Hp) (args : Args) (us : List Value) (vs : List V) (Q : VK) (E : XK), Room k A → Env0 P w K mg base A outer s H → BindsTo s fd args (ps.zip us) → Vals vs us → sp vs H Q E →
    codeAny (model P w) A (.call (.ref f) args) (CR CX outer P w H s Q E) s
theorem FnOk.mono {P : Program} {w : World} {K : PySem.W.Frag} {mg : Str → Option Value} {base : Heap} {CX : CXT} {j k : Nat} {f : Addr} {fd : FuncData} {ps : List Str} {sp : Sp} (F : FnOk P w K mg base CX j f fd ps sp) (h : j ≤ k) :
    FnOk P w K mg base CX k f fd ps sp := ⟨F.len, fun A outer s H args us vs Q E hr => F.run A outer s H args us vs Q E (hr.mono h)⟩
/-- a weaker promise -/
theorem FnOk.imp {P : Program} {w : World} {K : PySem.W.Frag} {mg : Str → Option Value} {base : Heap} {CX : CXT} {k : Nat} {f : Addr} {fd : FuncData} {ps : List Str} {sp sp' : Sp} (F : FnOk P w K mg base CX k f fd ps sp)
    (h : ∀ vs H Q E, sp' vs H Q E → sp vs H Q E) : FnOk P w K mg base CX k f fd ps sp' :=
  ⟨fun vs H Q E q => F.len vs H Q E (h _ _ _ _ q), fun A outer s H args us vs Q E hr he hb hv hs => F.run A outer s H args us vs Q E hr he hb hv (h _ _ _ _ hs)⟩

theorem Env0.in1 {P : Program} {w : World} {K : PySem.W.Frag} {mg : Str → Option Value} {base : Heap} {A : Around} {outer : List Env} {s : Shared} {H : Hp} (e : Env0 P w K mg base A outer s H) :
    Env0 P w K mg base A.in1 outer s H := ⟨e.frames, e.mod, e.bs, e.bsz, e.funs, e.frf, e.hok, e.bare⟩

section
variable {X : Cx} {pins : List (Addr × Obj)} {σ : St} {H : Hp} {s s' : Shared}
/-- from a body: what a callee wants -/
theorem Inv.env0 (I : Inv X pins σ H s) : Env0 X.prog X.w X.K X.mg X.base X.A X.stack s H :=
  ⟨I.ok.frames, I.ok.mod, I.bs, Nat.le_trans I.ok.bsz I.sz, I.stack, I.stkFree, I.hok, I.bare⟩
/-- behind a call -/
theorem Inv.after {Q : VK} {u : Value} (I : Inv X pins σ H s) (h : CE X.stack X.prog X.w H s Q u s') : EP X pins σ Q u s' := by
  obtain ⟨v, H', os, bare, un, hok, r, q⟩ := h
  obtain ⟨hh, g, d, t, os'⟩ := s'
  obtain rfl : os' = s.os := os
  exact ⟨v, H', I.call (h' := hh) (g' := g) (d' := d) (t' := t) (ch := []) un hok bare (fun b z => absurd z (by simp)), r, q⟩
end

/-! ### calls -/

/-- how the parameters are bound: us the positional arguments, kw the keywords' values by name, ds the defaults that fill up -/
def Binds (K : PySem.W.Frag) (fd : FuncData) (ps : List Str) (ds : List Value) : Prop :=
  ∀ (s : Shared) (us : List Value), K.In s.heap → (us ++ ds).length = ps.length → BindsTo s fd ⟨us, []⟩ (ps.zip (us ++ ds))
/-- every parameter is given -/
theorem Binds.all {K : PySem.W.Frag} {fd : FuncData} {ps : List Str} (h : ∀ us : List Value, us.length = ps.length → bindArgs fd ⟨us, []⟩ = pure (ps.zip us)) : Binds K fd ps [] := fun s us _ hl => by
  rw [List.append_nil] at hl ⊢
  exact .of_eq (h us hl)


section
variable {X : Cx} {CX : CXT} {k : Nat} {f C : Addr} {fd : FuncData} {ps : List Str} {sp : Sp} {dvs : List V} {ds : List Value} {E : XK} {x m : Str} {p pos apos : Pos} {e o : Expr} {es : List Expr} {ta : TE} {t : TA}




/-- what a class must have to be made -/
structure Mk (K : PySem.W.Frag) (C f : Addr) : Prop where
  makes : PySem.W.makesIn K C = true
  init : PySem.W.findIn K (.ref C) "__init__" = some (some (.ref f))
  fn : PySem.W.isFn K (.ref f) = true
  kp : PySem.W.keepIn K (.ref C) = true

end

/-! ### keywords -/
section
variable {X : Cx} {CX : CXT} {k : Nat} {f C : Addr} {fd : FuncData} {ps ks : List Str} {sp : Sp} {E : XK} {x m : Str} {p pos apos kpos : Pos} {e o : Expr} {es : List Expr} {kws : List Keyword} {te ta : TE} {t tk : TA} {nm : Option Str}

/-- how a call with keywords binds: g puts the positional values us and the keywords' values ws (names ks) in the parameters' order, defaults among them -/
structure KBinds (K : PySem.W.Frag) (fd : FuncData) (ps ks : List Str) (g : List Value → List Value → List Value) (gV : List V → List V → List V) : Prop where
  to : ∀ (s : Shared) (us ws : List Value), K.In s.heap → (g us ws).length = ps.length → BindsTo s fd ⟨us, ks.zip ws⟩ (ps.zip (g us ws))
  rel : ∀ {vs : List V} {us : List Value} {zs : List V} {ws : List Value}, Vals vs us → Vals zs ws → Vals (gV vs zs) (g us ws)
variable {g : List Value → List Value → List Value} {gV : List V → List V → List V}
end

/-! ### a def's body keeps its promise -/
/-- names: the parameters first -/
structure FnScope (N P : List Str) (sc : Scope) : Prop where
  kind : sc.kind = .function
  co : sc.isCoroutine = false
  gen : sc.isGenerator = false
  nd : N.Nodup
  pre : N.take P.length = P
  par : ∀ x ∈ P, sc.names.lookup x = some .local ∨ sc.names.lookup x = some .cell
  nofree : ∀ y ∈ sc.names, y.2 ≠ .free

theorem bindL_out {kindOf : Str → Option NameKind} {x : Str} : ∀ {binds : List (Str × Value)} {m : Str → Option Value}, (∀ v, (x, v) ∉ binds) → bindL kindOf binds m x = m x
  | [], _, _ => rfl
  | (n, v) :: r, m, h => by
    unfold bindL
    rw [bindL_out fun w hw => h w (List.mem_cons_of_mem _ hw)]
    split
    · have : x ≠ n := by rintro rfl; exact h v List.mem_cons_self
      simp [this]
    · rfl
theorem bindC_out {kindOf : Str → Option NameKind} {x : Str} : ∀ {binds : List (Str × Value)} {m : Str → Option Value}, (∀ v, (x, v) ∉ binds) → bindC kindOf binds m x = m x
  | [], _, _ => rfl
  | (n, v) :: r, m, h => by
    unfold bindC
    rw [bindC_out fun w hw => h w (List.mem_cons_of_mem _ hw)]
    split
    · rfl
    · have : x ≠ n := by rintro rfl; exact h v List.mem_cons_self
      simp [this]
theorem bindL_get {kindOf : Str → Option NameKind} {x : Str} {v : Value} : ∀ {P : List Str} {vs : List Value} {i : Nat} {m : Str → Option Value}, P.Nodup → P[i]? = some x → vs[i]? = some v → kindOf x = some .local →
    bindL kindOf (P.zip vs) m x = some v
  | [], _, _, _, _, h, _, _ => by simp at h
  | _ :: _, [], _, _, _, _, h, _ => by simp at h
  | p :: P, w :: vs, 0, m, nd, h1, h2, hk => by
    simp at h1 h2; subst h1; subst h2
    show bindL kindOf ((p, w) :: P.zip vs) m p = _
    unfold bindL
    rw [bindL_out fun v hv => (List.nodup_cons.mp nd).1 (List.of_mem_zip hv).1, if_pos hk]
    simp
  | p :: P, w :: vs, i + 1, m, nd, h1, h2, hk => by
    show bindL kindOf ((p, w) :: P.zip vs) m x = _
    unfold bindL
    exact bindL_get (i := i) (List.nodup_cons.mp nd).2 (by simpa using h1) (by simpa using h2) hk
theorem bindC_get {kindOf : Str → Option NameKind} {x : Str} {v : Value} : ∀ {P : List Str} {vs : List Value} {i : Nat} {m : Str → Option Value}, P.Nodup → P[i]? = some x → vs[i]? = some v → kindOf x ≠ some .local →
    bindC kindOf (P.zip vs) m x = some v
  | [], _, _, _, _, h, _, _ => by simp at h
  | _ :: _, [], _, _, _, _, h, _ => by simp at h
  | p :: P, w :: vs, 0, m, nd, h1, h2, hk => by
    simp at h1 h2; subst h1; subst h2
    show bindC kindOf ((p, w) :: P.zip vs) m p = _
    unfold bindC
    rw [bindC_out fun v hv => (List.nodup_cons.mp nd).1 (List.of_mem_zip hv).1, if_neg hk]
    simp
  | p :: P, w :: vs, i + 1, m, nd, h1, h2, hk => by
    show bindC kindOf ((p, w) :: P.zip vs) m x = _
    unfold bindC
    exact bindC_get (i := i) (List.nodup_cons.mp nd).2 (by simpa using h1) (by simpa using h2) hk

/-- the names' values at the entry -/
def start (N : List Str) (vs : List V) : St := vs.map some ++ List.replicate (N.length - vs.length) none

/-- the context of a def's body, at its entry; an exception leaves the frame, then lies as CX says -/
def cxOf (CX : CXT) (P : Program) (w : World) (K : PySem.W.Frag) (mg : Str → Option Value) (base : Heap) (N : List Str) (qual : Str) (scope : Scope) (f : Addr) (cd : Value) (A : Around) (outer : List Env) (s : Shared) (H : Hp) (E : XK) : Cx where
  prog := P
  w := w
  K := K
  mg := mg
  base := base
  A := A.deeper (envOfC qual scope s.heap.objs.size f cd)
  N := N
  s₀ := s
  H₀ := H
  env := envOfC qual scope s.heap.objs.size f cd
  outer := outer
  stack := envOfC qual scope s.heap.objs.size f cd :: outer
  ex := []
  calm := true
  fn := fun _ => true
  pn := []
  xe := fun e s' => wpAny (model P w) (A.deeper (envOfC qual scope s.heap.objs.size f cd)) (leaving (envOfC qual scope s.heap.objs.size f cd) e) (fun _ s'' => CX outer H s E e s'') (fun e' s'' => CX outer H s E e' s'') s'

theorem cell_has {sc : Scope} {n : Nat} {x : Str} (h : sc.names.lookup x = some .cell) : ∃ c, (cellsFrom n sc.names []).lookup x = some c := by
  have q := PySem.W.cellsFrom_some sc.names n [] (.inl h)
  exact Option.isSome_iff_exists.mp q

theorem inv_start {CX : CXT} {P : Program} {w : World} {K : PySem.W.Frag} {mg : Str → Option Value} {base : Heap} {N ps : List Str} {qual : Str} {scope : Scope} {f : Addr} {cd : Value} {A : Around} {outer : List Env} {s s1 : Shared} {H : Hp} {E : XK} {us : List Value} {vs : List V}
    (S : FnScope N ps scope) (hd : A.handled = none) (e0 : Env0 P w K mg base A outer s H) (hl : vs.length = ps.length) (r : Vals vs us)
    (x : InCallC s s.heap.objs.size (bindL (envOfC qual scope s.heap.objs.size f cd).kindOf (ps.zip us) fun _ => none) (cellsFrom (s.heap.objs.size + 1) scope.names []) (bindC (envOfC qual scope s.heap.objs.size f cd).kindOf (ps.zip us) fun _ => none) s1) :
    Inv (cxOf CX P w K mg base N qual scope f cd A outer s H E) [] (start N vs) H s1 := by
  have hpl : ps.length ≤ N.length := by have := congrArg List.length S.pre; rw [List.length_take] at this; omega
  obtain ⟨h1, tk, rfl, hk⟩ := x.done
  have noA : ∀ b : Addr, b ∉ (cxOf CX P w K mg base N qual scope f cd A outer s H E).ex := fun b z => absurd (show b ∈ ([] : List Addr) from z) (by simp)
  refine ⟨⟨e0.mod, S.kind, rfl, rfl, Nat.le_refl _, fun y z c h1 h2 => ?_, fun y hy => ?_, fun y c _ h => ?_, fun _ => hd, Around.frames_deeper e0.frames, .inr ⟨rfl, rfl⟩, fun b z => absurd z (noA b), e0.bs, e0.bsz, fun b _ _ => noA b, fun b z => absurd z (noA b), e0.funs, e0.frf⟩,
    rfl, e0.bare, Un.kept hk, ⟨_, x.toInCall.ns, fun i y v h1 h2 h3 => ?_⟩, fun y c h => ⟨_, x.cell y c h⟩, e0.hok.fresh (Nat.le_refl _), fun y c h => ?_, fun p hp => absurd (show p ∈ ([] : List (Addr × Obj)) from hp) (by simp), e0.hok.kept hk, ?_⟩
  · exact name_of_addr x.apart (PySem.mem_of_lookup h1) (PySem.mem_of_lookup h2)
  · have hy : scope.names.lookup y = some .cell ∨ scope.names.lookup y = some .free := hy
    rcases hy with hy | hy
    · exact cell_has hy
    · exact absurd rfl (S.nofree _ (PySem.mem_of_lookup hy))
  · exact Nat.le_of_lt (x.above y c (PySem.mem_of_lookup h))
  · have hi : i < vs.length := by
      unfold start at h2
      by_cases hi : i < vs.length
      · exact hi
      · rw [List.getElem?_append_right (by simpa using hi)] at h2
        rw [List.getElem?_replicate] at h2
        split at h2 <;> cases h2
    have ha : vs[i]? = some v := by
      unfold start at h2
      rw [List.getElem?_append_left (by simpa using hi), List.getElem?_map] at h2
      cases e : vs[i]? with
      | none => rw [e] at h2; cases h2
      | some a => rw [e] at h2; cases h2; rfl
    obtain ⟨u, hu, rv⟩ := r.get ha
    have hp : ps[i]? = some y := by
      rw [← S.pre, List.getElem?_take_of_lt (by omega)]; exact h1
    have ndP : ps.Nodup := by rw [← S.pre]; exact S.nd.sublist (List.take_sublist _ _)
    refine ⟨u, rv, ?_⟩
    rcases S.par y (List.mem_of_getElem? hp) with k | k
    · exact .inl ⟨k, bindL_get ndP hp hu k⟩
    · obtain ⟨c, e⟩ := cell_has (n := s.heap.objs.size + 1) k
      refine .inr ⟨.inl k, c, e, ?_⟩
      have q := x.cell y c e
      rw [bindC_get ndP hp hu (by show scope.names.lookup y ≠ _; rw [k]; decide)] at q
      exact q
  · exact e0.hok.fresh (Nat.le_of_lt (x.above y c (PySem.mem_of_lookup h)))
  · unfold start
    show _ = N.length
    rw [List.length_append, List.length_map, List.length_replicate]
    omega

/-- THE RULE: a def (or a method) of the text, by its body. The body's reading t is chosen for each entry; it is run at the parameters' values -/
theorem fn_of {CX : CXT} {P : Program} {w : World} {K : PySem.W.Frag} {mg : Str → Option Value} {base : Heap} {k : Nat} {f : Addr} {name qual : Str} {params : Arguments} {body : List Stmt} {scope : Scope} {dV kV doc pm cdv ct oc : Value} {an od : Option Addr}
    {osl : Array (Option Value)} {N ps : List Str} {sp : Sp} (lk : K.lookup f = some ⟨oc, od, .func (PySem.W.fnOf name qual params body scope dV kV doc pm an cdv ct), osl⟩) (hcd : PySem.W.codeIn K cdv qual = true) (S : FnScope N ps scope)
    (len : ∀ vs H Q E, sp vs H Q E → vs.length = ps.length)
    (hbody : ∀ (A : Around) (outer : List Env) (s : Shared) (H : Hp) (vs : List V) (Q : VK) (E : XK), Room k (A.deeper (envOfC qual scope s.heap.objs.size f cdv)) → sp vs H Q E →
      ∃ t, PSs (cxOf CX P w K mg base N qual scope f cdv A outer s H E) body t ∧ t { nx := fun _ H' => Q .non H', rt := Q } (start N vs) H) :
    FnOk P w K mg base CX (k + 1) f (PySem.W.fnOf name qual params body scope dV kV doc pm an cdv ct) ps sp := by
  refine ⟨len, fun A outer s H args us vs Q E hr e0 hb r hsp => ?_⟩
  have hl := len _ _ _ _ hsp
  have KX : K.In s.heap := e0.mod.kin.keeps fun b o e => (e0.bs b o e).1
  have lim : s.heap.NoLimit := e0.mod.nolimit.keeps fun b o e => (e0.bs b o e).1
  have hkind : ∀ y ∈ ps.zip us, scope.names.lookup y.1 = some .local ∨ (scope.names.lookup y.1 = some .cell ∧ ((cellsFrom (s.heap.objs.size + 1) scope.names []).lookup y.1).isSome = true) := fun ⟨n, v⟩ hy => by
    rcases S.par n (List.of_mem_zip hy).1 with q | q
    · exact .inl q
    · exact .inr ⟨q, PySem.W.cellsFrom_some _ _ _ (.inl q)⟩
  refine codeAny_call_function hr.depth (KX _ _ lk) rfl S.co S.gen rfl (PySem.W.codeRec_of KX hcd) (hb _ _ _ _ ?_)
  refine wpAny_newFunctionEnv_cells S.kind hkind fun env he s1 x => ?_
  subst he
  refine ⟨lim.keeps x.toInCall.keep, codeAny_func ?_⟩
  obtain ⟨t, ht, hq⟩ := hbody A outer s H vs Q E (hr.deeper _) hsp
  have I : Inv (cxOf CX P w K mg base N qual scope f cdv A outer s H E) [] (start N vs) H s1 := inv_start S hr.hd e0 hl r x
  refine wpAny_mono (ht [] s1 (start N vs) H _ I hq) (fun fl s' hs => ?_) fun e s' hs => hs
  have fin : ∀ {σ' : St} {H' : Hp} {v : V} {u : Value}, Inv (cxOf CX P w K mg base N qual scope f cdv A outer s H E) [] σ' H' s' → RelV v u → Q v H' → CE outer P w H s Q u s' :=
    fun {σ' H' v u} J rv q => ⟨v, H', J.os, J.bare, J.base, J.hok, rv, q⟩
  cases fl with
  | ret u =>
    obtain ⟨v, σ', H', J, rv, q⟩ := hs
    exact fin J rv q
  | next =>
    obtain ⟨σ', H', J, q⟩ := hs
    exact fin (v := V.non) (u := Value.none) J rfl q
  | brk =>
    obtain ⟨_, _, _, q⟩ := hs
    exact False.elim q
  | cont =>
    obtain ⟨_, _, _, q⟩ := hs
    exact False.elim q
end L2

namespace L2
open PySem PySem.Spec PyProof.Rows
section
variable {X : Cx} {x : Str} {p pos : Pos} {e : Expr} {es : List Expr} {t : TA} {id T : String} {r : List V → Hp → VK → Prop}

def tCB (r : List V → Hp → VK → Prop) (t : TA) : TE := fun σ H Q => t σ H fun vs H1 => r vs H1 Q
/-- f(e, ..), f a built-in function -/
theorem pe_callB (hc : CallR X (.builtin id) r) (hg : Gl X x) (hm : X.mg x = none) (hv : bootBuiltins x = some (.builtin id)) (ha : PA X (e :: es) t) (hn : x ≠ "__name__" := by decide) (hdb : (x == ("__debug__" : Str)) = false := by decide)
    (he : starEach (e :: es) X.env = (false, eval e X.env) :: starEach es X.env := by rfl) (hpl : (backTo pos (starEach es X.env)).any (·.1) = false := by rfl) : PE X (.Call (.Name x p) (e :: es) [] pos) (tCB r t) := by
  intro pins s σ H Q I h
  refine wpAny_Call_Name_kw (ld_blt I hg hm hv ?_ hn hdb)
  exact PyProof.Rows.callWith_builtin1 (thn (ha pos pins s σ H _ I h) fun us s1 ⟨vs, H1, I1, r1, q1⟩ => hc pins s1 σ H1 vs us Q I1 r1 q1) he hpl
/-- T(e, ..), T a built-in type -/
theorem pe_callTy (hc : CallR X (.type T) r) (hg : Gl X x) (hm : X.mg x = none) (hv : bootBuiltins x = some (.type T)) (ha : PA X (e :: es) t) (hn : x ≠ "__name__" := by decide) (hdb : (x == ("__debug__" : Str)) = false := by decide)
    (he : starEach (e :: es) X.env = (false, eval e X.env) :: starEach es X.env := by rfl) (hpl : (backTo pos (starEach es X.env)).any (·.1) = false := by rfl) : PE X (.Call (.Name x p) (e :: es) [] pos) (tCB r t) := by
  intro pins s σ H Q I h
  refine wpAny_Call_Name_kw (ld_blt I hg hm hv ?_ hn hdb)
  exact PyProof.Rows.callWith_type1 (thn (ha pos pins s σ H _ I h) fun us s1 ⟨vs, H1, I1, r1, q1⟩ => hc pins s1 σ H1 vs us Q I1 r1 q1) he hpl
end
end L2

namespace HT
open PySem PyProof.Rows



section
open PySem.SeqAt
open PySem.AutoSeq1 (wpAny_loadPart')
open PySem.MeetsSeq PySem.MeetsSeq2 PySem.MeetsSeq3

end

section
variable {prog : Program} {w : World} {A : Around} {E : Value → Shared → Prop} {s : Shared}



/-! ### t[a:b], not the whole -/
/-- a slice's bound as a place among n (d where it is left out) -/
def sIx (n d : Nat) : Option Int → Nat
  | none => d
  | some v => if v < 0 then (v + (n : Int)).toNat else min v.toNat n
theorem sIx_le (n d : Nat) (hd : d ≤ n) (o : Option Int) : sIx n d o ≤ n := by
  cases o with
  | none => exact hd
  | some v =>
    show (if v < 0 then (v + (n : Int)).toNat else min v.toNat n) ≤ n
    by_cases hv : v < 0
    · rw [if_pos hv]; omega
    · rw [if_neg hv]; exact Nat.min_le_right _ _
theorem clip_eq (v : Int) (n d : Nat) : (if v < 0 then max (v + (n : Int)) 0 else min v (n : Int)) = ((sIx n d (some v) : Nat) : Int) := by
  show (if v < 0 then max (v + (n : Int)) 0 else min v (n : Int)) = (((if v < 0 then (v + (n : Int)).toNat else min v.toNat n) : Nat) : Int)
  by_cases hv : v < 0
  · simp only [if_pos hv]; omega
  · simp only [if_neg hv]; omega
theorem adjust_gen (lo hi : Option Int) (n : Nat) : Builtin.Slice.sliceAdjust lo hi 1 (n : Int) = (((sIx n 0 lo : Nat) : Int), ((sIx n n hi : Nat) : Int)) := by
  have h1 : ¬ ((1 : Int) < 0) := by omega
  unfold Builtin.Slice.sliceAdjust
  simp only [h1, if_false]
  refine Prod.ext ?_ ?_
  · cases lo with
    | none => rfl
    | some v => exact clip_eq v n 0
  · cases hi with
    | none => rfl
    | some v => exact clip_eq v n n
theorem places_gen (i j : Nat) : Builtin.Slice.slicePlaces (i : Int) (j : Int) 1 = j - i := by
  unfold Builtin.Slice.slicePlaces
  have h1 : (1 : Int) > 0 := by omega
  simp only [h1, if_true, Int.ediv_one]
  split <;> omega
theorem slicePart_ {v : Value} {o : Option Int} {Q : Option Int → Shared → Prop} (p : IsPart v o) (h : Q o s) : wpAny (model prog w) A (Builtin.Slice.slicePartIndex v) Q E s := by
  cases p with
  | none => exact slicePart_none h
  | int i t => exact slicePart_int h
theorem sliceApplied_gen {sl : Addr} {vl vu : Value} {lo hi : Option Int} {n : Nat} {Q : Int × Int × Nat → Shared → Prop} (hs : s.heap.IsSliceOf sl vl vu .none) (pl : IsPart vl lo) (pu : IsPart vu hi)
    (h : Q (((sIx n 0 lo : Nat) : Int), 1, sIx n n hi - sIx n 0 lo) s) : wpAny (model prog w) A (Builtin.Slice.sliceApplied (.ref sl) (pure (n : Int))) Q E s := by
  obtain ⟨os, hos, hcs, hds⟩ := id hs
  unfold Builtin.Slice.sliceApplied Builtin.Slice.sliceFields
  refine wpAny_bind (wpAny_bind (wpAny_field hos hds (x := vl) rfl (wpAny_bind (wpAny_field hos hds (x := vu) rfl (wpAny_bind (wpAny_field hos hds (x := .none) rfl (wpAny_pure ?_)))))))
  refine wpAny_bind (slicePart_none ?_)
  show wpAny _ _ (if ((1 : Int) == 0) = true then _ else _) _ _ s
  rw [if_neg (by decide)]
  refine wpAny_bind (slicePart_ pl (wpAny_bind (slicePart_ pu (wpAny_bind (wpAny_pure ?_)))))
  show wpAny _ _ (match Builtin.Slice.sliceAdjust lo hi 1 (n : Int) with | (lo, hi) => pure (lo, (1 : Int), Builtin.Slice.slicePlaces lo hi 1)) _ _ s
  rw [adjust_gen lo hi n]
  show wpAny _ _ (pure (((sIx n 0 lo : Nat) : Int), (1 : Int), Builtin.Slice.slicePlaces ((sIx n 0 lo : Nat) : Int) ((sIx n n hi : Nat) : Int) 1)) _ _ s
  rw [places_gen]
  exact wpAny_pure h
theorem pick_gen (xs : Array Value) (i k : Nat) : ((List.range k).filterMap fun (m : Nat) => xs[((i : Int) + (m : Int) * 1).toNat]?).toArray = ((xs.toList.drop i).take k).toArray := by
  have e : (fun (m : Nat) => xs[((i : Int) + (m : Int) * 1).toNat]?) = fun m => xs[i + m]? := by
    funext m
    have : ((i : Int) + (m : Int) * 1).toNat = i + m := by omega
    rw [this]
  rw [e]
  have := pick_run xs i k
  rw [List.filterMap_map] at this
  have e2 : ((fun x => xs[x]?) ∘ fun x => i + x) = fun m => xs[i + m]? := rfl
  rw [e2] at this
  rw [this]

theorem getItem_tuple_cut {t sl : Addr} {items : Array Value} {vl vu : Value} {lo hi : Option Int} {Q : Value → Shared → Prop} (ht : IsTup s.heap t items) (hs : s.heap.IsSliceOf sl vl vu .none) (pl : IsPart vl lo) (pu : IsPart vu hi)
    (hw : ¬ (sIx items.size 0 lo = 0 ∧ sIx items.size items.size hi = items.size))
    (h : Q (.ref s.heap.objs.size) { s with heap := s.heap.push { cls := .type "tuple", data := .seq ((items.toList.drop (sIx items.size 0 lo)).take (sIx items.size items.size hi - sIx items.size 0 lo)).toArray } })
    (hsz : items.size ≤ sizeLine) : wpAny (model prog w) A (getItem (.ref t) (.ref sl)) Q E s := by
  have htake : sizeOk (.seq ((items.toList.drop (sIx items.size 0 lo)).take (sIx items.size items.size hi - sIx items.size 0 lo)).toArray) := by
    show ((items.toList.drop (sIx items.size 0 lo)).take (sIx items.size items.size hi - sIx items.size 0 lo)).toArray.size ≤ sizeLine
    rw [List.size_toArray, List.length_take, List.length_drop, Array.length_toList]
    omega
  have hj : sIx items.size items.size hi ≤ items.size := sIx_le _ _ (Nat.le_refl _) hi
  obtain ⟨os, hos, hcs, hds⟩ := id hs
  have hTs : s.TypeIs (.ref sl) "slice" := ⟨os, hos, hcs⟩
  unfold getItem
  try with_reducible refine wpAny_holding ?_
  first | refine wpAny_bind (wpAny_pure ?_) | skip
  refine wpAny_bind (wpAny_sequenceKey ht.typeIs (by decide) ?_)
  refine wpAny_bind (wpAny_callSpecial?_slot (name := Str.ofString "__getitem__") ht.typeIs PyProof.Rows.slot_tuple_getitem
    (wpAny_call_entry PyProof.Rows.slot_tuple_getitem ht.typeIs entry_tuple_getitem ?_ (args_tuple_getitem _ _)))
  show wpAny _ _ (Builtin.Tuple.tupleItemsOf (.ref t) >>= _) _ _ s
  refine wpAny_bind (tupleItemsOf_ ht ?_)
  refine wpAny_bind (wpAny_typeOf hTs ?_)
  rw [if_pos (by decide)]
  refine wpAny_bind (sliceApplied_gen hs pl pu ?_)
  have hno : ¬ ((((sIx items.size 0 lo : Nat) : Int) == 0 && (1 : Int) == 1 && (sIx items.size items.size hi - sIx items.size 0 lo) == items.size) = true) := by
    intro q
    rw [Bool.and_eq_true, Bool.and_eq_true] at q
    have q1 : ((sIx items.size 0 lo : Nat) : Int) = 0 := eq_of_beq q.1.1
    have q2 : sIx items.size items.size hi - sIx items.size 0 lo = items.size := eq_of_beq q.2
    exact hw ⟨by omega, by omega⟩
  show wpAny _ _ (if (((sIx items.size 0 lo : Nat) : Int) == 0 && (1 : Int) == 1 && (sIx items.size items.size hi - sIx items.size 0 lo) == items.size) = true then _ else _) _ _ s
  rw [if_neg hno, pick_gen]
  first
    | exact wpAny_bind (m := Builtin.Tuple.tupleExact _) (wpAny_newObj_type (wpAny_pure ⟨_, rfl, wpAny_pure h⟩) htake)
    | exact wpAny_bind (m := Builtin.Tuple.tupleExact _) (wpAny_newObj_type (wpAny_bind (wpAny_pure (wpAny_pure ⟨_, rfl, wpAny_pure h⟩))) htake)
    | exact wpAny_bind (wpAny_bind (m := Builtin.Tuple.tupleExact _) (wpAny_newObj_type (wpAny_pure (wpAny_pure ⟨_, rfl, wpAny_pure h⟩)) htake))
    | exact wpAny_bind (wpAny_bind (m := Builtin.Tuple.tupleExact _) (wpAny_newObj_type (wpAny_pure ⟨_, rfl, wpAny_pure h⟩) htake))
end
end HT

namespace L2
open PySem PySem.Spec PyProof.Rows

/-! ### the parts of a slice -/
abbrev TO := St → Hp → (Option Int → Hp → Prop) → Prop
/-- a slice's part (left out, or an int) -/
def PO (X : Cx) (e : Option Expr) (t : TO) : Prop :=
  ∀ (pins : List (Addr × Obj)) (s : Shared) (σ : St) (H : Hp) (Q : Option Int → Hp → Prop), Inv X pins σ H s → t σ H Q →
    wpAny (model X.prog X.w) X.A (evalPart e X.env) (fun u s' => ∃ o H', Inv X pins σ H' s' ∧ IsPart u o ∧ Q o H') X.xe s
def tNoPart : TO := fun _ H Q => Q none H
def tPart (t : TE) : TO := fun σ H Q => t σ H fun x H1 => ∃ i, x = .int i ∧ Q (some i) H1


section
variable {X : Cx} {e : Expr} {te : TE} {lo hi : Option Expr} {tl th : TO} {pos p2 : Pos}

theorem po_none : PO X none tNoPart := by
  intro pins s σ H Q I h
  rw [evalPart_none]
  exact wpAny_pure ⟨none, H, I, .none, h⟩
theorem po_some (h : PE X e te) : PO X (some e) (tPart te) := by
  intro pins s σ H Q I hw
  rw [evalPart_some]
  refine thn (h pins s σ H _ I hw) fun u s1 ⟨x, H1, I1, r1, q1⟩ => ?_
  obtain ⟨i, rfl, q⟩ := q1
  obtain ⟨t, rfl⟩ := r1
  exact ⟨some i, H1, I1, .int i t, q⟩

/-- what a slice of a value is, by values: the slice object stands at sl -/
def SlR (X : Cx) (r : V → Option Int → Option Int → Hp → VK → Prop) : Prop :=
  ∀ (pins : List (Addr × Obj)) (s : Shared) (σ : St) (H : Hp) (x : V) (v vl vu : Value) (lo hi : Option Int) (sl : Addr) (Q : VK), Inv X pins σ H s → RelV x v → s.heap.IsSliceOf sl vl vu .none → IsPart vl lo → IsPart vu hi → r x lo hi H Q →
    ∃ T id, typeLookup (.type T) "__getitem__" = pure (some (.builtin id)) ∧ s.TypeIs v T ∧ wpAny (model X.prog X.w) X.A (getItem v (.ref sl)) (EP X pins σ Q) X.xe s
theorem SlR.or {r r' : V → Option Int → Option Int → Hp → VK → Prop} (h : SlR X r) (h' : SlR X r') : SlR X (fun x lo hi H Q => r x lo hi H Q ∨ r' x lo hi H Q) := by
  intro pins s σ H x v vl vu lo hi sl Q I rx hs pl pu q
  rcases q with q | q
  · exact h pins s σ H x v vl vu lo hi sl Q I rx hs pl pu q
  · exact h' pins s σ H x v vl vu lo hi sl Q I rx hs pl pu q
def tSl (r : V → Option Int → Option Int → Hp → VK → Prop) (te : TE) (tl th : TO) : TE := fun σ H Q => te σ H fun x H1 => tl σ H1 fun l H2 => th σ H2 fun u H3 => r x l u H3 Q
/-- a[lo:hi], any a -/
theorem pe_slice {r : V → Option Int → Option Int → Hp → VK → Prop} (hr : SlR X r) (he : PE X e te) (hl : PO X lo tl) (hu : PO X hi th) : PE X (.Subscript e (.Slice lo hi none p2) pos) (tSl r te tl th) := by
  intro pins s σ H Q I h
  refine Subscript_ (thn (he pins s σ H _ I h) fun v s1 ⟨x, H1, I1, r1, q1⟩ => ?_)
  refine wpAny_Slice (thn (hl pins s1 σ H1 _ I1 q1) fun vl s2 ⟨l, H2, I2, pl, q2⟩ => thn (hu pins s2 σ H2 _ I2 q2) fun vu s3 ⟨u, H3, I3, pu, q3⟩ => ?_)
  rw [evalPart_none]
  refine wpAny_pure ?_
  have I4 : Inv X pins σ H3 { s3 with heap := s3.heap.push { cls := .type "slice", data := .fields #[vl, vu, .none] } } := I3.kept (t' := s3.toks) fun b ob q => Heap.get?_push_of_some _ q
  obtain ⟨T, id, hT, ht, hg⟩ := hr pins { s3 with heap := s3.heap.push { cls := .type "slice", data := .fields #[vl, vu, .none] } } σ H3 x v vl vu l u s3.heap.objs.size Q I4 r1 (Heap.IsSliceOf.new ..) pl pu q3
  show wpAny (model X.prog X.w) X.A (subscriptTail e (.Slice lo hi none p2) v (.ref s3.heap.objs.size)) (EP X pins σ Q) X.xe { s3 with heap := s3.heap.push { cls := .type "slice", data := .fields #[vl, vu, .none] } }
  exact tail_any (ops := [.ref s3.heap.objs.size, v]) ht hT hg (by with_unfolding_all rfl)

/-- the items of xs[lo:hi] -/
def cutV (xs : List V) (lo hi : Option Int) : List V := (xs.drop (HT.sIx xs.length 0 lo)).take (HT.sIx xs.length xs.length hi - HT.sIx xs.length 0 lo)
theorem cutV_length (xs : List V) (lo hi : Option Int) : (cutV xs lo hi).length ≤ xs.length := by
  unfold cutV
  rw [List.length_take, List.length_drop]
  omega
/-- t[lo:hi], not the whole of it (the whole would be t itself) -/
def rSlT (K : PySem.W.Frag) : V → Option Int → Option Int → Hp → VK → Prop := fun x lo hi H Q => ∃ a xs, x = .ref a ∧ SqT K H a xs ∧
  ¬ (HT.sIx xs.length 0 lo = 0 ∧ HT.sIx xs.length xs.length hi = xs.length) ∧ ∀ p, H p = none → Q (.ref p) (upd H p (.tup (cutV xs lo hi)))
theorem sl_tup : SlR X (rSlT X.K) := by
  intro pins s σ H x v vl vu lo hi sl Q I rx hs pl pu h
  obtain ⟨a, xs, rfl, hx, hw, q⟩ := h
  cases rx
  obtain ⟨its, r, ht, hz⟩ := I.tuple hx
  have hlen : its.toArray.size = xs.length := by rw [List.size_toArray]; exact r.length.symm
  refine ⟨"tuple", _, PyProof.Rows.slot_tuple_getitem.lookup, ht.typeIs, ?_⟩
  refine HT.getItem_tuple_cut ht hs pl pu (by rw [hlen]; exact hw) ?_ (by rw [hlen]; exact hz)
  rw [hlen]
  refine ⟨.ref s.heap.objs.size, _, I.laid (t' := s.toks) (o := .tup (cutV xs lo hi)) (fun b ob q => Heap.get?_push_of_some _ q) (Nat.le_refl _) ?_, rfl, q _ (I.hok.fresh (Nat.le_refl _))⟩
  exact ⟨Nat.le_trans (cutV_length xs lo hi) hz, _, (r.drop (HT.sIx xs.length 0 lo)).take (HT.sIx xs.length xs.length hi - HT.sIx xs.length 0 lo), IsTup.new _ _⟩

/-! ### t < u, t + u -/
theorem Vals.nil_iff {xs : List V} {us : List Value} (r : Vals xs us) : us = [] ↔ xs = [] := by
  cases r with
  | nil => simp
  | cons _ _ => simp
end
end L2

namespace L2
open PySem PySem.Spec PyProof.Rows

/-! ### places -/
/-- the place that an index of any sign means -/
def ixN (n : Nat) (i : Int) : Option Nat := if 0 ≤ i then (if i < n then some i.toNat else none) else if -(n : Int) ≤ i then some (i + n).toNat else none
def atI {α : Type} (xs : List α) (i : Int) : Option α := (ixN xs.length i).bind fun j => xs[j]?
theorem ixN_seq {n : Nat} {i : Int} {j : Nat} (h : ixN n i = some j) : seqIndex? i n = some j ∧ j < n ∧ -(n : Int) ≤ i ∧ i < n := by
  unfold ixN at h
  by_cases h0 : 0 ≤ i
  · rw [if_pos h0] at h
    by_cases h1 : i < n
    · rw [if_pos h1] at h
      have e : i.toNat = j := Option.some.inj h
      exact ⟨by rw [seqIndex_of h0 h1, e], by omega, by omega, h1⟩
    · rw [if_neg h1] at h; cases h
  · rw [if_neg h0] at h
    by_cases h1 : -(n : Int) ≤ i
    · rw [if_pos h1] at h
      have e : (i + n).toNat = j := Option.some.inj h
      exact ⟨by rw [seqIndex_neg (by omega) h1, e], by omega, h1, by omega⟩
    · rw [if_neg h1] at h; cases h
theorem atI_get {α : Type} {xs : List α} {i : Int} {v : α} (h : atI xs i = some v) : ∃ j, seqIndex? i xs.length = some j ∧ xs[j]? = some v ∧ j < xs.length ∧ -(xs.length : Int) ≤ i ∧ i < xs.length := by
  unfold atI at h
  cases e : ixN xs.length i with
  | none => rw [e] at h; cases h
  | some j =>
    rw [e] at h
    obtain ⟨h1, h2, h3, h4⟩ := ixN_seq e
    exact ⟨j, h1, h, h2, h3, h4⟩

/-! ### what may be subscripted -/
/-- what stands as an index of a plain subscript -/
def PlainIx (b : Expr) : Prop := ∀ o i, subscripted b false o i = operate [o, i] (getItem o i)
/-- a subscript by values -/
def IxR (X : Cx) (r : R2) : Prop :=
  ∀ (value slice : Expr) (pins : List (Addr × Obj)) (s : Shared) (σ : St) (H : Hp) (x y : V) (v u : Value) (Q : VK), Inv X pins σ H s → RelV x v → RelV y u → r x y H Q →
    subscripted slice false v u = operate [v, u] (getItem v u) → wpAny (model X.prog X.w) X.A (subscriptTail value slice v u) (EP X pins σ Q) X.xe s
/-- a call of a builtin's method by values: the receiver, the arguments -/
def MtR (X : Cx) (id : String) (r : V → List V → Hp → VK → Prop) : Prop :=
  ∀ (pins : List (Addr × Obj)) (s : Shared) (σ : St) (H : Hp) (x : V) (xs : List V) (v : Value) (us : List Value) (Q : VK), Inv X pins σ H s → RelV x v → Vals xs us → r x xs H Q →
    wpAny (model X.prog X.w) X.A (call (.builtin id) (v :: us)) (EP X pins σ Q) X.xe s
section
variable {X : Cx} {a b : Expr} {ta tb : TE} {pos : Pos}
theorem IxR.or {r r' : R2} (h : IxR X r) (h' : IxR X r') : IxR X (fun x y H Q => r x y H Q ∨ r' x y H Q) := by
  intro value slice pins s σ H x y v u Q I rx ry q hs
  rcases q with q | q
  · exact h value slice pins s σ H x y v u Q I rx ry q hs
  · exact h' value slice pins s σ H x y v u Q I rx ry q hs
theorem MtR.or {id : String} {r r' : V → List V → Hp → VK → Prop} (h : MtR X id r) (h' : MtR X id r') : MtR X id (fun x xs H Q => r x xs H Q ∨ r' x xs H Q) := by
  intro pins s σ H x xs v us Q I rx rs q
  rcases q with q | q
  · exact h pins s σ H x xs v us Q I rx rs q
  · exact h' pins s σ H x xs v us Q I rx rs q
/-- a[b] -/
theorem pe_ix {r : R2} (hr : IxR X r) (ha : PE X a ta) (hb : PE X b tb) (hs : PlainIx b) : PE X (.Subscript a b pos) (tOp r ta tb) := by
  intro pins s σ H Q I h
  exact Subscript_ (binT ha hb I h fun v u s2 x y H2 I2 rx ry q => hr a b pins s2 σ H2 x y v u Q I2 rx ry q (hs _ _))

def rIxL (K : PySem.W.Frag) : R2 := fun x y H Q => ∃ p xs i v, x = .ref p ∧ y = .int i ∧ SqL K H p xs ∧ atI xs i = some v ∧ Q v H
def rIxT (K : PySem.W.Frag) : R2 := fun x y H Q => ∃ p xs i v, x = .ref p ∧ y = .int i ∧ SqT K H p xs ∧ atI xs i = some v ∧ Q v H
theorem ix_list : IxR X (rIxL X.K) := by
  intro value slice pins s σ H x y v u Q I rx ry h hs
  obtain ⟨p, xs, i, z, rfl, rfl, hq, he, q⟩ := h
  cases rx
  obtain ⟨t, rfl⟩ := ry
  obtain ⟨its, r, pl, hz⟩ := I.list hq
  obtain ⟨j, h1, h2, h3, h4, h5⟩ := atI_get he
  obtain ⟨w, ew, rw'⟩ := r.get h2
  have hl := r.length
  have hn := line63
  have fin : EP X pins σ Q w s := ⟨z, H, I, rw', q⟩
  by_cases h0 : 0 ≤ i
  · have hj : i.toNat = j := by
      rw [seqIndex_of h0 h5] at h1
      exact Option.some.inj h1
    exact item_listR pl.isList h0 (by omega) (by rw [hj]; simpa using ew) fin hs
  · have hj : (i + (its.toArray.size : Int)).toNat = j := by
      rw [seqIndex_neg (by omega) h4] at h1
      rw [List.size_toArray, ← hl]
      exact Option.some.inj h1
    exact subscriptTail_builtinR (x := w) pl.isList.typeIs slot_list_getitem.lookup
      (wpAny_getItem_list_neg (Q := fun r s' => r = w ∧ EP X pins σ Q r s') pl.isList (by omega) (by rw [List.size_toArray] <;> omega) (by omega) (by rw [hj]; simpa using ew) ⟨rfl, fin⟩) hs
theorem ix_tup : IxR X (rIxT X.K) := by
  intro value slice pins s σ H x y v u Q I rx ry h hs
  obtain ⟨p, xs, i, z, rfl, rfl, hq, he, q⟩ := h
  cases rx
  obtain ⟨t, rfl⟩ := ry
  obtain ⟨its, r, pl, hz⟩ := I.tuple hq
  obtain ⟨j, h1, h2, h3, h4, h5⟩ := atI_get he
  obtain ⟨w, ew, rw'⟩ := r.get h2
  have hl := r.length
  have hn := line63
  have fin : EP X pins σ Q w s := ⟨z, H, I, rw', q⟩
  exact subscriptTail_builtinR (x := w) pl.typeIs slot_tuple_getitem.lookup
    (getItem_tuple (j := j) (Q := fun r s' => r = w ∧ EP X pins σ Q r s') pl (by omega) (by omega) (by rw [List.size_toArray, ← hl]; exact h1) (by simpa using ew) ⟨rfl, fin⟩) hs

/-! ### xs[i] = v, any sign -/
theorem Inv.lst {pins : List (Addr × Obj)} {σ : St} {H : Hp} {s : Shared} {p : Addr} {xs : List V} (I : Inv X pins σ H s) (h : H p = some (.lst xs)) :
    ∃ (its : List Value) (n : Nat), Vals xs its ∧ s.heap.get? p = some { cls := .type "list", data := .seq its.toArray n } ∧ xs.length ≤ sizeLine := by
  obtain ⟨z, its, n, r, e⟩ := I.hok p _ h
  exact ⟨its, n, r, e, z⟩

/-! ### slices -/
theorem slice_bounds (lo hi : Option Int) (n : Nat) : (sliceBounds lo hi none n).1 = ((HT.sIx n 0 lo : Nat) : Int) ∧ (sliceBounds lo hi none n).2.1 = ((HT.sIx n n hi : Nat) : Int) ∧ (sliceBounds lo hi none n).2.2 = 1 := by
  refine ⟨?_, ?_, rfl⟩
  · cases lo with
    | none => simp [sliceBounds, HT.sIx]
    | some i =>
      simp only [sliceBounds, HT.sIx, Option.getD_none, show (1 : Int) > 0 by decide, if_true]
      by_cases h : i < 0
      · simp only [h, if_true] <;> omega
      · simp only [h, if_false] <;> omega
  · cases hi with
    | none => simp [sliceBounds, HT.sIx]
    | some i =>
      simp only [sliceBounds, HT.sIx, Option.getD_none, show (1 : Int) > 0 by decide, if_true]
      by_cases h : i < 0
      · simp only [h, if_true] <;> omega
      · simp only [h, if_false] <;> omega
theorem slicePick_cut (its : List Value) (lo hi : Option Int) : slicePick its.toArray lo hi none = ((its.drop (HT.sIx its.length 0 lo)).take (HT.sIx its.length its.length hi - HT.sIx its.length 0 lo)).toArray := by
  obtain ⟨h1, h2, h3⟩ := slice_bounds lo hi its.toArray.size
  unfold slicePick
  rw [h1, h2, h3]
  simp only [sliceRange_one, pick_run, List.size_toArray] <;> rfl
/-- xs[lo:hi] of a list: a new list -/
def rSlL (K : PySem.W.Frag) : V → Option Int → Option Int → Hp → VK → Prop := fun x lo hi H Q => ∃ a xs, x = .ref a ∧ SqL K H a xs ∧ ∀ p, H p = none → Q (.ref p) (upd H p (.lst (cutV xs lo hi)))
theorem sl_list : SlR X (rSlL X.K) := by
  intro pins s σ H x v vl vu lo hi sl Q I rx hs pl pu h
  obtain ⟨a, xs, rfl, hx, q⟩ := h
  cases rx
  obtain ⟨its, r, ht, hz⟩ := I.list hx
  have hlen := r.length
  refine ⟨"list", _, slot_list_getitem.lookup, ht.isList.typeIs, ?_⟩
  refine wpAny_getItem_list_slice ht.isList hs pl pu .none (by simp) ?_ (by rw [List.size_toArray] <;> omega)
  rw [slicePick_cut, ← hlen]
  refine ⟨.ref s.heap.objs.size, _, I.laid (t' := s.toks) (o := .lst (cutV xs lo hi)) (fun b ob q => Heap.get?_push_of_some _ q) (Nat.le_refl _) ?_, rfl, q _ (I.hok.fresh (Nat.le_refl _))⟩
  exact ⟨Nat.le_trans (cutV_length xs lo hi) hz, _, 0, (r.drop (HT.sIx xs.length 0 lo)).take (HT.sIx xs.length xs.length hi - HT.sIx xs.length 0 lo), Heap.get?_push_size _ rfl⟩

/-! ### in, not in: flat items -/

/-! ### len, list(x), tuple(x) of any list or tuple that is read -/
theorem call_len_seq : CallR X (.builtin "len") (fun xs H Q => ∃ p ys, xs = [.ref p] ∧ (SqL X.K H p ys ∨ SqT X.K H p ys) ∧ Q (.int ys.length) H) := by
  intro pins s σ H xs us Q I r h
  obtain ⟨p, ys, rfl, hq, q⟩ := h
  obtain ⟨u, rfl, rx⟩ := vals1 r
  cases rx
  have hn := line63
  rcases hq with hq | hq
  · obtain ⟨its, r', pl, hz⟩ := I.list hq
    have hlen := r'.length
    exact Calls.call_len_list pl.isList (by simp only [List.size_toArray] <;> omega) ⟨.int ys.length, H, I.tok _, ⟨s.toks + 1, by rw [List.size_toArray, hlen]⟩, q⟩
  · obtain ⟨its, r', pl, hz⟩ := I.tuple hq
    have hlen := r'.length
    exact len_tuple pl (by simp only [List.size_toArray] <;> omega) ⟨.int ys.length, H, I.tok _, ⟨s.toks + 1, by rw [List.size_toArray, hlen]⟩, q⟩
theorem CallR.or {f : Value} {r r' : List V → Hp → VK → Prop} (h : CallR X f r) (h' : CallR X f r') : CallR X f (fun xs H Q => r xs H Q ∨ r' xs H Q) := by
  intro pins s σ H xs us Q I rs q
  rcases q with q | q
  · exact h pins s σ H xs us Q I rs q
  · exact h' pins s σ H xs us Q I rs q

/-! ### the call of a builtin's method: o.m(..) -/
/-- the value is of that builtin type -/
def tyV (K : PySem.W.Frag) (T : String) (x : V) (H : Hp) : Prop := match x with
  | .str _ => T = "str"
  | .int _ => T = "int"
  | .ref p => (T = "list" ∧ ∃ xs, SqL K H p xs) ∨ (T = "tuple" ∧ ∃ o, K.lookup p = some o ∧ o.cls = .type "tuple" ∧ o.dict = none) ∨
      (T = "dict" ∧ ((∃ kvs, H p = some (.dK kvs)) ∨ ∃ kvs, H p = some (.dT kvs))) ∨ (T = "set" ∧ ∃ S n, H p = some (.set S n))
  | _ => False
theorem tyV_is {pins : List (Addr × Obj)} {σ : St} {H : Hp} {s : Shared} {T : String} {x : V} {v : Value} (I : Inv X pins σ H s) (r : RelV x v) (ty : tyV X.K T x H) :
    s.TypeIs v T ∧ ∀ a, v = .ref a → ∃ ob, s.heap.get? a = some ob ∧ ob.dict = none := by
  cases x with
  | str z =>
    obtain ⟨t, rfl⟩ := r
    cases (show T = "str" from ty)
    exact ⟨typeIs_str s z t, fun _ e => nomatch e⟩
  | int i =>
    obtain ⟨t, rfl⟩ := r
    cases (show T = "int" from ty)
    exact ⟨typeIs_int s i t, fun _ e => nomatch e⟩
  | ref p =>
    cases r
    rcases ty with ⟨rfl, xs, hq⟩ | ⟨rfl, o, hk, hc, hd⟩ | ⟨rfl, hk⟩ | ⟨rfl, S, n, hk⟩
    · obtain ⟨its, _, pl, _⟩ := I.list hq
      refine ⟨pl.isList.typeIs, fun a e => ?_⟩
      cases e
      obtain ⟨o, n, e, c, hd, _⟩ := pl
      exact ⟨o, e, hd⟩
    · refine ⟨⟨o, I.kIn p o hk, hc⟩, fun a e => ?_⟩
      cases e
      exact ⟨o, I.kIn _ o hk, hd⟩
    · have z : ∃ o, s.heap.get? p = some o ∧ o.ExactDict := by
        rcases hk with ⟨kvs, hk⟩ | ⟨kvs, hk⟩
        · obtain ⟨_, _, _, _, o, _, _, e, ex, _⟩ := I.hok p _ hk
          exact ⟨o, e, ex⟩
        · obtain ⟨_, _, _, _, o, _, _, e, ex, _⟩ := I.hok p _ hk
          exact ⟨o, e, ex⟩
      obtain ⟨o, e, ex⟩ := z
      refine ⟨⟨o, e, ex.1⟩, fun a e2 => ?_⟩
      cases e2
      exact ⟨o, e, ex.2.1⟩
    · obtain ⟨o, _, _, _, e, ex, _⟩ := I.hok p _ hk
      refine ⟨⟨o, e, ex.1⟩, fun a e2 => ?_⟩
      cases e2
      exact ⟨o, e, ex.2.1⟩
  | _ => exact False.elim ty
def tBM (K : PySem.W.Frag) (T : String) (r : V → List V → Hp → VK → Prop) (to : TE) (t : TA) : TE := fun σ H Q => to σ H fun x H1 => tyV K T x H1 ∧ t σ H1 fun xs H2 => r x xs H2 Q
variable {o e : Expr} {es : List Expr} {to : TE} {t : TA} {name : Str} {apos cpos : Pos} {T id : String} {r : V → List V → Hp → VK → Prop}
theorem pe_bm (pa : PlainAttrs T) (slot : Slot T name id) (hty : typeOf (.builtin id) = pure (.type "method_descriptor")) (hm : MtR X id r) (ho : PE X o to) (ha : PA X (e :: es) t)
    (hbase : attributeBase o name X.env (eval o X.env) = eval o X.env := by rfl)
    (hfew : ((backTo cpos (starEach (e :: es) X.env)).all (fun x => !x.1) && (backToKw cpos (keywordEach [] X.env)).all (fun x => x.1.isSome)
      && decide ((e :: es).length + ([] : List Keyword).length + (if ([] : List Keyword).isEmpty then 0 else 1) < 30)) = true := by rfl)
    (hline : (apos.endLine == cpos.line) = true := by rfl) (hs : starEach (e :: es) X.env = (false, eval e X.env) :: starEach es X.env := by rfl) (hplain : (backTo cpos (starEach es X.env)).any (·.1) = false := by rfl) :
    PE X (.Call (.Attribute o name apos) (e :: es) [] cpos) (tBM X.K T r to t) := by
  intro pins s σ H Q I h
  refine wpAny_Call_method_late hbase hfew hline rfl (thn (ho pins s σ H _ I h) fun v s1 ⟨x, H1, I1, r1, ty, q1⟩ => ?_)
  obtain ⟨h1, h2⟩ := tyV_is I1 r1 ty
  refine ⟨T, id, pa, slot, hty, h1, h2, ?_⟩
  have hA := ha cpos pins s1 σ H1 _ I1 q1
  rw [hs] at hA ⊢
  refine Calls.callWith_builtin (by show (false || (backTo cpos (starEach es X.env)).any (·.1)) = false; rw [hplain] <;> rfl) (Calls.evalArgs_plain ?_)
  exact thn hA fun us s2 ⟨vs, H2, I2, r2, q2⟩ => hm pins s2 σ H2 x vs v us Q I2 r1 r2 q2
/- xs.append(e), list.index on a module's tuple .. are MtR facts of 06m -/
end
end L2

namespace L2
open PySem PySem.Spec PyProof.Rows

def MtM (X : Cx) (id : String) (r : V → List V → Hp → VK → Prop) : Prop :=
  ∀ (pins : List (Addr × Obj)) (s : Shared) (σ : St) (H : Hp) (x : V) (xs : List V) (v : Value) (us : List Value) (Q : VK), Inv X pins σ H s → RelV x v → Vals xs us → r x xs H Q →
    wpAny (model X.prog X.w) X.A (call (.builtin id) (v :: us)) (EP X pins σ Q) X.xe s

/-! ### lists of values -/
theorem Vals.one : ∀ {x : V} {us : List Value}, Vals [x] us → ∃ u, us = [u] ∧ RelV x u
  | _, _, .cons r .nil => ⟨_, rfl, r⟩
theorem Vals.two : ∀ {x y : V} {us : List Value}, Vals [x, y] us → ∃ u v, us = [u, v] ∧ RelV x u ∧ RelV y v
  | _, _, _, .cons r (.cons q .nil) => ⟨_, _, rfl, r, q⟩
theorem Vals.zero : ∀ {us : List Value}, Vals [] us → us = []
  | _, .nil => rfl
theorem Vals.reverse {xs : List V} {us : List Value} (h : Vals xs us) : Vals xs.reverse us.reverse := by
  induction h with
  | nil => exact .nil
  | cons r t ih => rw [List.reverse_cons, List.reverse_cons]; exact Vals.append ih (.cons r .nil)

section
variable {X : Cx} {pins : List (Addr × Obj)} {σ : St} {H : Hp} {s : Shared} {l b : Addr} {xs ys zs : List V}

/-! ### the two steps: a tracked list is rewritten, a new list is laid -/
theorem Inv.lset {its its' : List Value} {n : Nat} {f : Array Value → Array Value} {t' : Nat} (I : Inv X pins σ H s) (hH : H l = some (.lst xs))
    (e : s.heap.get? l = some { cls := .type "list", data := .seq its.toArray n }) (hf : f its.toArray = its'.toArray) (hv : Vals ys its') (hz : ys.length ≤ sizeLine) :
    Inv X pins σ (upd H l (.lst ys)) { s with heap := s.heap.update l (Obj.mapSeq f), toks := t' } := by
  have q := PySem.IsL.update e f
  rw [hf] at q
  refine I.write (x := l) (e := l) (by rw [hH]; exact trivial) (.inl rfl) (fun b' u hb hu => (Heap.get?_update_other s.heap (Obj.mapSeq f) (Ne.symm hb)).trans hu) ⟨_, q⟩ ?_
  exact ⟨hz, its', _, hv, q⟩
theorem Inv.lnew {its : List Value} {t' : Nat} (I : Inv X pins σ H s) (hv : Vals ys its) (hz : ys.length ≤ sizeLine) :
    Inv X pins σ (upd H s.heap.objs.size (.lst ys)) { s with heap := s.heap.push { cls := .type "list", data := .seq its.toArray }, toks := t' } :=
  I.laid (fun _ _ q => Heap.get?_push_of_some _ q) (Nat.le_refl _) ⟨hz, its, 0, hv, Heap.get?_push_size _ rfl⟩
theorem Inv.fresh (I : Inv X pins σ H s) : H s.heap.objs.size = none := I.hok.fresh (Nat.le_refl _)
theorem Inv.lstM (I : Inv X pins σ H s) (hH : H l = some (.lst xs)) : xs.length ≤ sizeLine ∧ ∃ (its : List Value) (n : Nat), Vals xs its ∧ xs.length = its.length ∧ s.heap.get? l = some { cls := .type "list", data := .seq its.toArray n } := by
  obtain ⟨z, its, n, r, e⟩ := I.hok l _ hH
  exact ⟨z, its, n, r, r.length, e⟩

theorem notLongL {n : Nat} (h : n ≤ sizeLine) : Builtin.List.listTooLong n = false := by
  unfold Builtin.List.listTooLong
  exact decide_eq_false (by omega)
end

section
variable {X : Cx}

/-! ### methods -/
def rAppend : V → List V → Hp → VK → Prop := fun x vs H Q => ∃ l xs y, x = .ref l ∧ vs = [y] ∧ H l = some (.lst xs) ∧ xs.length < sizeLine ∧ Q .non (upd H l (.lst (xs ++ [y])))
theorem mt_append : MtM X "list.append" rAppend := by
  intro pins s σ H x vs v us Q I rx rv h
  obtain ⟨l, xs, y, rfl, rfl, hH, hz, q⟩ := h
  cases rx
  obtain ⟨u, rfl, ru⟩ := rv.one
  obtain ⟨z, its, n, r, hl, e⟩ := I.lstM hH
  refine call_meets F.slot_list_append ⟨_, e, rfl⟩ F.entry_list_append (F.args_list_append_2 _ _) (PySem.list_append l its.toArray n u (by rw [List.size_toArray]; omega)) ⟨e, ?_⟩
  refine ⟨.non, _, I.lset (its' := its ++ [u]) hH e (by simp) (r.append (.cons ru .nil)) ?_, rfl, q⟩
  rw [List.length_append, List.length_singleton]
  omega






/-! ### list + list, list += list, list * int -/

/-! ### del xs[i] -/
end

/-! ### xs[a:b] = ys -/
section
variable {prog : Program} {w : World} {A : Around} {E : Value → Shared → Prop} {s : Shared}
theorem bounds_run {a c n : Nat} (hac : a ≤ c) (hc : c ≤ n) : sliceBounds (some (a : Int)) (some (c : Int)) none n = ((a : Int), (c : Int), 1) := by
  simp only [sliceBounds, Option.getD_none]
  have h1 : ¬ ((a : Int) < 0) := by omega
  have h2 : ¬ ((c : Int) < 0) := by omega
  simp only [h1, h2, if_false, show (1 : Int) > 0 by decide, if_true]
  congr 1
  · omega
  · congr 1; omega
set_option maxRecDepth 100000 in
/-- list.__setitem__ with a slice of step one and another list -/
theorem setItem_slice {l b sl : Addr} {items new : Array Value} {n n2 : Nat} {vl vu : Value} {a c : Nat} {Q : Unit → Shared → Prop}
    (e : s.heap.get? l = some { cls := .type "list", data := .seq items n }) (e2 : s.heap.get? b = some { cls := .type "list", data := .seq new n2 }) (hne : l ≠ b)
    (hs : s.heap.IsSliceOf sl vl vu .none) (pl : IsPart vl (some (a : Int))) (pu : IsPart vu (some (c : Int))) (hac : a ≤ c) (hc : c ≤ items.size)
    (hsz : items.size + new.size ≤ sizeLine) (h : Q () { s with heap := s.heap.update l (Obj.mapSeq fun xs => xs.extract 0 a ++ new ++ xs.extract c xs.size) }) :
    wpAny (model prog w) A (setItem (.ref l) (.ref sl) (.ref b)) Q E s := by
  have hl : s.heap.IsList l items := PySem.IsL.isList e
  have hb : s.heap.IsList b new := PySem.IsL.isList e2
  obtain ⟨os, hos, hcs, hds⟩ := id hs
  have hTs : s.TypeIs (.ref sl) "slice" := ⟨os, hos, hcs⟩
  have hstep : ¬ ((rawPart none == rawInt 0) = true) := Bool.false_ne_true
  have hsame : Builtin.List.listSameRef (.ref l) (.ref b) = false := by
    unfold Builtin.List.listSameRef
    exact beq_eq_false_iff_ne.mpr hne
  have hmax : (max (a : Int) (c : Int)).toNat = c := by omega
  have hz' : ((fun xs : Array Value => xs.extract 0 a ++ new ++ xs.extract c xs.size) items).size ≤ sizeLine + 1 := by
    simp only [Array.size_append, Array.size_extract]
    omega
  unfold setItem
  try with_reducible refine wpAny_holding ?_
  first | refine wpAny_bind (wpAny_pure ?_) | skip
  refine wpAny_bind (wpAny_sequenceKey hl.typeIs (by decide) ?_)
  refine wpAny_bind (wpAny_callSpecial?_slot (name := Str.ofString "__setitem__") hl.typeIs slot_list_setitem
    (wpAny_call_entry slot_list_setitem hl.typeIs entry_list_setitem ?_ (args_list_setitem _ _ _)))
  show wpAny _ _ (Builtin.List.listSubscript? (.ref sl) >>= _) _ _ s
  refine wpAny_bind ?_
  unfold Builtin.List.listSubscript?
  refine wpAny_bind (wpAny_specialOf hTs slice_no_index ?_)
  simp only [Option.isNone_none, if_true]
  refine wpAny_pure ?_
  show wpAny _ _ (typeOf (.ref sl) >>= _) _ _ s
  refine wpAny_bind (wpAny_typeOf hTs ?_)
  first
    | rw [if_neg (by decide)]
    | refine PySem.W.KFB.if_not (by decide) ?_
  rw [listSliceParts_eq]
  refine wpAny_bind (wpAny_bind (wpAny_field hos hds (x := .none) rfl (wpAny_bind (wpAny_listPart .none ?_))))
  rw [if_neg hstep]
  refine wpAny_bind (wpAny_field hos hds (x := vl) rfl (wpAny_bind (wpAny_listPart pl ?_)))
  refine wpAny_bind (wpAny_field hos hds (x := vu) rfl (wpAny_bind (wpAny_listPart pu (wpAny_pure ?_))))
  first
    | simp only [hsame, Bool.false_eq_true, if_false]
    | refine PySem.W.KFB.if_not hsame ?_
    | (dsimp only
       rw [if_neg (by rw [hsame]; exact Bool.false_ne_true)])
  refine wpAny_bind (m := Builtin.List.listAllItems (.ref b) "must assign iterable to extended slice") ?_
  unfold Builtin.List.listAllItems
  refine wpAny_bind (wpAny_typeOf hb.typeIs ?_)
  first
    | refine PySem.W.KFB.if_so (by decide) ?_
    | rw [if_pos (by decide)]
    | simp only [beq_self_eq_true, Bool.true_or, if_true]
  unfold Builtin.List.listItems
  refine wpAny_bind (wpAny_seqItems e2 rfl (wpAny_pure ?_))
  refine wpAny_bind (wpAny_bind (wpAny_seqItems e rfl (wpAny_pure ?_)))
  refine wpAny_bind (wpAny_of_eq ((sliceIndices_raw (some (a : Int)) (some (c : Int)) none items.size (by simp)).trans (congrArg (pure : Int × Int × Int → Sem (Int × Int × Int)) (bounds_run hac hc))) ?_)
  show wpAny _ _ (if ((1 : Int) == 1) = true then _ else _) _ _ s
  rw [if_pos (by decide)]
  refine wpAny_bind (wpAny_rule ?_)
  first
    | simp only [notLongL hsz, Bool.false_eq_true, if_false]
    | refine PySem.W.KFB.if_not (notLongL hsz) ?_
  first | refine wpAny_bind (wpAny_pure ?_) | skip
  show wpAny _ _ (updateSeq l (fun xs => xs.extract 0 ((a : Int)).toNat ++ new ++ xs.extract (max (a : Int) (c : Int)).toNat xs.size) >>= _) _ _ s
  rw [hmax, Int.toNat_natCast]
  refine wpAny_bind (wpAny_updateSeq (hz := Nat.le_trans (Nat.le_add_right _ _) hsz) (_hz' := hz') e rfl ?_)
  refine wpAny_bind (wpAny_letGo ?_)
  first
    | exact wpAny_bind (wpAny_pure (wpAny_pure ⟨.none, rfl, wpAny_pure h⟩))
    | exact wpAny_pure ⟨.none, rfl, wpAny_pure h⟩
end

section
variable {X : Cx}
end
end L2

namespace L2
open PySem PySem.Spec PyProof.Rows

/-! ### lists of pairs as tables -/
section
variable {κ : Type} [DecidableEq κ]
def valV (kvs : List (κ × V)) (k : κ) : Option V := (kvs.find? fun kv => decide (kv.1 = k)).map (·.2)
def dropK (kvs : List (κ × V)) (k : κ) : List (κ × V) := kvs.filter fun kv => decide (kv.1 ≠ k)

theorem valV_pos {p : κ × V} {r : List (κ × V)} {k : κ} (e : p.1 = k) : valV (p :: r) k = some p.2 := by simp [valV, List.find?_cons, e]
theorem valV_neg {p : κ × V} {r : List (κ × V)} {k : κ} (e : ¬ p.1 = k) : valV (p :: r) k = valV r k := by simp [valV, List.find?_cons, e]

theorem RelO.getD {o : Option V} {u : Option Value} {d : V} {d' : Value} (r : RelO o u) (rd : RelV d d') : RelV (o.getD d) (u.getD d') := by
  cases o with
  | none => cases u with
    | none => exact rd
    | some _ => exact (show False from r).elim
  | some _ => cases u with
    | none => exact (show False from r).elim
    | some _ => exact r

/-- raw tables of the same keys -/
theorem KV.val {kvs : List (κ × V)} {vs : List (κ × Value)} (r : KV kvs vs) (k : κ) : RelO (valV kvs k) (valueAt vs k) := by
  unfold KV at r
  induction r with
  | nil => exact True.intro
  | @cons p q ps qs h t ih =>
    obtain ⟨h1, h2⟩ := h
    by_cases e : p.1 = k
    · have e' : q.1 = k := h1.symm.trans e
      have b : valueAt (q :: qs) k = some q.2 := by simp [valueAt, List.find?_cons, e']
      rw [valV_pos e, b]; exact h2
    · have e' : ¬ q.1 = k := fun z => e (h1.trans z)
      have b : valueAt (q :: qs) k = valueAt qs k := by simp [valueAt, List.find?_cons, e']
      rw [valV_neg e, b]; exact ih
theorem KV.any {kvs : List (κ × V)} {vs : List (κ × Value)} (r : KV kvs vs) (k : κ) : (kvs.any fun kv => decide (kv.1 = k)) = vs.any fun kv => decide (kv.1 = k) := by
  unfold KV at r
  induction r with
  | nil => rfl
  | cons h t ih => rw [List.any_cons, List.any_cons, ih, h.1]
theorem KV.drop {kvs : List (κ × V)} {vs : List (κ × Value)} (r : KV kvs vs) (k : κ) : KV (dropK kvs k) (without vs k) := by
  unfold KV at r ⊢
  unfold dropK without
  induction r with
  | nil => exact .nil
  | @cons p q ps qs h t ih =>
    obtain ⟨h1, h2⟩ := h
    rw [List.filter_cons, List.filter_cons]
    by_cases e : p.1 = k
    · have a : ¬ decide (p.1 ≠ k) = true := by simp [e]
      have b : ¬ decide (q.1 ≠ k) = true := by simp [h1.symm.trans e]
      rw [if_neg a, if_neg b]; exact ih
    · have e' : ¬ q.1 = k := fun z => e (h1.trans z)
      have a : decide (p.1 ≠ k) = true := by simp [e]
      have b : decide (q.1 ≠ k) = true := by simp [e']
      rw [if_pos a, if_pos b]; exact .cons ⟨h1, h2⟩ ih
theorem KV.keys {kvs : List (κ × V)} {vs : List (κ × Value)} (r : KV kvs vs) : kvs.map (·.1) = vs.map (·.1) := by
  unfold KV at r
  induction r with
  | nil => rfl
  | cons h t ih => rw [List.map_cons, List.map_cons, ih, h.1]
theorem KV.length {kvs : List (κ × V)} {vs : List (κ × Value)} (r : KV kvs vs) : kvs.length = vs.length := Paired.length r
end


/-! ### a tracked dict, its keys ints and texts or tuples of these -/

abbrev KT : List (List Key × Addr × V) → List (List Key × Addr × Value) → Prop := Paired fun p q => p.1 = q.1 ∧ p.2.1 = q.2.1 ∧ RelV p.2.2 q.2.2
def atT (kvs : List (List Key × Addr × V)) (k : List Key) : Option V := (kvs.find? fun kv => decide (kv.1 = k)).map (·.2.2)
theorem KT.val {kvs : List (List Key × Addr × V)} {xs : List (List Key × Addr × Value)} (r : KT kvs xs) (k : List Key) : RelO (atT kvs k) ((atKey xs k).map (·.2)) := by
  induction r with
  | nil => exact True.intro
  | @cons p q ps qs h t ih =>
    obtain ⟨h1, _, h2⟩ := h
    by_cases e : p.1 = k
    · have e' : q.1 = k := h1.symm.trans e
      have b : atKey (q :: qs) k = some q.2 := by simp [atKey, List.find?_cons, e']
      have b2 : atT (p :: ps) k = some p.2.2 := by simp [atT, List.find?_cons, e]
      rw [b2, b]; exact h2
    · have e' : ¬ q.1 = k := fun z => e (h1.trans z)
      have b : atKey (q :: qs) k = atKey qs k := by simp [atKey, List.find?_cons, e']
      have b2 : atT (p :: ps) k = atT ps k := by simp [atT, List.find?_cons, e]
      rw [b2, b]; exact ih
section
variable {P : Program} {w : World} {H : Hp} {h : Heap} {a : Addr}
end
section
variable {X : Cx} {pins : List (Addr × Obj)} {σ : St} {H : Hp} {s : Shared} {a : Addr}

end

/-- what the dict at a holds at the key y -/
def DGet (K : PySem.W.Frag) (H : Hp) (a : Addr) (y : V) (r : Option V) : Prop :=
  (∃ kvs k, Rd H a (.dK kvs) ∧ y = kV k ∧ r = valV kvs k) ∨ ∃ kvs k b, Rd H a (.dT kvs) ∧ (∀ x ∈ kvs, SqT K H x.2.1 (x.1.map kV)) ∧ y = .ref b ∧ SqT K H b (k.map kV) ∧ r = atT kvs k
section
variable {X : Cx} {pins : List (Addr × Obj)} {σ : St} {H : Hp} {s : Shared} {a : Addr} {y v : V} {u r : Value} {o : Option V} {A : Around} {E : Value → Shared → Prop}


end

section
variable {X : Cx} {pins : List (Addr × Obj)} {σ : St} {H : Hp} {s : Shared} {a : Addr} {kvs : List (Key × V)} {k : Key} {u : Value} {A : Around} {E : Value → Shared → Prop}
end


/-! ### readings and rules -/



section
variable {X : Cx} {o i e value : Expr} {pos pos' tpos : Pos} {td ty tv : TE}
end


/-! ### displays -/
section
variable {X : Cx} {pos : Pos}
end




/-! ### methods -/
/-- a method call o.m(e) of a built-in, with one argument: what must be seen of the text -/
structure M1 (X : Cx) (o : Expr) (m : Str) (apos : Pos) (e : Expr) (cpos : Pos) : Prop where
  base : attributeBase o m X.env (eval o X.env) = eval o X.env
  few : ((backTo cpos (starEach [e] X.env)).all (fun x => !x.1) && (backToKw cpos (keywordEach [] X.env)).all (fun x => x.1.isSome)
    && decide (([e] : List Expr).length + ([] : List Keyword).length + (if ([] : List Keyword).isEmpty then 0 else 1) < 30)) = true
  line : (apos.endLine == cpos.line) = true
  trees : backTo cpos (starEach [e] X.env) = [(false, eval e X.env)]
structure M2 (X : Cx) (o : Expr) (m : Str) (apos : Pos) (e f : Expr) (cpos : Pos) : Prop where
  base : attributeBase o m X.env (eval o X.env) = eval o X.env
  few : ((backTo cpos (starEach [e, f] X.env)).all (fun x => !x.1) && (backToKw cpos (keywordEach [] X.env)).all (fun x => x.1.isSome)
    && decide (([e, f] : List Expr).length + ([] : List Keyword).length + (if ([] : List Keyword).isEmpty then 0 else 1) < 30)) = true
  line : (apos.endLine == cpos.line) = true
  trees : backTo cpos (starEach [e, f] X.env) = [(false, eval e X.env), (false, eval f X.env)]


section
variable {X : Cx} {pins : List (Addr × Obj)} {σ : St} {H : Hp} {s : Shared} {a : Addr} {y d : V} {u r : Value} {o : Option V} {A : Around} {E : Value → Shared → Prop}
end

section
variable {X : Cx} {o e f : Expr} {apos cpos : Pos} {td ty tx : TE}
end

/-! ### dict(d): a copy -/
section
variable {X : Cx} {pins : List (Addr × Obj)} {σ : St} {H : Hp} {s : Shared} {a : Addr} {kvs : List (Key × V)} {A : Around} {E : Value → Shared → Prop}
end


section
variable {X : Cx} {pins : List (Addr × Obj)} {σ : St} {H : Hp} {s : Shared} {a : Addr} {y : V} {u : Value} {A : Around} {E : Value → Shared → Prop}
end
end L2

namespace Att
open PySem PySem.W PySem.Calls PyProof.Rows

/-! ### the script -/
theorem ints_of_wellAll {P : Params} {h : Heap} : ∀ (ns : List Int) (vs : List Value), WellAll P h vs (ns.map WData.int) → IntsAre vs ns := by
  intro ns
  induction ns with
  | nil =>
    intro vs w
    rw [List.map_nil] at w
    cases w
    exact .nil
  | cons n ns ih =>
    intro vs w
    rw [List.map_cons] at w
    cases w with
    | cons a b =>
      cases a
      exact .cons _ _ (ih _ b)

theorem script_of {l : OpenLaw} {n : Nat} (hn : l.most = some n) {P : Params} {h : Heap} {args : List WData} {vals : List Value}
    (hpre : l.row.toRowW.claim.pre args = true) (hwl : WellAll P h vals args) :
    ∃ a vs ns, vals = [Value.ref a] ∧ args = [WData.list (ns.map WData.int)] ∧ h.get? a = some { cls := .type "list", data := .seq vs.toArray } ∧ IntsAre vs ns ∧ ns.length ≤ n := by
  have hsh : WShape.hasAll [] args [.list .int] = true := (pre_splitW hpre).1
  have hc : l.pre.holds [] { args := args } = true := (pre_splitW hpre).2
  obtain ⟨d, r, rfl, h1, h2⟩ := hasAllW_cons hsh
  obtain rfl := hasAllW_nil h2
  obtain ⟨xs, rfl, h3⟩ := hasW_list h1
  obtain ⟨ns, rfl⟩ := items_int h3
  have hlen : ns.length ≤ n := by
    unfold OpenLaw.pre at hc
    have h4 : (WTm.not (.lt (.lit (.int (n : Int))) (.len (.arg 0)))).holds [] { args := [.list (ns.map .int)] } = true := by
      have h4 := (holds_andW hc).1
      rw [hn] at h4
      exact h4
    have h5 := condW_of h4 (w_not (w_lt w_lit (w_len_list (w_arg rfl))))
    rw [List.length_map] at h5
    refine Nat.le_of_not_lt fun q => ?_
    have q' : (n : Int) < ((ns.length : Nat) : Int) := by omega
    first
      | (rw [decide_eq_true q'] at h5; exact absurd h5 (by decide))
      | (simp at h5; omega)
  cases hwl with
  | cons w1 w2 =>
    cases w2
    cases w1 with
    | list ho hall => exact ⟨_, _, ns, rfl, rfl, ho, ints_of_wellAll ns _ hall, hlen⟩

theorem post_true (l : OpenLaw) (args : List WData) : l.row.toRowW.claim.post args (.bool true) args = true :=
  postW_of (r := l.row.toRowW) (X := (true == true))
    (show WShape.has [] (.bool true) .bool = true by first | rfl | decide | simp [WShape.has, WShape.arms, WShape.armsAll])
    (show (WTm.eq .res (.lit (.bool true))).value [] { args := args, res := some (.bool true), after := args } = some (.bool (true == true)) from w_eq_bool (w_res rfl) w_lit) rfl

/-! ### the attachment: holds_open's last premise (the goal 'hc' behind k_head) from a wpAny of the law's body -/

/-- the same from a codeAny of the CALL (for a layer whose function contracts speak of calls) -/
theorem attach_call {l : OpenLaw} {n : Nat} {q : Program} {loose : List Str} {XP : (Str → Option Value) → Heap → Prop} {YP : World → Heap → Prop} {d : DefRec}
    (hn : l.most = some n) (hdf : d.params.defaults = [])
    (call : ∀ (w : World) (s₀ s₁ : Shared) (mg mb : Str → Option Value) (fa : Addr) (o : Obj) (pm cd doc : Value) (a : Addr) (vs : List Value) (ns : List Int),
      Ground q loose [] XP w s₀ mg mb s₁.heap → YP w s₁.heap →
      s₁.heap.get? fa = some o → o.data = .func (docDef d.name d.params d.body d.scope pm cd doc) → s₁.heap.CodeRec cd d.name → mg d.name = some (.ref fa) →
      s₁.heap.get? a = some { cls := .type "list", data := .seq vs.toArray } → IntsAre vs ns → ns.length ≤ n → s₁.gens = #[] →
      codeAny (model l.prog w) callerA (.call (.ref fa) ⟨[.ref a], []⟩) (fun r s' => r = .ok (.ret (.bool true)) ∧ OldK s₁.heap s'.heap ∧ s'.os = s₁.os ∧ AllBare s'.gens) s₁) :
    WalkO q loose XP YP l.row.toRowW d [] (fun f vs => PySem.call f vs) := by
  intro w s₀ s₁ mg mb G Y fa o pm cd doc dV kV ho hd hcd hD hmg hg args vals as hpre hlay hrd hwl hlo
  obtain rfl : dV = .none := Dflts.none hD hdf
  obtain rfl : kV = .none := Dflts.noKw hD
  obtain ⟨a, vs, ns, rfl, rfl, hobj, hints, hlen⟩ := script_of hn hpre hwl
  refine enter_call (codeAny_mono (call w s₀ s₁ mg mb fa o pm cd doc a vs ns G Y ho (fd_plain hd) hcd hmg hobj hints hlen hg) fun r s' hq => ?_)
  obtain ⟨rfl, h2, h3, h4⟩ := hq
  exact ⟨.inl ⟨.bool true, .bool true, [], rfl, fun _ => rfl, .bool true, post_true l _, fun _ => ⟨List.Pairwise.nil, fun _ hm => (nomatch hm)⟩⟩, h2, h3, h4⟩


/-! ### rules over ANY heap (no ledger) from facts about the written part K: the library's own take a ledger (News) for what they write -/
section
variable {prog : Program} {w : World} {A : Around} {E : Value → Shared → Prop} {s : Shared} {K : Frag}





/-! the whole heap as the ledger: makes every rule that writes through a ledger a rule over any heap -/
def ledger (h : Heap) (L d : Addr) : List (Addr × Obj) := (List.range h.objs.size).filterMap fun a => if a = L ∨ a = d then none else (h.get? a).map fun o => (a, o)

end
end Att

namespace L2
open PySem PySem.Spec PyProof.Rows

theorem vals_ints : ∀ {vs : List Value} {ns : List Int}, IntsAre vs ns → Vals (ns.map V.int) vs
  | _, _, .nil => .nil
  | _, _, .cons n t h => .cons ⟨t, rfl⟩ (vals_ints h)

/-- nothing is tracked but the script, known to the object (or it is an object of the module) -/
def Only (H : Hp) : Prop := ∀ b, H b = none ∨ ∃ o xs, H b = some (.frz o (.lst xs))

/-- THE HEAD: the law's promise, at the heap behind the top. F, the promise of the law's def, may use that base is part of the heap (so K.In base, base.Ns mainGlobals mg stand in Mod) -/
theorem law_call {P : Program} {w : World} {K : PySem.W.Frag} {mg mb : Str → Option Value} {CX : CXT} {k : Nat} {fa a : Addr} {fd : FuncData} {x : Str} {sp : Sp} {s₁ : Shared} {vs : List Value} {ns : List Int}
    (KX : K.In s₁.heap) (hns : s₁.heap.Ns mainGlobals mg) (hb : s₁.heap.Ns builtinsNs mb) (hbb : ∀ x : Str, x ≠ "__name__" → mb x = bootBuiltins x) (hlim : s₁.heap.NoLimit) (hg : s₁.gens = #[])
    (ha : s₁.heap.get? a = some { cls := .type "list", data := .seq vs.toArray }) (hi : IntsAre vs ns) (hl : ns.length ≤ sizeLine) (hr : Room k callerA)
    (F : ∀ base : Heap, K.In base → base.Ns mainGlobals mg → FnOk P w K mg base CX k fa fd [x] sp) (hbind : ∀ (s : Shared) (u : Value), BindsTo s fd ⟨[u], []⟩ [(x, u)])
    (hsp : ∀ H : Hp, Only H → SqL K H a (ns.map V.int) → sp [.ref a] H (fun v _ => v = .bl true) fun _ _ _ => False)
    (hCX : ∀ H e s', CX [] H s₁ (fun _ _ _ => False) e s' → False) :
    codeAny (model P w) callerA (.call (.ref fa) ⟨[.ref a], []⟩) (fun r s' => r = .ok (.ret (.bool true)) ∧ OldK s₁.heap s'.heap ∧ s'.os = s₁.os ∧ AllBare s'.gens) s₁ := by
  have rv := vals_ints hi
  have lenV := hi.length
  -- from an abstract heap in which nothing but the script may be tracked
  have core : ∀ H : Hp, Only H → SqL K H a (ns.map V.int) → HOk P w H s₁.heap → (∀ b, H b ≠ none → b = a) → (H a ≠ none → K.lookup a = none) →
      codeAny (model P w) callerA (.call (.ref fa) ⟨[.ref a], []⟩) (fun r s' => r = .ok (.ret (.bool true)) ∧ OldK s₁.heap s'.heap ∧ s'.os = s₁.os ∧ AllBare s'.gens) s₁ := by
    intro H hO hS hok hA hK
    have base_of : ∀ {b : Addr} {o : Obj}, s₁.heap.get? b = some o → H b = none → (hidT s₁.heap H).get? b = some o := fun e n => hidT_get e n
    have noA : ∀ {b : Addr} {o : Obj} {es : Array DictEntry} {ep : Nat}, s₁.heap.get? b = some o → o.data = .dict es ep → H b = none := fun {b o es ep} e d => by
      cases q : H b with
      | none => rfl
      | some u =>
        have e' : b = a := hA b (by rw [q]; simp)
        subst e'
        rw [ha] at e; cases e
        have d' : Data.seq vs.toArray _ = Data.dict es ep := d
        cases d'
    have nsK : ∀ {b : Addr} {m : Str → Option Value}, s₁.heap.Ns b m → (hidT s₁.heap H).Ns b m := fun {b m} ⟨o, es, ep, e, d, r⟩ => ⟨o, es, ep, base_of e (noA e d), d, r⟩
    have hKb : K.In (hidT s₁.heap H) := fun b o e => base_of (KX b o e) (by
      cases q : H b with
      | none => rfl
      | some u =>
        have e' : b = a := hA b (by rw [q]; simp)
        subst e'
        rw [hK (by rw [q]; simp)] at e; cases e)
    have hM : Mod K mg (hidT s₁.heap H) := ⟨hKb, nsK hns, ⟨mb, nsK hb, hbb⟩, let ⟨mc, h1, h2⟩ := hlim; ⟨mc, nsK h1, h2⟩⟩
    have e0 : Env0 P w K mg (hidT s₁.heap H) callerA [] s₁ H := ⟨rfl, hM, fun b o e => of_hidT e, Nat.le_of_eq (hidT_size _ _), trivial, fun b hb => absurd (show b ∈ ([] : List Addr) from hb) (by simp), hok, .of_eq hg⟩
    refine codeAny_mono ((F _ hKb (nsK hns)).run callerA [] s₁ H ⟨[.ref a], []⟩ [.ref a] [.ref a] _ _ hr e0 (hbind s₁ (.ref a)) (.cons rfl .nil) (hsp H hO hS)) fun r s' h => ?_
    cases r with
    | error e => exact (hCX H e s' h).elim
    | ok fl =>
      cases fl with
      | next => exact False.elim h
      | brk => exact False.elim h
      | cont => exact False.elim h
      | ret u =>
        obtain ⟨v, H', os, bare, un, hok', r', q⟩ := h
        have q' : v = .bl true := q
        subst q'
        obtain rfl : u = Value.bool true := r'
        refine ⟨rfl, OldK.of_keep fun b o e => ?_, os, bare⟩
        cases q : H b with
        | none => exact un.keep b o e q (by intro z; exact absurd (show b ∈ ([] : List Addr) from z) (by simp)) (by simp)
        | some u =>
          rcases hO b with z | ⟨ob, xs, z⟩
          · rw [q] at z; cases z
          · have z2 := un.frzs b ob _ z
            obtain ⟨e1, _⟩ := hok b _ z
            obtain ⟨e2, _⟩ := hok' b _ z2
            rw [e] at e1; cases e1
            exact e2
  cases hk : K.lookup a with
  | some o =>
    -- the script is one of the module's own objects
    have e := KX a o hk
    rw [ha] at e
    cases e
    refine core (fun _ => none) (fun _ => .inl rfl) (.inr ⟨_, vs.toArray, _, hk, rfl, rfl, rfl, by rw [List.size_toArray, lenV]; exact hl, by simpa using rv⟩) (fun b u z => by have z' : (none : Option HO) = some u := z; cases z') (fun b z => absurd rfl z) fun z => absurd rfl z
  | none =>
    refine core (fun b => if b = a then some (.frz { cls := .type "list", data := .seq vs.toArray } (.lst (ns.map V.int))) else none) (fun b => ?_) (.inl (.inr ⟨{ cls := .type "list", data := .seq vs.toArray }, if_pos rfl⟩)) (fun b u z => ?_) (fun b z => ?_) fun _ => hk
    · by_cases hb : b = a
      · exact .inr ⟨_, _, if_pos hb⟩
      · exact .inl (if_neg hb)
    · by_cases hb : b = a
      · have z' := (if_pos hb).symm.trans z
        cases z'
        subst hb
        exact ⟨ha, by rw [List.length_map]; exact hl, vs, _, rv, ha⟩
      · have z' := (if_neg hb).symm.trans z
        cases z'
    · by_cases hb : b = a
      · exact hb
      · exact absurd (if_neg hb) z
end L2

namespace L2
open PySem PySem.Spec PyProof.Rows

abbrev KOf {K : PySem.W.Frag} {h : Heap} (_ : K.In h) : PySem.W.Frag := K

/-- the goal that k_head leaves (case hc), from the law's promise. F gives the function object fd (K's own) once, then the promise over every base -/
theorem walk_of {l : PySem.W.OpenLaw} {n k : Nat} {q : Program} {loose : List Str} {XP : (Str → Option Value) → Heap → Prop} {YP : World → Heap → Prop} {d : DefRec} {K : Params → PySem.W.Frag} {CX : World → CXT} {sp : World → Sp} {x : Str}
    (hn : l.most = some n) (hn2 : n ≤ sizeLine) (hdf : d.params.defaults = []) (hr : Room k callerA)
    (hY : ∀ (w : World) (h : Heap), YP w h → (K w.params).In h)
    (F : ∀ (w : World) (mg : Str → Option Value) (fa : Addr) (h : Heap), (K w.params).In h → h.Ns mainGlobals mg → mg d.name = some (.ref fa) →
      ∃ fd : FuncData, (∀ (s : Shared) (u : Value), BindsTo s fd ⟨[u], []⟩ [(x, u)]) ∧
        ∀ base : Heap, (K w.params).In base → base.Ns mainGlobals mg → FnOk l.prog w (K w.params) mg base (CX w) k fa fd [x] (sp w))
    (hsp : ∀ (w : World) (H : Hp) (a : Addr) (ns : List Int), ns.length ≤ n → Only H → SqL (K w.params) H a (ns.map V.int) → sp w [.ref a] H (fun v _ => v = .bl true) fun _ _ _ => False)
    (hCX : ∀ (w : World) (H : Hp) (s : Shared) (e : Value) (s' : Shared), CX w [] H s (fun _ _ _ => False) e s' → False) :
    PySem.W.WalkO q loose XP YP l.row.toRowW d [] (fun f vs => PySem.call f vs) := by
  refine Att.attach_call hn hdf fun w s₀ s₁ mg mb fa o pm cd doc a vs ns G Y ho hd hcd hmg hobj hints hlen hg => ?_
  have KX := hY w _ Y
  obtain ⟨fd, hb, hF⟩ := F w mg fa _ KX G.T.g hmg
  exact law_call KX G.T.g G.T.b G.T.builtins G.T.nolimit hg hobj hints (Nat.le_trans hlen hn2) hr hF hb (fun H hO hS => hsp w H a ns hlen hO hS) fun H e s' => hCX w H s₁ e s'
end L2

/- THE LAST THEOREM (shape; LID, My.* are yours):
   My.Adr: a structure of the addresses that your layer names (classes, functions); My.Txt K t: a structure (Prop) of the equations over K;
   My.txt_mk : {K} {implicit addresses ..} (e1 : nsIn K mainGlobals "law" = some (some (.ref f))) (e2 : K.lookup f = some ⟨oc, od, .func (fnOf "law" "law" params body scope dV kV doc pm an cdv ct), sl⟩) (e3 : codeIn K cdv "law" = true) .. : ∃ t, My.Txt K t

set_option maxRecDepth 100000 in
set_option maxHeartbeats 0 in
theorem PySem.Challenge.cw_LID_holds : PySem.Challenge.rw_LID.Holds := by
  w_on; o_law; k_head; (case hw => w_witness2)
  k_fill
  refine L2.walk_of (l := PySem.Challenge.rw_LID) (n := 63) (k := 40) (x := "script") (CX := fun w => ..) (sp := fun _ => My.sp_law) rfl (by decide) rfl ⟨rfl, by decide, by decide⟩ (fun w h Y => PySem.W.kIn_of Y) ?F ?S ?C
  case F =>
    intro w mg fa h KX G hmg
    have T : ∃ t, My.Txt (L2.KOf KX) t := by
      dsimp only [L2.KOf]                          -- K must stand as «<heap const> w.params» for k_is
      refine' My.txt_mk ?e1 ?e2 ?e3 ..
      (case e1 => PySem.W.k_is)                    -- in the order: a name -> its address -> its object -> its parts
      (case e2 => PySem.W.k_is)
      ..
    obtain ⟨t, T⟩ := T
    have e0 := hmg.symm.trans (PySem.W.mg_of KX G T.law)
    cases e0                                       -- fa is the law's own address
    exact ⟨_, fun s u => .of_eq rfl, fun base kb nb => My.law_fn T kb nb⟩     -- if «.of_eq rfl» comes too early: refine' ⟨_, ?b, fun base kb nb => My.law_fn T kb nb⟩; exact fun s u => .of_eq rfl
  case S => exact fun w H a ns hl hO hS => ..
  case C => exact ..
(the tactic k_is has no namespace: write k_is) -/

/-! SHORT WORDS over the layer: a def of the text, its body, what a loop and a test want. -/
namespace L2
open PySem PySem.Spec PyProof.Rows

/-! ### the text by places -/
def defArgs (s : Stmt) : Arguments := match s with
  | .FunctionDef _ a _ _ _ _ _ _ _ _ => a
  | _ => { posonlyargs := [], args := [], vararg := none, kwonlyargs := [], kw_defaults := [], kwarg := none, defaults := [] }
def defBody (s : Stmt) : List Stmt := match s with
  | .FunctionDef _ _ b _ _ _ _ _ _ _ => b
  | _ => []
def defScope (s : Stmt) : Scope := match s with
  | .FunctionDef _ _ _ _ _ _ sc _ _ _ => sc
  | _ => { kind := .function, names := [], isGenerator := false, isCoroutine := false }

/-! ### no exception leaves a def -/
abbrev CX0 : CXT := fun _ _ _ _ _ _ => False

/-! ### a def (or method) of the text as it stands behind the top -/
structure Fun (K : PySem.W.Frag) (x qual : Str) (st : Stmt) (f : Addr) (fd : FuncData) : Prop where
  ex : ∃ (oc : Value) (od : Option Addr) (kV doc pm : Value) (an : Option Addr) (cdv ct : Value) (osl : Array (Option Value)),
    fd = PySem.W.fnOf x qual (defArgs st) (defBody st) (defScope st) .none kV doc pm an cdv ct ∧ K.lookup f = some ⟨oc, od, .func fd, osl⟩ ∧ PySem.W.codeIn K cdv qual = true
  kp : PySem.W.keepIn K (.ref f) = true
section
variable {P : Program} {w : World} {K : PySem.W.Frag} {mg : Str → Option Value} {base : Heap}
/-- THE RULE for a def: its body as a term of rules, and the reading of that term -/
theorem Fun.ok {x qual : Str} {st : Stmt} {f : Addr} {fd : FuncData} {N ps : List Str} {k : Nat} {sp : Sp} (F : Fun K x qual st f fd) (S : FnScope N ps (defScope st)) (len : ∀ vs H Q E, sp vs H Q E → vs.length = ps.length)
    (hbody : ∀ (cdv : Value) (A : Around) (outer : List Env) (s : Shared) (H : Hp) (vs : List V) (Q : VK) (E : XK), Room k (A.deeper (envOfC qual (defScope st) s.heap.objs.size f cdv)) → sp vs H Q E →
      ∃ t, PSs (cxOf CX0 P w K mg base N qual (defScope st) f cdv A outer s H E).nox (defBody st) t ∧ t { nx := fun _ H' => Q .non H', rt := Q } (start N vs) H) : FnOk P w K mg base CX0 (k + 1) f fd ps sp := by
  obtain ⟨oc, od, kV, doc, pm, an, cdv, ct, osl, rfl, lk, hcd⟩ := F.ex
  refine fn_of lk hcd S len fun A outer s H vs Q E hr hsp => ?_
  obtain ⟨t, h, q⟩ := hbody cdv A outer s H vs Q E hr hsp
  exact ⟨t, h.nox, q⟩
/-- how its arguments bind (no defaults): h is «fun _ _ _ _ _ _ us hl => match us, hl with | [_, _], _ => rfl», one _ a parameter -/
theorem Fun.binds {x qual : Str} {st : Stmt} {f : Addr} {fd : FuncData} {ps : List Str} (F : Fun K x qual st f fd)
    (h : ∀ (kV doc pm : Value) (an : Option Addr) (cdv ct : Value) (us : List Value), us.length = ps.length → bindArgs (PySem.W.fnOf x qual (defArgs st) (defBody st) (defScope st) .none kV doc pm an cdv ct) ⟨us, []⟩ = pure (ps.zip us)) : Binds K fd ps [] := by
  obtain ⟨oc, od, kV, doc, pm, an, cdv, ct, osl, rfl, lk, hcd⟩ := F.ex
  exact .all (h kV doc pm an cdv ct)
theorem fun_mk {x qual : Str} {st : Stmt} {f : Addr} {oc : Value} {od an : Option Addr} {osl : Array (Option Value)} {kV doc pm cdv ct : Value} (l : K.lookup f = some ⟨oc, od, .func (PySem.W.fnOf x qual (defArgs st) (defBody st) (defScope st) .none kV doc pm an cdv ct), osl⟩)
    (c : PySem.W.codeIn K cdv qual = true) (k : PySem.W.keepIn K (.ref f) = true) : Fun K x qual st f (PySem.W.fnOf x qual (defArgs st) (defBody st) (defScope st) .none kV doc pm an cdv ct) := ⟨⟨oc, od, kV, doc, pm, an, cdv, ct, osl, rfl, l, c⟩, k⟩
end
theorem hu_of {A : Around} {k : Nat} (hr : Room k A) : A.units + 1 < cLine := Nat.lt_of_le_of_lt (Nat.add_le_add_left (by decide : 1 ≤ 64) _) hr.units
theorem small1000 {n : Nat} (h : n ≤ 1000) : n < sizeLine := Nat.lt_of_le_of_lt h (by decide)

/-! ### expressions in short: the name that stands in the i-th slot -/
section
variable {X : Cx}
theorem pv (i : Nat) {x : Str} {pos : Pos} (hN : X.N[i]? = some x := by rfl) (hv : Vis X.env.scope x := by first | exact Or.inl rfl | exact Or.inr (Or.inl rfl) | exact Or.inr (Or.inr rfl)) (hd : (x == ("__debug__" : Str)) = false := by decide)
    (hcd : (x == ("__classdict__" : Str)) = false := by decide) : PE X (.Name x pos) (tVar i) := pe_var hN hv hd hcd
end

/-! ### tests -/

/-! ### heaps -/
/-- all that was tracked is as it was -/
def Same (H H' : Hp) : Prop := ∀ b o, H b = some o → H' b = some o
theorem Same.refl (H : Hp) : Same H H := fun _ _ h => h
theorem Same.trans {H H1 H2 : Hp} (a : Same H H1) (b : Same H1 H2) : Same H H2 := fun c o h => b c o (a c o h)
theorem Same.free {H H' : Hp} (e : Same H H') {l : Addr} (h : H' l = Option.none) : H l = Option.none := by
  cases q : H l with
  | none => rfl
  | some o =>
    rw [e l o q] at h
    cases h
theorem Same.seq {K : PySem.W.Frag} {H H' : Hp} {a : Addr} {xs : List V} (e : Same H H') (h : SqL K H a xs) : SqL K H' a xs := by
  rcases h with (h | ⟨o, h⟩) | h
  · exact .inl (.inl (e _ _ h))
  · exact .inl (.inr ⟨o, e _ _ h⟩)
  · exact .inr h

end L2

namespace L2
open PySem PySem.Spec PyProof.Rows
section
variable {X : Cx}
end
end L2
namespace L2
open PySem PySem.Spec PyProof.Rows
/-! ### a dict's pairs: keys that differ -/
section
variable {κ : Type} [DecidableEq κ]
end
end L2


set_option Elab.async false
set_option linter.all false
set_option maxRecDepth 100000
namespace EV
open PySem PySem.Spec PyProof.Rows L2

/-! ## data without a heap -/
inductive D where
  | non | bl (b : Bool) | int (i : Int) | str (x : Str) | tup (ds : List D) | lst (ds : List D) | exc (C : Addr)

/-- an exception of the class at C stands at a -/
def excP (a C : Addr) : Heap → Prop := fun h => ∃ o, h.get? a = some o ∧ o.cls = .ref C ∧ ∃ vs, o.data = .fields vs

mutual
def Rep (K : PySem.W.Frag) (H : Hp) : D → V → Prop
  | .non, v => v = .non
  | .bl b, v => v = .bl b
  | .int i, v => v = .int i
  | .str x, v => v = .str x
  | .tup ds, v => ∃ a xs, v = .ref a ∧ SqT K H a xs ∧ Reps K H ds xs
  | .lst ds, v => ∃ a xs, v = .ref a ∧ SqL K H a xs ∧ Reps K H ds xs
  | .exc C, v => ∃ a, v = .ref a ∧ H a = some (.ext (excP a C))
def Reps (K : PySem.W.Frag) (H : Hp) : List D → List V → Prop
  | [], xs => xs = []
  | d :: ds, xs => ∃ x r, xs = x :: r ∧ Rep K H d x ∧ Reps K H ds r
end

theorem same_tup {K : PySem.W.Frag} {H H' : Hp} {a : Addr} {xs : List V} (e : Same H H') (h : SqT K H a xs) : SqT K H' a xs := by
  rcases h with (h | ⟨o, h⟩) | h
  · exact .inl (.inl (e _ _ h))
  · exact .inl (.inr ⟨o, e _ _ h⟩)
  · exact .inr h

mutual
theorem Rep.mono {K : PySem.W.Frag} {H H' : Hp} (e : Same H H') : ∀ (d : D) {v : V}, Rep K H d v → Rep K H' d v
  | .non, _, h => by simpa [Rep] using h
  | .bl b, _, h => by simpa [Rep] using h
  | .int i, _, h => by simpa [Rep] using h
  | .str x, _, h => by simpa [Rep] using h
  | .tup ds, _, h => by
    simp only [Rep] at h ⊢
    obtain ⟨a, xs, e1, h1, h2⟩ := h
    exact ⟨a, xs, e1, same_tup e h1, Reps.mono e ds h2⟩
  | .lst ds, _, h => by
    simp only [Rep] at h ⊢
    obtain ⟨a, xs, e1, h1, h2⟩ := h
    exact ⟨a, xs, e1, e.seq h1, Reps.mono e ds h2⟩
  | .exc C, _, h => by
    simp only [Rep] at h ⊢
    obtain ⟨a, e1, h1⟩ := h
    exact ⟨a, e1, e _ _ h1⟩
theorem Reps.mono {K : PySem.W.Frag} {H H' : Hp} (e : Same H H') : ∀ (ds : List D) {xs : List V}, Reps K H ds xs → Reps K H' ds xs
  | [], _, h => by simpa [Reps] using h
  | d :: ds, _, h => by
    simp only [Reps] at h ⊢
    obtain ⟨x, r, e1, h1, h2⟩ := h
    exact ⟨x, r, e1, Rep.mono e d h1, Reps.mono e ds h2⟩
end

section
variable {K : PySem.W.Frag} {H : Hp} {v : V}
theorem rep_int {i : Int} : Rep K H (.int i) v ↔ v = .int i := by simp only [Rep]
theorem rep_bl {i : Bool} : Rep K H (.bl i) v ↔ v = .bl i := by simp only [Rep]
theorem rep_non : Rep K H .non v ↔ v = .non := by simp only [Rep]
theorem rep_str {i : Str} : Rep K H (.str i) v ↔ v = .str i := by simp only [Rep]
theorem rep_tup {ds : List D} : Rep K H (.tup ds) v ↔ ∃ a xs, v = .ref a ∧ SqT K H a xs ∧ Reps K H ds xs := by simp only [Rep]
theorem rep_lst {ds : List D} : Rep K H (.lst ds) v ↔ ∃ a xs, v = .ref a ∧ SqL K H a xs ∧ Reps K H ds xs := by simp only [Rep]
theorem rep_exc {C : Addr} : Rep K H (.exc C) v ↔ ∃ a, v = .ref a ∧ H a = some (.ext (excP a C)) := by simp only [Rep]
theorem reps_nil {xs : List V} : Reps K H [] xs ↔ xs = [] := by simp only [Reps]
theorem reps_cons {d : D} {ds : List D} {xs : List V} : Reps K H (d :: ds) xs ↔ ∃ x r, xs = x :: r ∧ Rep K H d x ∧ Reps K H ds r := by simp only [Reps]
theorem Reps.length : ∀ {ds : List D} {xs : List V}, Reps K H ds xs → ds.length = xs.length
  | [], _, h => by rw [reps_nil] at h; subst h; rfl
  | d :: ds, _, h => by
    rw [reps_cons] at h
    obtain ⟨x, r, rfl, _, h2⟩ := h
    simp [Reps.length h2]
theorem Reps.get : ∀ {ds : List D} {xs : List V} {i : Nat} {d : D}, Reps K H ds xs → ds[i]? = some d → ∃ x, xs[i]? = some x ∧ Rep K H d x
  | [], _, _, _, _, e => by simp at e
  | d :: ds, _, i, d', h, e => by
    rw [reps_cons] at h
    obtain ⟨x, r, rfl, h1, h2⟩ := h
    cases i with
    | zero => simp at e; subst e; exact ⟨x, by simp, h1⟩
    | succ i =>
      obtain ⟨y, e2, h3⟩ := Reps.get (i := i) (d := d') h2 (by simpa using e)
      exact ⟨y, by simpa using e2, h3⟩
theorem Reps.get' : ∀ {ds : List D} {xs : List V} {i : Nat} {x : V}, Reps K H ds xs → xs[i]? = some x → ∃ d, ds[i]? = some d ∧ Rep K H d x := fun {ds xs i x} h e => by
  have hl := h.length
  have hi : i < xs.length := (List.getElem?_eq_some_iff.mp e).1
  obtain ⟨y, e2, h2⟩ := h.get (i := i) (d := ds[i]'(by omega)) (by simp)
  rw [e] at e2; cases e2
  exact ⟨_, by simp, h2⟩
theorem Reps.append : ∀ {ds es : List D} {xs ys : List V}, Reps K H ds xs → Reps K H es ys → Reps K H (ds ++ es) (xs ++ ys)
  | [], _, _, _, h, g => by rw [reps_nil] at h; subst h; exact g
  | d :: ds, _, _, _, h, g => by
    rw [reps_cons] at h
    obtain ⟨x, r, rfl, h1, h2⟩ := h
    exact reps_cons.mpr ⟨x, r ++ _, rfl, h1, Reps.append h2 g⟩
theorem Reps.drop : ∀ (n : Nat) {ds : List D} {xs : List V}, Reps K H ds xs → Reps K H (ds.drop n) (xs.drop n)
  | 0, _, _, h => h
  | n + 1, [], _, h => by rw [reps_nil] at h; subst h; exact reps_nil.mpr rfl
  | n + 1, d :: ds, _, h => by
    rw [reps_cons] at h
    obtain ⟨x, r, rfl, h1, h2⟩ := h
    exact Reps.drop n h2
theorem Reps.take : ∀ (n : Nat) {ds : List D} {xs : List V}, Reps K H ds xs → Reps K H (ds.take n) (xs.take n)
  | 0, _, _, h => reps_nil.mpr rfl
  | n + 1, [], _, h => by rw [reps_nil] at h; subst h; exact reps_nil.mpr rfl
  | n + 1, d :: ds, _, h => by
    rw [reps_cons] at h
    obtain ⟨x, r, rfl, h1, h2⟩ := h
    exact reps_cons.mpr ⟨x, r.take n, rfl, h1, Reps.take n h2⟩
theorem Reps.one {d : D} {v : V} (h : Rep K H d v) : Reps K H [d] [v] := reps_cons.mpr ⟨v, [], rfl, h, reps_nil.mpr rfl⟩
theorem Reps.cons {d : D} {v : V} {ds : List D} {xs : List V} (h : Rep K H d v) (t : Reps K H ds xs) : Reps K H (d :: ds) (v :: xs) := reps_cons.mpr ⟨v, xs, rfl, h, t⟩
theorem reps_ints : ∀ (ns : List Int), Reps K H (ns.map D.int) (ns.map V.int)
  | [] => reps_nil.mpr rfl
  | n :: ns => .cons (rep_int.mpr rfl) (reps_ints ns)
end

/-! ## slots -/
inductive Sl where
  | un
  | va (d : D)
  | ow (ds : List D)
  | oT (kvs : List (List Key × D))
  | oK (kvs : List (Key × D))
  | aw (a : Addr) (ds : List D)
  | aT (a : Addr) (kvs : List (List Key × D))
  | aK (a : Addr) (kvs : List (Key × D))

def KVR (K : PySem.W.Frag) (H : Hp) {κ : Type} : List (κ × D) → List (κ × V) → Prop := Paired fun a b => a.1 = b.1 ∧ Rep K H a.2 b.2
theorem KVR.mono {K : PySem.W.Frag} {H H' : Hp} {κ : Type} {ks : List (κ × D)} {xs : List (κ × V)} (e : Same H H') (h : KVR K H ks xs) : KVR K H' ks xs :=
  Paired.mapP h fun a b z => ⟨z.1, Rep.mono e _ z.2⟩

def TVR (K : PySem.W.Frag) (H : Hp) : List (List Key × D) → List (List Key × Addr × V) → Prop := Paired fun a b => a.1 = b.1 ∧ SqT K H b.2.1 (a.1.map kV) ∧ Rep K H a.2 b.2.2
theorem TVR.mono {K : PySem.W.Frag} {H H' : Hp} {ks : List (List Key × D)} {xs : List (List Key × Addr × V)} (e : Same H H') (h : TVR K H ks xs) : TVR K H' ks xs :=
  Paired.mapP h fun a b z => ⟨z.1, same_tup e z.2.1, Rep.mono e _ z.2.2⟩

/-- what stands in a slot: an owned thing (a list, a dict) is in no other slot and in nothing frozen -/
def RepS (K : PySem.W.Frag) (fr : Addr → Prop) (H Hf : Hp) : Sl → V → Prop
  | .un, _ => False
  | .va d, v => Rep K Hf d v
  | .ow ds, v => ∃ p xs, v = .ref p ∧ fr p ∧ H p = some (.lst xs) ∧ Hf p = none ∧ Reps K Hf ds xs
  | .oT kvs, v => ∃ p xs, v = .ref p ∧ fr p ∧ H p = some (.dT xs) ∧ Hf p = none ∧ TVR K Hf kvs xs
  | .oK kvs, v => ∃ p xs, v = .ref p ∧ fr p ∧ H p = some (.dK xs) ∧ Hf p = none ∧ KVR K Hf kvs xs
  | .aw a ds, v => ∃ p xs, v = .ref p ∧ (fr p ∧ p = a) ∧ H p = some (.lst xs) ∧ Hf p = none ∧ Reps K Hf ds xs
  | .aT a kvs, v => ∃ p xs, v = .ref p ∧ (fr p ∧ p = a) ∧ H p = some (.dT xs) ∧ Hf p = none ∧ TVR K Hf kvs xs
  | .aK a kvs, v => ∃ p xs, v = .ref p ∧ (fr p ∧ p = a) ∧ H p = some (.dK xs) ∧ Hf p = none ∧ KVR K Hf kvs xs
def Sl.owned : Sl → Bool
  | .ow _ => true | .oT _ => true | .oK _ => true | .aw _ _ => true | .aT _ _ => true | .aK _ _ => true | _ => false

/-- the heaps grow by frozen and by untouched things alone -/
structure Grw (H Hf H' Hf' : Hp) : Prop where
  s : Same H H'
  f : Same Hf Hf'
  b : Same Hf' H'
  n : ∀ b, Hf b = none → H b ≠ none → (∀ xs, H b ≠ some (.tup xs)) → Hf' b = none

theorem Grw.refl {H Hf : Hp} (b : Same Hf H) : Grw H Hf H Hf := ⟨.refl _, .refl _, b, fun _ h _ _ => h⟩
theorem Grw.trans {H Hf H1 Hf1 H2 Hf2 : Hp} (a : Grw H Hf H1 Hf1) (b : Grw H1 Hf1 H2 Hf2) : Grw H Hf H2 Hf2 :=
  ⟨a.s.trans b.s, a.f.trans b.f, b.b, fun c h1 h2 h3 => by
    cases q : H c with
    | none => exact absurd q h2
    | some o =>
      have e := a.s c o q
      exact b.n c (a.n c h1 h2 h3) (by rw [e]; simp) (by intro xs; rw [e, ← q]; exact h3 xs)⟩
/-- a new thing, frozen -/
theorem Grw.new {H Hf : Hp} (b : Same Hf H) {p : Addr} {o : HO} (hp : H p = none) : Grw H Hf (upd H p o) (upd Hf p o) := by
  have hf : Hf p = none := b.free hp
  refine ⟨fun c u h => ?_, fun c u h => ?_, fun c u h => ?_, fun c h1 h2 _ => ?_⟩
  · rw [upd_ne (ne_of_none h hp)]; exact h
  · rw [upd_ne (ne_of_none h hf)]; exact h
  · by_cases e : c = p
    · subst e; rw [upd_same] at h ⊢; exact h
    · rw [upd_ne e] at h ⊢; exact b c u h
  · by_cases e : c = p
    · subst e; exact absurd hp h2
    · rw [upd_ne e]; exact h1
/-- a new thing, not frozen -/
theorem Grw.newO {H Hf : Hp} (b : Same Hf H) {p : Addr} {o : HO} (hp : H p = none) : Grw H Hf (upd H p o) Hf :=
  ⟨(Grw.new b hp (o := o)).s, .refl _, fun c u h => (Grw.new b hp (o := o)).s c u (b c u h), fun _ h _ _ => h⟩

/-! ## places in written lists -/
inductive At {α : Type} : List α → Nat → α → Prop where
  | z {x : α} {l : List α} : At (x :: l) 0 x
  | s {x y : α} {l : List α} {i : Nat} : At l i x → At (y :: l) (i + 1) x
theorem At.get {α : Type} {l : List α} {i : Nat} {x : α} (h : At l i x) : l[i]? = some x := by
  induction h with
  | z => rfl
  | s _ ih => simpa using ih
theorem At.mem {α : Type} {l : List α} {i : Nat} {x : α} (h : At l i x) : x ∈ l := List.mem_of_getElem? h.get
/-- a slot stored: the list behind -/
inductive SSet {α : Type} : List α → Nat → α → List α → Prop where
  | z {x r : α} {l : List α} : SSet (x :: l) 0 r (r :: l)
  | s {r y : α} {l l' : List α} {i : Nat} : SSet l i r l' → SSet (y :: l) (i + 1) r (y :: l')
theorem SSet.eq {α : Type} {l l' : List α} {i : Nat} {r : α} (h : SSet l i r l') : l' = l.set i r := by
  induction h with
  | z => rfl
  | s _ ih => simp [ih]
/-! ## the state of a def's slots -/
structure StR (K : PySem.W.Frag) (H₀ Hf₀ : Hp) (σ : L2.St) (H Hf : Hp) (ρ : List Sl) : Prop where
  bas : Grw H₀ Hf₀ H Hf
  len : σ.length = ρ.length
  at_ : ∀ (i : Nat) (r : Sl), ρ[i]? = some r → r ≠ .un → ∃ v, σ[i]? = some (some v) ∧ RepS K (fun p => H₀ p = none) H Hf r v
  sep : ∀ (i j : Nat) (r r' : Sl) (p : Addr), i ≠ j → ρ[i]? = some r → ρ[j]? = some r' → r.owned = true → r'.owned = true → σ[i]? = some (some (.ref p)) → σ[j]? ≠ some (some (.ref p))
/-- an exception of one's own class C has come to the frames at outer: a the exception, s the state ahead of the call, H its abstract heap, H' the one behind -/
structure ExcS (P : Program) (w : World) (outer : List Env) (H : Hp) (s : Shared) (a C : Addr) (H' : Hp) (s' : Shared) : Prop where
  os : s'.os = s.os
  bare : AllBare s'.gens
  un : Un (frs outer) [] H H' s.heap s'.heap
  hok : HOk P w H' s'.heap
  new : s.heap.get? a = none
  free : H' a = none
  fly : ∃ (t : Addr) (B : Heap), Heap.FlyingW B outer a (.ref C) (.ref t) s'.heap ∧ (∀ b o, s.heap.get? b = some o → b ∉ frs outer → ∃ o', s'.heap.get? b = some o' ∧ B.get? b = some o') ∧
    ∀ b o, H' b ≠ none → s'.heap.get? b = some o → B.get? b = some o
def CXE (P : Program) (w : World) : CXT := fun outer H s E e s' => ∃ a C H', e = .ref a ∧ ExcS P w outer H s a C H' s' ∧ E (.ref C) (some a) H'
/-! ## the context of a def's body -/
structure Ctx (P : Program) (w : World) (K : PySem.W.Frag) (mg : Str → Option Value) (base : Heap) (k : Nat) (N : List Str) (sc : Scope) (bk : Bool) where
  X : Cx
  eP : X.prog = P
  ew : X.w = w
  eK : X.K = K
  emg : X.mg = mg
  eb : X.base = base
  eN : X.N = N
  esc : X.env.scope = sc
  calm : X.calm = true
  top : bk = false → X.stack = X.env :: X.outer ∧ X.env.frame = some X.env.locals ∧ X.ex = []
  cb : bk = false → ∀ (pins : List (Addr × Obj)) (σ : L2.St) (H : Hp) (s : Shared), Inv X pins σ H s → ∀ (x : Str) (c : Addr), X.env.cells.lookup x = some c → X.s₀.heap.objs.size ≤ c
  fn : ∀ x, bk = false ∨ sc.names.lookup x = some .local → X.fn x = true ∨ X.env.scope.names.lookup x = some .local
  room : Room k X.A
  nd : N.Nodup
  vis : ∀ x ∈ N, Loc sc x
  Hf : Hp
  /-- the heap at the entry, without what was handed over -/
  B : Hp
  /-- what is wanted where an exception of the class comes, by the slots -/
  RX : Addr → List Sl → Prop
  exc : ∀ (C a : Addr) (pins : List (Addr × Obj)) (σ : L2.St) (H Hf' : Hp) (ρ : List Sl) (s : Shared) (H' : Hp) (s' : Shared), Inv X pins σ H s → StR X.K B Hf σ H Hf' ρ → RX C ρ → ExcS X.prog X.w X.stack H s a C H' s' → Same H H' → X.xe (.ref a) s'
  /-- .. where one is raised here -/
  RM : Addr → List Sl → Prop
  mde : ∀ (C a : Addr) (pins : List (Addr × Obj)) (σ : L2.St) (H Hf' : Hp) (ρ : List Sl) (s : Shared) (h' : Heap) (us : List Value), Inv X pins σ H s → StR X.K B Hf σ H Hf' ρ → RM C ρ → Heap.MadeExcOf s.heap h' a (.ref C) us → X.xe (.ref a) { s with heap := h' }

theorem RepS.grw {K : PySem.W.Frag} {fr : Addr → Prop} {H Hf H' Hf' : Hp} (g : Grw H Hf H' Hf') : ∀ {r : Sl} {v : V}, RepS K fr H Hf r v → RepS K fr H' Hf' r v
  | .un, _, h => h
  | .va d, _, h => Rep.mono g.f d h
  | .ow ds, _, ⟨p, xs, e, f, h1, h2, h3⟩ => ⟨p, xs, e, f, g.s _ _ h1, g.n p h2 (by rw [h1]; simp) (by intro ys; rw [h1]; simp), h3.mono g.f⟩
  | .oT kvs, _, ⟨p, xs, e, f, h1, h2, h3⟩ => ⟨p, xs, e, f, g.s _ _ h1, g.n p h2 (by rw [h1]; simp) (by intro ys; rw [h1]; simp), h3.mono g.f⟩
  | .oK kvs, _, ⟨p, xs, e, f, h1, h2, h3⟩ => ⟨p, xs, e, f, g.s _ _ h1, g.n p h2 (by rw [h1]; simp) (by intro ys; rw [h1]; simp), h3.mono g.f⟩
  | .aw a ds, _, ⟨p, xs, e, f, h1, h2, h3⟩ => ⟨p, xs, e, f, g.s _ _ h1, g.n p h2 (by rw [h1]; simp) (by intro ys; rw [h1]; simp), h3.mono g.f⟩
  | .aT a kvs, _, ⟨p, xs, e, f, h1, h2, h3⟩ => ⟨p, xs, e, f, g.s _ _ h1, g.n p h2 (by rw [h1]; simp) (by intro ys; rw [h1]; simp), h3.mono g.f⟩
  | .aK a kvs, _, ⟨p, xs, e, f, h1, h2, h3⟩ => ⟨p, xs, e, f, g.s _ _ h1, g.n p h2 (by rw [h1]; simp) (by intro ys; rw [h1]; simp), h3.mono g.f⟩
theorem RepS.weak {K : PySem.W.Frag} {fr fr' : Addr → Prop} {H Hf : Hp} (hf : ∀ p, fr p → fr' p) : ∀ {r : Sl} {v : V}, RepS K fr H Hf r v → RepS K fr' H Hf r v
  | .un, _, h => h
  | .va d, _, h => h
  | .ow ds, _, ⟨p, xs, e, f, h⟩ => ⟨p, xs, e, hf p f, h⟩
  | .oT ds, _, ⟨p, xs, e, f, h⟩ => ⟨p, xs, e, hf p f, h⟩
  | .oK ds, _, ⟨p, xs, e, f, h⟩ => ⟨p, xs, e, hf p f, h⟩
  | .aw a ds, _, ⟨p, xs, e, f, h⟩ => ⟨p, xs, e, ⟨hf p f.1, f.2⟩, h⟩
  | .aT a ds, _, ⟨p, xs, e, f, h⟩ => ⟨p, xs, e, ⟨hf p f.1, f.2⟩, h⟩
  | .aK a ds, _, ⟨p, xs, e, f, h⟩ => ⟨p, xs, e, ⟨hf p f.1, f.2⟩, h⟩

section
variable {P : Program} {w : World} {K : PySem.W.Frag} {mg : Str → Option Value} {base : Heap} {k : Nat} {N : List Str} {sc : Scope} {bk : Bool}

def Ctx.fr (c : Ctx P w K mg base k N sc bk) (p : Addr) : Prop := c.B p = none
abbrev StRep (c : Ctx P w K mg base k N sc bk) (σ : L2.St) (H Hf : Hp) (ρ : List Sl) : Prop := StR c.X.K c.B c.Hf σ H Hf ρ

variable {σ : L2.St} {H Hf H' Hf' H₀ Hf₀ : Hp} {ρ : List Sl}
theorem StR.grw (S : StR K H₀ Hf₀ σ H Hf ρ) (g : Grw H Hf H' Hf') : StR K H₀ Hf₀ σ H' Hf' ρ :=
  ⟨S.bas.trans g, S.len, fun i r h hr => let ⟨v, e, q⟩ := S.at_ i r h hr; ⟨v, e, q.grw g⟩, S.sep⟩
theorem StR.sb (S : StR K H₀ Hf₀ σ H Hf ρ) : Same Hf H := S.bas.b
theorem StR.va (S : StR K H₀ Hf₀ σ H Hf ρ) {i : Nat} {d : D} (h : ρ[i]? = some (.va d)) : ∃ v, σ[i]? = some (some v) ∧ Rep K Hf d v := S.at_ i _ h (by simp)
/-- a slot is stored -/
theorem StR.set (S : StR K H₀ Hf₀ σ H Hf ρ) {H1 Hf1 : Hp} (g : Grw H Hf H1 Hf1) {i : Nat} {r : Sl} {v : V} (hr : RepS K (fun p => H p = none) H1 Hf1 r v) :
    StR K H₀ Hf₀ (σ.set i (some v)) H1 Hf1 (ρ.set i r) := by
  have S1 := S.grw g
  have fr0 : ∀ p, H p = none → H₀ p = none := fun p h => S.bas.s.free h
  have fresh : ∀ p, r.owned = true → v = .ref p → H p = none := fun p ho e => by
    subst e
    cases r with
    | un => cases ho
    | va d => cases ho
    | ow ds => obtain ⟨p', xs, e, h, _⟩ := hr; cases e; exact h
    | oT ds => obtain ⟨p', xs, e, h, _⟩ := hr; cases e; exact h
    | oK ds => obtain ⟨p', xs, e, h, _⟩ := hr; cases e; exact h
    | aw a ds => obtain ⟨p', xs, e, h, _⟩ := hr; cases e; exact h.1
    | aT a ds => obtain ⟨p', xs, e, h, _⟩ := hr; cases e; exact h.1
    | aK a ds => obtain ⟨p', xs, e, h, _⟩ := hr; cases e; exact h.1
  have old : ∀ (j : Nat) (r' : Sl) (p : Addr), ρ[j]? = some r' → r'.owned = true → σ[j]? = some (some (.ref p)) → H p ≠ none := fun j r' p h ho hs => by
    obtain ⟨v', e, q⟩ := S.at_ j r' h (by rintro rfl; cases ho)
    rw [hs] at e; cases e
    cases r' with
    | un => cases ho
    | va d => cases ho
    | ow ds => obtain ⟨p', xs, e, _, h, _⟩ := q; cases e; rw [h]; simp
    | oT ds => obtain ⟨p', xs, e, _, h, _⟩ := q; cases e; rw [h]; simp
    | oK ds => obtain ⟨p', xs, e, _, h, _⟩ := q; cases e; rw [h]; simp
    | aw a ds => obtain ⟨p', xs, e, _, h, _⟩ := q; cases e; rw [h]; simp
    | aT a ds => obtain ⟨p', xs, e, _, h, _⟩ := q; cases e; rw [h]; simp
    | aK a ds => obtain ⟨p', xs, e, _, h, _⟩ := q; cases e; rw [h]; simp
  refine ⟨S1.bas, by simp [S.len], fun j r' hj hu => ?_, fun j j' r1 r2 p hne h1 h2 o1 o2 e1 e2 => ?_⟩
  · by_cases q : j = i
    · subst q
      have hi : j < ρ.length := by
        have := (List.getElem?_eq_some_iff.mp hj).1
        simpa using this
      rw [List.getElem?_set_self hi] at hj; cases hj
      exact ⟨v, List.getElem?_set_self (by rw [S.len]; exact hi), hr.weak fr0⟩
    · rw [List.getElem?_set_ne (Ne.symm q)] at hj ⊢
      exact S1.at_ j r' hj hu
  · have hlt : ∀ {j : Nat} {r : Sl}, (ρ.set i r)[j]? = some r → j < ρ.length := fun {j r} h => by
      have := (List.getElem?_eq_some_iff.mp h).1
      simpa using this
    by_cases q1 : j = i
    · subst q1
      have hi : j < ρ.length := by have := (List.getElem?_eq_some_iff.mp h1).1; simpa using this
      rw [List.getElem?_set_self hi] at h1; cases h1
      rw [List.getElem?_set_self (by rw [S.len]; exact hi)] at e1
      rw [List.getElem?_set_ne hne] at h2 e2
      exact old j' r2 p h2 o2 e2 (fresh p o1 (by simpa using e1))
    · by_cases q2 : j' = i
      · subst q2
        have hi : j' < ρ.length := by have := (List.getElem?_eq_some_iff.mp h2).1; simpa using this
        rw [List.getElem?_set_self hi] at h2; cases h2
        rw [List.getElem?_set_self (by rw [S.len]; exact hi)] at e2
        rw [List.getElem?_set_ne (Ne.symm hne)] at h1 e1
        exact old j r1 p h1 o1 e1 (fresh p o2 (by simpa using e2))
      · rw [List.getElem?_set_ne (Ne.symm q1)] at h1 e1
        rw [List.getElem?_set_ne (Ne.symm q2)] at h2 e2
        exact S.sep j j' r1 r2 p hne h1 h2 o1 o2 e1 e2
/-- fewer slots are told -/
theorem StR.weak {ρ' : List Sl} (S : StR K H₀ Hf₀ σ H Hf ρ) (hl : ρ'.length = ρ.length) (h : ∀ (i : Nat) (r : Sl), ρ'[i]? = some r → r ≠ .un → ρ[i]? = some r) : StR K H₀ Hf₀ σ H Hf ρ' :=
  ⟨S.bas, by rw [S.len, hl], fun i r e hu => S.at_ i r (h i r e hu) hu, fun i j r r' p hne h1 h2 o1 o2 => S.sep i j r r' p hne (h i r h1 (by rintro rfl; cases o1)) (h j r' h2 (by rintro rfl; cases o2)) o1 o2⟩
end
end EV

set_option Elab.async false
set_option linter.all false
set_option maxRecDepth 100000
namespace EV
open PySem PySem.Spec PyProof.Rows L2
section
variable {P : Program} {w : World} {K : PySem.W.Frag} {mg : Str → Option Value} {base : Heap} {k : Nat} {N : List Str} {sc : Scope} {bk : Bool}

/-! ## the best readings -/
def bE (X : Cx) (e : Expr) : TE := fun σ H Q => ∀ pins s, Inv X pins σ H s → wpAny (model X.prog X.w) X.A (eval e X.env) (EP X pins σ Q) X.xe s
theorem pbE {X : Cx} {e : Expr} : PE X e (bE X e) := fun pins s σ H Q I h => h pins s I
theorem bE_of {X : Cx} {e : Expr} {t : TE} (h : PE X e t) {σ : L2.St} {H : Hp} {Q : VK} (q : t σ H Q) : bE X e σ H Q := fun pins s I => h pins s σ H Q I q
def bT (X : Cx) (e : Expr) : TT := fun σ H Q => ∀ pins s, Inv X pins σ H s → wpAny (model X.prog X.w) X.A (isTrue e X.env (eval e X.env)) (TP X pins σ Q) X.xe s
theorem pbT {X : Cx} {e : Expr} : PT X e (bT X e) := fun pins s σ H Q I h => h pins s I
theorem bT_of {X : Cx} {e : Expr} {t : TT} (h : PT X e t) {σ : L2.St} {H : Hp} {Q : Bool → Hp → Prop} (q : t σ H Q) : bT X e σ H Q := fun pins s I => h pins s σ H Q I q
def bA (X : Cx) (es : List Expr) : TA := fun σ H Q => ∀ pos pins s, Inv X pins σ H s → wpAny (model X.prog X.w) X.A (spliced (backTo pos (starEach es X.env))) (AP X pins σ Q) X.xe s
theorem pbA {X : Cx} {es : List Expr} : PA X es (bA X es) := fun pos pins s σ H Q I h => h pos pins s I
theorem bA_of {X : Cx} {es : List Expr} {t : TA} (h : PA X es t) {σ : L2.St} {H : Hp} {Q : List V → Hp → Prop} (q : t σ H Q) : bA X es σ H Q := fun pos pins s I => h pos pins s σ H Q I q
def bS (X : Cx) (st : Stmt) : TS := fun D σ H => ∀ pins s, Inv X pins σ H s → wpAny (model X.prog X.w) X.A (exec st X.env) (SP X pins D) X.xe s
theorem pbS {X : Cx} {st : Stmt} : PS X st (bS X st) := fun pins s σ H D I h => h pins s I
theorem bS_of {X : Cx} {st : Stmt} {t : TS} (h : PS X st t) {σ : L2.St} {H : Hp} {D : Ends} (q : t D σ H) : bS X st D σ H := fun pins s I => h pins s σ H D I q
def bSs (X : Cx) (st : List Stmt) : TS := fun D σ H => ∀ pins s, Inv X pins σ H s → wpAny (model X.prog X.w) X.A (execs st X.env) (SP X pins D) X.xe s
theorem pbSs {X : Cx} {st : List Stmt} : PSs X st (bSs X st) := fun pins s σ H D I h => h pins s I
theorem bSs_of {X : Cx} {st : List Stmt} {t : TS} (h : PSs X st t) {σ : L2.St} {H : Hp} {D : Ends} (q : t D σ H) : bSs X st D σ H := fun pins s I => h pins s σ H D I q
def bG (X : Cx) (tg : Expr) : TG := fun v σ H Q => ∀ pins s u, Inv X pins σ H s → RelV v u → wpAny (model X.prog X.w) X.A (assign tg X.env u) (fun _ s' => ∃ σ' H', Inv X pins σ' H' s' ∧ Q σ' H') X.xe s
theorem pbG {X : Cx} {tg : Expr} : PG X tg (bG X tg) := fun pins s σ H v u Q I r h => h pins s u I r
theorem bG_of {X : Cx} {tg : Expr} {t : TG} (h : PG X tg t) {v : V} {σ : L2.St} {H : Hp} {Q : L2.St → Hp → Prop} (q : t v σ H Q) : bG X tg v σ H Q := fun pins s u I r => h pins s σ H v u Q I r q

/-! ## the judgements -/
variable (c : Ctx P w K mg base k N sc bk)
/-- an expression's value: what it is (P), new and not yet frozen where it is an owned thing -/
def EvX (e : Expr) (ρ : List Sl) (R : Sl → Prop) : Prop :=
  ∀ (σ : L2.St) (H Hf : Hp) (Q : VK), StRep c σ H Hf ρ → (∀ r v H' Hf', R r → RepS c.X.K (fun p => H p = none) H' Hf' r v → Grw H Hf H' Hf' → Q v H') → bE c.X e σ H Q
def EvE (e : Expr) (ρ : List Sl) (R : D → Prop) : Prop :=
  ∀ (σ : L2.St) (H Hf : Hp) (Q : VK), StRep c σ H Hf ρ → (∀ d v H' Hf', R d → Rep c.X.K Hf' d v → Grw H Hf H' Hf' → Q v H') → bE c.X e σ H Q
def EvT (e : Expr) (ρ : List Sl) (R : Bool → Prop) : Prop :=
  ∀ (σ : L2.St) (H Hf : Hp) (Q : Bool → Hp → Prop), StRep c σ H Hf ρ → (∀ b H' Hf', R b → Grw H Hf H' Hf' → Q b H') → bT c.X e σ H Q
def EvA (es : List Expr) (ρ : List Sl) (R : List D → Prop) : Prop :=
  ∀ (σ : L2.St) (H Hf : Hp) (Q : List V → Hp → Prop), StRep c σ H Hf ρ → (∀ ds vs H' Hf', R ds → Reps c.X.K Hf' ds vs → Grw H Hf H' Hf' → Q vs H') → bA c.X es σ H Q
/-- what is wanted behind a statement -/
structure Pt where
  rt : Sl → Prop
  bk : List Sl → Prop := fun _ => False
  ct : List Sl → Prop := fun _ => False
structure PtOk (nx : List Sl → Prop) (p : Pt) (D : Ends) : Prop where
  nx : ∀ σ H Hf ρ, StRep c σ H Hf ρ → nx ρ → D.nx σ H
  rt : ∀ r v H Hf, Grw c.B c.Hf H Hf → RepS c.X.K c.fr H Hf r v → p.rt r → D.rt v H
  bk : ∀ σ H Hf ρ, StRep c σ H Hf ρ → p.bk ρ → D.bk σ H
  ct : ∀ σ H Hf ρ, StRep c σ H Hf ρ → p.ct ρ → D.ct σ H
def EvS (st : Stmt) (ρ : List Sl) (nx : List Sl → Prop) (p : Pt) : Prop :=
  ∀ (σ : L2.St) (H Hf : Hp) (D : Ends), StRep c σ H Hf ρ → PtOk c nx p D → bS c.X st D σ H
def EvSs (st : List Stmt) (ρ : List Sl) (nx : List Sl → Prop) (p : Pt) : Prop :=
  ∀ (σ : L2.St) (H Hf : Hp) (D : Ends), StRep c σ H Hf ρ → PtOk c nx p D → bSs c.X st D σ H
/-- a target that takes a frozen value -/
def EvG (tg : Expr) (d : D) (ρ : List Sl) (R : List Sl → Prop) : Prop :=
  ∀ (σ : L2.St) (H Hf : Hp) (v : V) (Q : L2.St → Hp → Prop), StRep c σ H Hf ρ → Rep c.X.K Hf d v → (∀ σ' H' Hf' ρ', StRep c σ' H' Hf' ρ' → Grw H Hf H' Hf' → R ρ' → Q σ' H') → bG c.X tg v σ H Q

variable {c}
/-- an owned value, frozen -/
def Sl.fz : Sl → Option D
  | .va d => some d
  | .ow ds => some (.lst ds)
  | _ => none
def FzP (R : D → Prop) (r : Sl) : Prop := ∃ d, r.fz = some d ∧ R d
theorem fz_grw {K : PySem.W.Frag} {H Hf H' Hf' : Hp} {r : Sl} {v : V} {d : D} (e : r.fz = some d) (h : RepS K (fun p => H p = none) H' Hf' r v) (g : Grw H Hf H' Hf') :
    ∃ Hf2, Rep K Hf2 d v ∧ Grw H Hf H' Hf2 := by
  cases r with
  | un => cases e
  | va d' => cases e; exact ⟨Hf', h, g⟩
  | oT _ => cases e
  | oK _ => cases e
  | aw _ _ => cases e
  | aT _ _ => cases e
  | aK _ _ => cases e
  | ow ds =>
    cases e
    obtain ⟨p, xs, rfl, hp, h1, h2, h3⟩ := h
    have sf : Same Hf' (upd Hf' p (.lst xs)) := fun b o e => by rw [upd_ne (ne_of_none e h2)]; exact e
    have sb : Same (upd Hf' p (.lst xs)) H' := fun b o e => by
      by_cases q : b = p
      · subst q; rw [upd_same] at e; rw [h1]; exact e
      · rw [upd_ne q] at e; exact g.b b o e
    refine ⟨upd Hf' p (.lst xs), rep_lst.mpr ⟨p, xs, rfl, .inl (.inl upd_same), h3.mono sf⟩, g.s, g.f.trans sf, sb, fun b q1 q2 q3 => ?_⟩
    have e := g.n b q1 q2 q3
    by_cases q : b = p
    · subst q; exact absurd hp q2
    · rw [upd_ne q]; exact e
theorem e_x {e : Expr} {ρ : List Sl} {R : D → Prop} (h : EvX c e ρ (FzP R)) : EvE c e ρ R := fun σ H Hf Q S q =>
  h σ H Hf Q S fun r v H' Hf' ⟨d, e1, rd⟩ rs g => let ⟨Hf2, h1, g2⟩ := fz_grw e1 rs g; q d v H' Hf2 rd h1 g2
theorem x_e {e : Expr} {ρ : List Sl} {R : Sl → Prop} (h : EvE c e ρ fun d => R (.va d)) : EvX c e ρ R := fun σ H Hf Q S q =>
  h σ H Hf Q S fun d v H' Hf' rd h1 g => q (.va d) v H' Hf' rd h1 g
theorem EvE.imp {e : Expr} {ρ : List Sl} {R R' : D → Prop} (h : EvE c e ρ R) (hi : ∀ d, R d → R' d) : EvE c e ρ R' := fun σ H Hf Q S q => h σ H Hf Q S fun d v H' Hf' rd => q d v H' Hf' (hi d rd)
theorem EvX.imp {e : Expr} {ρ : List Sl} {R R' : Sl → Prop} (h : EvX c e ρ R) (hi : ∀ d, R d → R' d) : EvX c e ρ R' := fun σ H Hf Q S q => h σ H Hf Q S fun d v H' Hf' rd => q d v H' Hf' (hi d rd)
theorem EvT.imp {e : Expr} {ρ : List Sl} {R R' : Bool → Prop} (h : EvT c e ρ R) (hi : ∀ d, R d → R' d) : EvT c e ρ R' := fun σ H Hf Q S q => h σ H Hf Q S fun d H' Hf' rd => q d H' Hf' (hi d rd)

/-! ## reading an owned thing without keeping it -/
/-- a value that holds no address -/
def D.flat : D → Prop
  | .non => True | .bl _ => True | .int _ => True | .str _ => True | _ => False

/-! ## names, constants -/
theorem e_var {x : Str} {pos : Pos} {ρ : List Sl} {R : D → Prop} {i : Nat} {d : D} (hN : At N i x) (hs : At ρ i (.va d)) (hR : R d)
    (hd : (x == ("__debug__" : Str)) = false := by decide) (hcd : (x == ("__classdict__" : Str)) = false := by decide) :
    EvE c (.Name x pos) ρ R := fun σ H Hf Q S q => by
  obtain ⟨v, e, r⟩ := S.va hs.get
  exact bE_of (pe_var (X := c.X) (i := i) (by rw [c.eN]; exact hN.get) (by rw [c.esc]; rcases c.vis x hN.mem with h | h; exact .inl h; exact .inr (.inl h)) hd hcd) ⟨v, e, q d v H Hf hR r (.refl S.sb)⟩
theorem e_int {i : Int} {j : Nat} {pos : Pos} {ρ : List Sl} {R : D → Prop} (hR : R (.int i)) : EvE c (.Constant (.int i) j pos) ρ R := fun σ H Hf Q S q =>
  bE_of pe_int (q _ _ H Hf hR (rep_int.mpr rfl) (.refl S.sb))
theorem e_bl {i : Bool} {j : Nat} {pos : Pos} {ρ : List Sl} {R : D → Prop} (hR : R (.bl i)) : EvE c (.Constant (.bool i) j pos) ρ R := fun σ H Hf Q S q =>
  bE_of pe_bl (q _ _ H Hf hR (rep_bl.mpr rfl) (.refl S.sb))

/-! ## operations on two values -/
/-- a rule by values, told of data -/
def OpD (K : PySem.W.Frag) (r : R2) (p : D → D → (Sl → Prop) → Prop) : Prop :=
  ∀ (x y : D) (v u : V) (H Hf : Hp) (Q : VK) (R : Sl → Prop), Same Hf H → Rep K Hf x v → Rep K Hf y u → p x y R →
    (∀ z v' H' Hf', R z → RepS K (fun p => H p = none) H' Hf' z v' → Grw H Hf H' Hf' → Q v' H') → r v u H Q
theorem x_op {a b : Expr} {op : Operator} {pos : Pos} {ρ : List Sl} {R : Sl → Prop} {r : R2} {p : D → D → (Sl → Prop) → Prop} (ho : OpR c.X (binaryOp op) r) (hd : OpD c.X.K r p)
    (h : EvE c a ρ fun x => EvE c b ρ fun y => p x y R) : EvX c (.BinOp a op b pos) ρ R := fun σ H Hf Q S q =>
  bE_of (pe_op ho pbE pbE) (h σ H Hf _ S fun x v1 H1 Hf1 h1 r1 g1 => h1 σ H1 Hf1 _ (S.grw g1) fun y v2 H2 Hf2 h2 r2 g2 =>
    hd x y v1 v2 H2 Hf2 Q R g2.b (Rep.mono g2.f x r1) r2 h2 fun z v' H' Hf' hz rz g3 =>
      q z v' H' Hf' hz (rz.weak fun p hp => (g1.trans g2).s.free hp) ((g1.trans g2).trans g3))
/-- ints in, an int out -/
theorem opd_I {K : PySem.W.Frag} {C : Int → Int → Prop} {f : Int → Int → Int} : OpD K (rI C fun i j => .int (f i j)) fun x y R => ∃ i j, x = .int i ∧ y = .int j ∧ C i j ∧ R (.va (.int (f i j))) := by
  rintro x y v u H Hf Q R s rx ry ⟨i, j, rfl, rfl, hC, hR⟩ q
  rw [rep_int] at rx ry
  exact ⟨i, j, rx, ry, hC, q (.va (.int (f i j))) _ H Hf hR (show Rep K Hf (.int (f i j)) _ from rep_int.mpr rfl) (.refl s)⟩
theorem opd_I0 {K : PySem.W.Frag} {f : Int → Int → Int} : OpD K (rI0 fun i j => .int (f i j)) fun x y R => ∃ i j, x = .int i ∧ y = .int j ∧ R (.va (.int (f i j))) := by
  rintro x y v u H Hf Q R s rx ry ⟨i, j, rfl, rfl, hR⟩ q
  rw [rep_int] at rx ry
  exact ⟨i, j, rx, ry, q (.va (.int (f i j))) _ H Hf hR (show Rep K Hf (.int (f i j)) _ from rep_int.mpr rfl) (.refl s)⟩
theorem e_ofx {e : Expr} {ρ : List Sl} {R : D → Prop} (h : EvX c e ρ fun r => ∃ d, r = .va d ∧ R d) : EvE c e ρ R := e_x (h.imp fun r ⟨d, e, hr⟩ => ⟨d, by subst e; rfl, hr⟩)
/-- the kinds that == tells apart as data does -/
def scalD : D → D → Bool
  | .non, .non => true | .non, .int _ => true | .int _, .non => true | .non, .bl _ => true | .bl _, .non => true | .non, .str _ => true | .str _, .non => true
  | .int _, .int _ => true | .bl _, .bl _ => true | .str _, .str _ => true | .int _, .str _ => true | .str _, .int _ => true | .bl _, .str _ => true | .str _, .bl _ => true
  | _, _ => false
noncomputable instance : DecidableEq D := fun _ _ => Classical.propDecidable _
/-- data that == compares to any depth -/
inductive EqO : Nat → D → D → Prop where
  | sc {n : Nat} {x y : D} (h : scalD x y = true) : EqO n x y
  | tup {n : Nat} {ds es : List D} (h : ∀ (i : Nat) (d e : D), ds[i]? = some d → es[i]? = some e → EqO n d e) : EqO (n + 1) (.tup ds) (.tup es)
  | lst {n : Nat} {ds es : List D} (h : ∀ (i : Nat) (d e : D), ds[i]? = some d → es[i]? = some e → EqO n d e) : EqO (n + 1) (.lst ds) (.lst es)
  | ln {n : Nat} {ds : List D} : EqO n (.lst ds) .non
  | nl {n : Nat} {ds : List D} : EqO n .non (.lst ds)
  | tn {n : Nat} {ds : List D} : EqO n (.tup ds) .non
  | nt {n : Nat} {ds : List D} : EqO n .non (.tup ds)
/-- the items of two rows, side by side -/
def EqIt (ds es : List D) : Prop := ∀ (i : Nat) (d e : D), ds[i]? = some d → es[i]? = some e → EqO 40 d e
def EqOk (x y : D) : Prop := scalD x y = true ∨ ∃ ds es, ((x = .tup ds ∧ y = .tup es) ∨ (x = .lst ds ∧ y = .lst es)) ∧ EqIt ds es
section
variable {a b : Expr} {pos : Pos} {ρ : List Sl} {R : D → Prop}
/-- what is asked on the side, and then -/
structure Sd (A B : Prop) : Prop where
  s : A
  r : B
/-- two ways -/
structure If2 (A B : Prop) (x : Bool) : Prop where
  t : x = true → A
  f : x = false → B
theorem if2_t {A B : Prop} (h1 : A) : If2 A B true := ⟨fun _ => h1, fun h => by cases h⟩
theorem if2_dec {A B p : Prop} {i : Decidable p} (h1 : p → A) (h2 : ¬ p → B) : If2 A B (@decide p i) := ⟨fun h => h1 (of_decide_eq_true h), fun h => h2 (of_decide_eq_false h)⟩
theorem if2_not {A B : Prop} {x : Bool} (h : If2 B A x) : If2 A B (!x) := ⟨fun e => h.f (by simpa using e), fun e => h.t (by simpa using e)⟩
/-- == of two data -/
def EqP (x y : D) (T : Bool → Prop) : Prop := EqOk x y ∧ T (decide (x = y))
theorem eqp_int {i j : Int} {T : Bool → Prop} (h : T (decide (i = j))) : EqP (.int i) (.int j) T := ⟨.inl rfl, by
  have e : decide (D.int i = D.int j) = decide (i = j) := by simp
  rw [e]; exact h⟩
theorem eqp_bl {i j : Bool} {T : Bool → Prop} (h : T (decide (i = j))) : EqP (.bl i) (.bl j) T := ⟨.inl rfl, by
  have e : decide (D.bl i = D.bl j) = decide (i = j) := by simp
  rw [e]; exact h⟩
theorem eqp_tup {ds es : List D} {T : Bool → Prop} (h : Sd (EqIt ds es) (T (decide (ds = es)))) : EqP (.tup ds) (.tup es) T := ⟨.inr ⟨ds, es, .inl ⟨rfl, rfl⟩, h.s⟩, by
  have e : decide (D.tup ds = D.tup es) = decide (ds = es) := by simp
  rw [e]; exact h.r⟩
/-- two ints -/
def I2 (k : Int → Int → Prop) : D → D → Prop := fun x y => ∃ i j, x = .int i ∧ y = .int j ∧ k i j
theorem i2 {k : Int → Int → Prop} {i j : Int} (h : k i j) : I2 k (.int i) (.int j) := ⟨i, j, rfl, rfl, h⟩
/-- one int -/
def I1 (k : Int → Prop) : D → Prop := fun x => ∃ i, x = .int i ∧ k i
theorem i1 {k : Int → Prop} {i : Int} (h : k i) : I1 k (.int i) := ⟨i, rfl, h⟩
/-- a bool -/
def B1 (k : Bool → Prop) : D → Prop := fun x => ∃ i, x = .bl i ∧ k i
theorem b1 {k : Bool → Prop} {i : Bool} (h : k i) : B1 k (.bl i) := ⟨i, rfl, h⟩
theorem e_sub (h : EvE c a ρ fun x => EvE c b ρ fun y => I2 (fun i j => R (.int (i - j))) x y) : EvE c (.BinOp a .Sub b pos) ρ R :=
  e_ofx (x_op op_sub opd_I0 (h.imp fun x hx => hx.imp fun y ⟨i, j, e1, e2, r⟩ => ⟨i, j, e1, e2, _, rfl, r⟩))
def MulOk (i j : Int) : Prop := IntMulOk i j
def DivOk (j : Int) : Prop := 0 < j ∧ j.natAbs.log2 < 9000
theorem op_mulG : OpR c.X (binaryOp .Mult) (rI MulOk fun i j => .int (i * j)) := opI fun _ _ _ _ _ _ _ hc q => mul_int q hc
theorem op_fdivG : OpR c.X (binaryOp .FloorDiv) (rI (fun _ j => DivOk j) fun i j => .int (i / j)) := opI fun i j _ _ _ _ _ hc q => by
  have h1 : (0 : Int) < j := hc.1
  exact floordiv_int (by omega) (by rw [Int.fdiv_eq_ediv_of_nonneg i (by omega)]; exact q) (.inl (PyProof.noPylong_of_log2 hc.2))
/-- by a divisor below nought, too -/
theorem op_fdivF : OpR c.X (binaryOp .FloorDiv) (rI (fun _ j => j ≠ 0 ∧ j.natAbs.log2 < 9000) fun i j => .int (i.fdiv j)) := opI fun i j _ _ _ _ _ hc q =>
  floordiv_int hc.1 q (.inl (PyProof.noPylong_of_log2 hc.2))
theorem e_mul (h : EvE c a ρ fun x => EvE c b ρ fun y => I2 (fun i j => Sd (MulOk i j) (R (.int (i * j)))) x y) : EvE c (.BinOp a .Mult b pos) ρ R :=
  e_ofx (x_op op_mulG opd_I (h.imp fun x hx => hx.imp fun y ⟨i, j, e1, e2, ⟨hc, r⟩⟩ => ⟨i, j, e1, e2, hc, _, rfl, r⟩))
theorem e_fdiv (h : EvE c a ρ fun x => EvE c b ρ fun y => I2 (fun i j => Sd (DivOk j) (R (.int (i / j)))) x y) : EvE c (.BinOp a .FloorDiv b pos) ρ R :=
  e_ofx (x_op op_fdivG opd_I (h.imp fun x hx => hx.imp fun y ⟨i, j, e1, e2, ⟨hc, r⟩⟩ => ⟨i, j, e1, e2, hc, _, rfl, r⟩))
theorem e_fdivF (h : EvE c a ρ fun x => EvE c b ρ fun y => I2 (fun i j => Sd ((j ≠ 0 ∧ j.natAbs.log2 < 9000)) (R (.int (i.fdiv j)))) x y) : EvE c (.BinOp a .FloorDiv b pos) ρ R :=
  e_ofx (x_op op_fdivF opd_I (h.imp fun x hx => hx.imp fun y ⟨i, j, e1, e2, ⟨hc, r⟩⟩ => ⟨i, j, e1, e2, hc, _, rfl, r⟩))
theorem e_mod (h : EvE c a ρ fun x => EvE c b ρ fun y => I2 (fun i j => Sd (0 < j) (R (.int (i % j)))) x y) : EvE c (.BinOp a .Mod b pos) ρ R :=
  e_ofx (x_op op_mod opd_I (h.imp fun x hx => hx.imp fun y ⟨i, j, e1, e2, ⟨hc, r⟩⟩ => ⟨i, j, e1, e2, hc, _, rfl, r⟩))
theorem e_pow (h : EvE c a ρ fun x => EvE c b ρ fun y => I2 (fun i j => Sd (CPow i j) (R (.int (i ^ j.toNat)))) x y) : EvE c (.BinOp a .Pow b pos) ρ R :=
  e_ofx (x_op op_pow opd_I (h.imp fun x hx => hx.imp fun y ⟨i, j, e1, e2, ⟨hc, r⟩⟩ => ⟨i, j, e1, e2, hc, _, rfl, r⟩))
theorem e_neg (h : EvE c a ρ (I1 fun i => R (.int (-i)))) : EvE c (.UnaryOp .USub a pos) ρ R := fun σ H Hf Q S q =>
  bE_of (pe_un un_neg pbE) (h σ H Hf _ S fun x v H' Hf' hx r g => by
    obtain ⟨i, rfl, hR⟩ := hx
    rw [rep_int] at r
    exact ⟨i, r, q _ _ H' Hf' hR (rep_int.mpr rfl) g⟩)
/-- a comparison by values, a bool out -/
def CmpD (K : PySem.W.Frag) (r : R2) (p : D → D → (Bool → Prop) → Prop) : Prop :=
  ∀ (x y : D) (v u : V) (H Hf : Hp) (Q : VK) (R : Bool → Prop), Same Hf H → Rep K Hf x v → Rep K Hf y u → p x y R → (∀ b, R b → Q (.bl b) H) → r v u H Q
theorem e_cmp {op : CmpOp} {r : R2} {p : D → D → (Bool → Prop) → Prop} (ho : OpR c.X (compareOp op) r) (hd : CmpD c.X.K r p) (h : EvE c a ρ fun x => EvE c b ρ fun y => p x y fun z => R (.bl z))
    (hm : behindInMarks op b = false) : EvE c (.Compare a [op] [b] pos) ρ R := fun σ H Hf Q S q =>
  bE_of (pe_cmpR ho pbE pbE hm) (h σ H Hf _ S fun x v1 H1 Hf1 h1 r1 g1 => h1 σ H1 Hf1 _ (S.grw g1) fun y v2 H2 Hf2 h2 r2 g2 =>
    hd x y v1 v2 H2 Hf2 Q _ g2.b (Rep.mono g2.f x r1) r2 h2 fun z hz => q _ _ H2 Hf2 hz (rep_bl.mpr rfl) (g1.trans g2))
theorem t_cmp {op : CmpOp} {r : R2} {p : D → D → (Bool → Prop) → Prop} {T : Bool → Prop} (ho : OpR c.X (compareOp op) r) (hd : CmpD c.X.K r p) (h : EvE c a ρ fun x => EvE c b ρ fun y => p x y T)
    (hm : behindInMarks op b = false) : EvT c (.Compare a [op] [b] pos) ρ T := fun σ H Hf Q S q =>
  bT_of (pt_cmpR ho pbE pbE hm) (h σ H Hf _ S fun x v1 H1 Hf1 h1 r1 g1 => h1 σ H1 Hf1 _ (S.grw g1) fun y v2 H2 Hf2 h2 r2 g2 =>
    hd x y v1 v2 H2 Hf2 _ T g2.b (Rep.mono g2.f x r1) r2 h2 fun z hz => ⟨z, rfl, q _ H2 Hf2 hz (g1.trans g2)⟩)
theorem cmp_I {K : PySem.W.Frag} {f : Int → Int → Bool} : CmpD K (rI0 fun i j => .bl (f i j)) fun x y R => I2 (fun i j => R (f i j)) x y := by
  rintro x y v u H Hf Q R s rx ry ⟨i, j, rfl, rfl, hR⟩ q
  rw [rep_int] at rx ry
  exact ⟨i, j, rx, ry, q _ hR⟩
theorem scal_of {x y : D} {v u : V} {K : PySem.W.Frag} {H : Hp} (h : scalD x y = true) (rx : Rep K H x v) (ry : Rep K H y u) : scal v u = true ∧ decide (v = u) = decide (x = y) := by
  cases x <;> cases y <;> simp [scalD] at h <;> simp only [rep_int, rep_bl, rep_non, rep_str] at rx ry <;> subst rx <;> subst ry <;> simp [scal]
variable {T : Bool → Prop}
theorem t_lt (h : EvE c a ρ fun x => EvE c b ρ fun y => I2 (fun i j => T (decide (i < j))) x y) : EvT c (.Compare a [.Lt] [b] pos) ρ T := t_cmp op_lt cmp_I h (nomark b)
theorem t_gt (h : EvE c a ρ fun x => EvE c b ρ fun y => I2 (fun i j => T (decide (j < i))) x y) : EvT c (.Compare a [.Gt] [b] pos) ρ T := t_cmp op_gt cmp_I h (nomark b)
theorem e_lt (h : EvE c a ρ fun x => EvE c b ρ fun y => I2 (fun i j => R (.bl (decide (i < j)))) x y) : EvE c (.Compare a [.Lt] [b] pos) ρ R := e_cmp op_lt cmp_I h (nomark b)
end
end
end EV

set_option Elab.async false
set_option linter.all false
set_option maxRecDepth 100000
namespace EV
open PySem PySem.Spec PyProof.Rows L2
section
variable {P : Program} {w : World} {K : PySem.W.Frag} {mg : Str → Option Value} {base : Heap} {k : Nat} {N : List Str} {sc : Scope} {bk : Bool} {c : Ctx P w K mg base k N sc bk}
variable {a b e : Expr} {es rest : List Expr} {pos : Pos} {ρ : List Sl} {R : D → Prop} {T : Bool → Prop}

/-! ## and, or, not, if-else -/
def bW (X : Cx) (e : Expr) : TT := fun σ H Q => ∀ whole pins s, Inv X pins σ H s → wpAny (model X.prog X.w) X.A (isTrue e X.env whole) (TP X pins σ Q) X.xe s
theorem pbW {X : Cx} {e : Expr} : PW X e (bW X e) := fun whole pins s σ H Q I h => h whole pins s I
theorem bW_of {X : Cx} {e : Expr} {t : TT} (h : PW X e t) {σ : L2.St} {H : Hp} {Q : Bool → Hp → Prop} (q : t σ H Q) : bW X e σ H Q := fun whole pins s I => h whole pins s σ H Q I q
def EvW (c : Ctx P w K mg base k N sc bk) (e : Expr) (ρ : List Sl) (R : Bool → Prop) : Prop :=
  ∀ (σ : L2.St) (H Hf : Hp) (Q : Bool → Hp → Prop), StRep c σ H Hf ρ → (∀ b H' Hf', R b → Grw H Hf H' Hf' → Q b H') → bW c.X e σ H Q
theorem t_w (h : EvW c e ρ T) : EvT c e ρ T := fun σ H Hf Q S q pins s I => h σ H Hf Q S q _ pins s I
theorem w_or1 (h : EvT c a ρ T) : EvW c (.BoolOp .Or [a] pos) ρ T := fun σ H Hf Q S q => bW_of (pw_or1 pbT) (h σ H Hf Q S q)
theorem w_or (h : EvT c a ρ (If2 (T true) (EvW c (.BoolOp .Or (b :: rest) pos) ρ T))) : EvW c (.BoolOp .Or (a :: b :: rest) pos) ρ T := fun σ H Hf Q S q =>
  bW_of (pw_or pbT pbW) (h σ H Hf _ S fun x H' Hf' hx g => by
    cases x with
    | false => exact hx.f rfl σ H' Hf' Q (S.grw g) fun y H2 Hf2 hy g2 => q y H2 Hf2 hy (g.trans g2)
    | true => exact q true H' Hf' (hx.t rfl) g)
theorem t_not (h : EvT c a ρ fun x => T (!x)) : EvT c (.UnaryOp .Not a pos) ρ T := fun σ H Hf Q S q =>
  bT_of (pt_not pbT) (h σ H Hf _ S fun x H' Hf' hx g => q _ H' Hf' hx g)
theorem e_one {op : BoolOp} (h : EvE c a ρ R) : EvE c (.BoolOp op [a] pos) ρ R := fun σ H Hf Q S q => bE_of (pe_one pbE) (h σ H Hf Q S q)
theorem e_and (h : EvE c a ρ (B1 (If2 (EvE c (.BoolOp .And (b :: rest) pos) ρ R) (R (.bl false))))) : EvE c (.BoolOp .And (a :: b :: rest) pos) ρ R := fun σ H Hf Q S q =>
  bE_of (pe_and pbE pbE) (h σ H Hf _ S fun x v H' Hf' ⟨k, e, h1⟩ r g => by
    subst e
    rw [rep_bl] at r
    refine ⟨k, r, ?_⟩
    cases k with
    | true => rw [if_pos rfl]; exact h1.t rfl σ H' Hf' Q (S.grw g) fun y v2 H2 Hf2 hy r2 g2 => q y v2 H2 Hf2 hy r2 (g.trans g2)
    | false => rw [if_neg Bool.false_ne_true]; exact q _ _ H' Hf' (h1.f rfl) (rep_bl.mpr rfl) g)
theorem e_not (h : EvE c a ρ (B1 fun k => R (.bl (!k)))) : EvE c (.UnaryOp .Not a pos) ρ R := fun σ H Hf Q S q =>
  bE_of (pe_not pbE) (h σ H Hf _ S fun x v H' Hf' ⟨k, e, h1⟩ r g => by
    subst e; rw [rep_bl] at r
    exact ⟨k, r, q _ _ H' Hf' h1 (rep_bl.mpr rfl) g⟩)
/-- an expression as a test: its value a bool -/
theorem t_val (h : EvE c e ρ (B1 T)) (he : ∀ (env : Env) whole, isTrue e env whole = (do let v ← whole; standAt e.pos; holding [v] (truthy v)) := by intro _ _; with_unfolding_all rfl) : EvT c e ρ T := fun σ H Hf Q S q =>
  bT_of (pt_val pbE (he _)) (h σ H Hf _ S fun x v H' Hf' ⟨k, e, h1⟩ r g => by
    subst e; rw [rep_bl] at r
    exact ⟨k, r, q k H' Hf' h1 g⟩)

/-! ## argument lists, displays -/
theorem a_nil {R : List D → Prop} (h : R []) : EvA c [] ρ R := fun σ H Hf Q S q => bA_of pa_nil (q [] [] H Hf h (reps_nil.mpr rfl) (.refl S.sb))
theorem a_cons {R : List D → Prop} (h : EvE c e ρ fun d => EvA c es ρ fun ds => R (d :: ds)) (hs : ∀ env, starEach (e :: es) env = (false, eval e env) :: starEach es env := by intro _; with_unfolding_all rfl) : EvA c (e :: es) ρ R := fun σ H Hf Q S q =>
  bA_of (pa_cons pbE pbA (hs _)) (h σ H Hf _ S fun d v H1 Hf1 h1 r1 g1 => h1 σ H1 Hf1 _ (S.grw g1) fun ds vs H2 Hf2 h2 r2 g2 => q _ _ H2 Hf2 h2 (.cons (Rep.mono g2.f d r1) r2) (g1.trans g2))
theorem e_tup {j : Nat} (h : EvA c es ρ fun ds => Sd (ds.length ≤ sizeLine) (R (.tup ds))) : EvE c (.Tuple es j pos) ρ R := fun σ H Hf Q S q =>
  bE_of (pe_tup pbA) (h σ H Hf _ S fun ds vs H' Hf' ⟨hl, hR⟩ r g => ⟨by rw [← r.length]; exact hl, fun p hp => by
    have g2 := Grw.new g.b hp (o := .tup vs)
    exact q _ _ _ _ hR (rep_tup.mpr ⟨p, vs, rfl, .inl (.inl upd_same), r.mono g2.f⟩) (g.trans g2)⟩)
theorem x_lst {R : Sl → Prop} (h : EvA c es ρ fun ds => Sd (ds.length ≤ sizeLine) (R (.ow ds))) : EvX c (.List es pos) ρ R := fun σ H Hf Q S q =>
  bE_of (pe_lst pbA) (h σ H Hf _ S fun ds vs H' Hf' ⟨hl, hR⟩ r g => ⟨by rw [← r.length]; exact hl, fun p hp => by
    have g2 := Grw.newO g.b hp (o := .lst vs)
    exact q _ _ _ _ hR ⟨p, vs, rfl, g.s.free hp, upd_same, g.b.free hp, r⟩ (g.trans g2)⟩)

/-! ## statements -/
variable {st : Stmt} {sts : List Stmt} {nx : List Sl → Prop} {p : Pt}
theorem ss_nil (h : nx ρ) : EvSs c [] ρ nx p := fun σ H Hf D S o => bSs_of pss_nil (o.nx σ H Hf ρ S h)
theorem ss_cons (h : EvS c st ρ (fun ρ' => EvSs c sts ρ' nx p) p) : EvSs c (st :: sts) ρ nx p := fun σ H Hf D S o =>
  bSs_of (pss_cons pbS pbSs) (h σ H Hf { D with nx := bSs c.X sts D } S ⟨fun σ' H' Hf' ρ' S' q => q σ' H' Hf' D S' o, o.rt, o.bk, o.ct⟩)
theorem s_ret (h : EvX c e ρ p.rt) : EvS c (.Return (some e) pos) ρ nx p := fun σ H Hf D S o =>
  bS_of (ps_ret pbE) (h σ H Hf _ S fun r v H' Hf' hr rs g => o.rt r v H' Hf' (S.bas.trans g) (rs.weak fun p hp => S.bas.s.free hp) hr)
theorem s_if {A B : List Stmt} {t : Expr} (h : EvT c t ρ (If2 (EvSs c A ρ nx p) (EvSs c B ρ nx p))) : EvS c (.If t A B pos) ρ nx p := fun σ H Hf D S o =>
  bS_of (ps_if pbT pbSs pbSs) (h σ H Hf _ S fun x H' Hf' hx g => by
    cases x with
    | true => rw [if_pos rfl]; exact hx.t rfl σ H' Hf' D (S.grw g) o
    | false => rw [if_neg Bool.false_ne_true]; exact hx.f rfl σ H' Hf' D (S.grw g) o)
/-- what is wanted of the slots behind a store -/
def Nx (ρ : List Sl) (i : Nat) (R : List Sl → Prop) (r : Sl) : Prop := ∃ ρ', SSet ρ i r ρ' ∧ R ρ'
theorem nxt {ρ ρ' : List Sl} {i : Nat} {R : List Sl → Prop} {r : Sl} (h : SSet ρ i r ρ') (hr : R ρ') : Nx ρ i R r := ⟨ρ', h, hr⟩
theorem s_set {x : Str} {pos2 : Pos} {i : Nat} (hN : At N i x) (h : EvX c e ρ (Nx ρ i nx))
    (hs : ∀ env, swapsWith e (some (.Name x pos2)) pos.line env = pure false := by intro _; with_unfolding_all rfl) (hf : bk = false ∨ sc.names.lookup x = some .local := by first | exact .inl rfl | exact .inr (by with_unfolding_all rfl)) : EvS c (.Assign [.Name x pos2] e pos) ρ nx p := fun σ H Hf D S o =>
  bS_of (ps_set (X := c.X) (i := i) (by rw [c.eN]; exact c.nd) (by rw [c.eN]; exact hN.get) (by rw [c.esc]; exact c.vis x hN.mem) pbE (hs _) (c.fn x hf)) (h σ H Hf _ S fun r v H' Hf' ⟨ρ', hs, hx⟩ rs g => o.nx _ H' Hf' _ (hs.eq ▸ S.set g rs) hx)

/-! ## targets -/
theorem g_name {x : Str} {d : D} {R : List Sl → Prop} {i : Nat} (hN : At N i x) (h : Nx ρ i R (.va d)) (hf : bk = false ∨ sc.names.lookup x = some .local := by first | exact .inl rfl | exact .inr (by with_unfolding_all rfl)) : EvG c (.Name x pos) d ρ R := fun σ H Hf v Q S r q => by
  obtain ⟨ρ', hs, h⟩ := h
  exact bG_of (pg_name (X := c.X) (i := i) (by rw [c.eN]; exact c.nd) (by rw [c.eN]; exact hN.get) (by rw [c.esc]; exact c.vis x hN.mem) (c.fn x hf)) (q _ H Hf _ (hs.eq ▸ S.set (.refl S.sb) (r := .va d) r) (.refl S.sb) h)
/-- several targets at once -/
def EvGs (c : Ctx P w K mg base k N sc bk) (ts : List Expr) (ds : List D) (ρ : List Sl) (R : List Sl → Prop) : Prop :=
  ∀ (σ : L2.St) (H Hf : Hp) (vs : List V) (Q : L2.St → Hp → Prop), StRep c σ H Hf ρ → Reps c.X.K Hf ds vs → (∀ σ' H' Hf' ρ', StRep c σ' H' Hf' ρ' → Grw H Hf H' Hf' → R ρ' → Q σ' H') →
    ∀ pins s us, Inv c.X pins σ H s → Vals vs us → wpAny (model c.X.prog c.X.w) c.X.A (assignInOrder ((assignEach ts c.X.env).map (·.2)) us) (fun _ s' => ∃ σ' H', Inv c.X pins σ' H' s' ∧ Q σ' H') c.X.xe s
theorem gs_nil {R : List Sl → Prop} (h : R ρ) : EvGs c [] [] ρ R := fun σ H Hf vs Q S r q pins s us I rv => by
  rw [reps_nil] at r; subst r
  exact pgs_nil pins s σ H [] us Q I rv ⟨rfl, q σ H Hf ρ S (.refl S.sb) h⟩
/-- names alone as targets keep what is frozen -/
theorem gs_name {x : Str} {d : D} {ds : List D} {ts : List Expr} {R : List Sl → Prop} {i : Nat} (hN : At N i x) (h : Nx ρ i (fun ρ' => EvGs c ts ds ρ' R) (.va d))
    (hs : ∀ env, (assignEach (.Name x pos :: ts) env).map (·.2) = assign (.Name x pos) env :: (assignEach ts env).map (·.2) := by intro _; with_unfolding_all rfl) (hf : bk = false ∨ sc.names.lookup x = some .local := by first | exact .inl rfl | exact .inr (by with_unfolding_all rfl)) : EvGs c (.Name x pos :: ts) (d :: ds) ρ R := fun σ H Hf vs Q S r q pins s us I rv => by
  obtain ⟨ρ', hs', h⟩ := h
  rw [reps_cons] at r
  obtain ⟨v, vr, rfl, r1, r2⟩ := r
  have hp : PGs c.X ts (fun vs' σ' H' Q' => ∀ pins s us, Inv c.X pins σ' H' s → Vals vs' us → wpAny (model c.X.prog c.X.w) c.X.A (assignInOrder ((assignEach ts c.X.env).map (·.2)) us) (fun _ s' => ∃ σ'' H'', Inv c.X pins σ'' H'' s' ∧ Q' σ'' H'') c.X.xe s) :=
    fun pins s σ H vs us Q I r h => h pins s us I r
  refine pgs_cons (pg_name (X := c.X) (i := i) (by rw [c.eN]; exact c.nd) (by rw [c.eN]; exact hN.get) (by rw [c.esc]; exact c.vis x hN.mem) (c.fn x hf)) hp (hs _) pins s σ H _ us Q I rv ⟨v, vr, rfl, ?_⟩
  have S1 := S.set (i := i) (.refl S.sb) (r := .va d) (v := v) r1
  rw [← hs'.eq] at S1
  exact h _ H Hf vr Q S1 r2 q
theorem g_tup {ts : List Expr} {j : Nat} {d : D} {ds : List D} {R : List Sl → Prop} (he : d = .tup ds) (hl : ds.length = ts.length) (h : EvGs c ts ds ρ R)
    (hn : ∀ env, (assignEach ts env).length = ts.length := by intro _; with_unfolding_all rfl) (hst : ∀ env, (assignEach ts env).findIdx? (·.1) = none := by intro _; with_unfolding_all rfl) : EvG c (.Tuple ts j pos) d ρ R := fun σ H Hf v Q S r q => by
  subst he
  rw [rep_tup] at r
  obtain ⟨a, xs, rfl, h1, h2⟩ := r
  have hp : PGs c.X ts (fun vs' σ' H' Q' => ∀ pins s us, Inv c.X pins σ' H' s → Vals vs' us → wpAny (model c.X.prog c.X.w) c.X.A (assignInOrder ((assignEach ts c.X.env).map (·.2)) us) (fun _ s' => ∃ σ'' H'', Inv c.X pins σ'' H'' s' ∧ Q' σ'' H'') c.X.xe s) :=
    fun pins s σ H vs us Q I r h => h pins s us I r
  refine bG_of (pg_tup (X := c.X) (k := j) (n := ts.length) c.calm hp (hn _) (hst _)) ⟨a, xs, rfl, same_tup S.sb h1, by rw [← h2.length, hl], ?_⟩
  exact h σ H Hf xs Q S h2 fun σ' H' Hf' ρ' S' g' hR => q σ' H' Hf' ρ' S' g' hR
theorem s_asg {tg : Expr} (h : EvE c e ρ fun d => EvG c tg d ρ nx) (hs : ∀ env, swapsWithSole [tg] e pos.line env = pure false := by intro _; with_unfolding_all rfl) (hw : ∀ env, swappedStores [tg] e env = pure none := by intro _; with_unfolding_all rfl) (h1 : ∀ env, (assignEach [tg] env).map (·.2) = [assign tg env] := by intro _; with_unfolding_all rfl) : EvS c (.Assign [tg] e pos) ρ nx p := fun σ H Hf D S o =>
  bS_of (ps_asg pbE pbG (hs _) (hw _) (h1 _)) (h σ H Hf _ S fun d v H' Hf' hx r g => hx σ H' Hf' v _ (S.grw g) r fun σ' H2 Hf2 ρ' S' _ hR => o.nx σ' H2 Hf2 ρ' S' hR)
/-- a, b = x, y -/
theorem s_par {x y : Str} {px py pt : Pos} {kt k2 : Nat} {pt2 : Pos} {i j : Nat} (hNi : At N i x) (hNj : At N j y) (hij : i ≠ j) (h : EvE c a ρ fun d1 => EvE c b ρ fun d2 => Nx ρ i (fun ρ' => Nx ρ' j nx (.va d2)) (.va d1))
    (hx : sc.names.lookup x = some .local := by with_unfolding_all rfl) (hy : sc.names.lookup y = some .local := by with_unfolding_all rfl)
    (hw : ∀ env : Env, env.scope = sc → swappedStores [.Tuple [.Name x px, .Name y py] kt pt] (.Tuple [a, b] k2 pt2) env = pure (some [x, y]) := by (intro env he; cases env; cases he; with_unfolding_all rfl))
    (hs : ∀ env, swapsWithSole [.Tuple [.Name x px, .Name y py] kt pt] (.Tuple [a, b] k2 pt2) pos.line env = pure false := by intro _; with_unfolding_all rfl)
    (hst : ∀ env, starEach [a, b] env = (false, eval a env) :: starEach [b] env := by intro _; with_unfolding_all rfl) (hst2 : ∀ env, starEach [b] env = [(false, eval b env)] := by intro _; with_unfolding_all rfl) :
    EvS c (.Assign [.Tuple [.Name x px, .Name y py] kt pt] (.Tuple [a, b] k2 pt2) pos) ρ nx p := fun σ H Hf D S o =>
  bS_of (ps_par (X := c.X) (i := i) (j := j) c.calm (by rw [c.eN]; exact c.nd) (by rw [c.eN]; exact hNi.get) (by rw [c.eN]; exact hNj.get) hij (by rw [c.esc]; exact hx) (by rw [c.esc]; exact hy) (pa_cons pbE (pa_cons pbE pa_nil (hst2 _)) (hst _)) (hw _ c.esc) (hs _))
    (h σ H Hf _ S fun d1 v1 H1 Hf1 h1 r1 g1 => h1 σ H1 Hf1 _ (S.grw g1) fun d2 v2 H2 Hf2 ⟨ρ1, hs1, ρ2, hs2, h2⟩ r2 g2 => ⟨v1, v2, rfl, by
      have S2 := (S.grw (g1.trans g2)).set (i := i) (.refl g2.b) (r := .va d1) (v := v1) (Rep.mono g2.f d1 r1)
      rw [← hs1.eq] at S2
      have S3 := S2.set (i := j) (.refl g2.b) (r := .va d2) (v := v2) r2
      rw [← hs2.eq] at S3
      exact o.nx _ H2 Hf2 _ S3 h2⟩)

/-! ## while -/
theorem s_while {t : Expr} {body : List Stmt} (hq : c.X.xe = fun _ _ => False) (I : Nat → List Sl → Prop) {m₀ : Nat} (h0 : I m₀ ρ)
    (h : ∀ m ρ', I m ρ' → EvT c t ρ' (If2 (EvSs c body ρ' (fun r => ∃ m', m' < m ∧ I m' r) { ct := fun r => ∃ m', m' < m ∧ I m' r, bk := nx, rt := p.rt }) (nx ρ'))) :
    EvS c (.While t body [] pos) ρ nx p := fun σ H Hf D S o =>
  bS_of (ps_while (by rw [hq]; exact PassesOwn.never) pbT pbSs) ⟨fun m σ H => ∃ Hf ρ', StRep c σ H Hf ρ' ∧ I m ρ', ⟨m₀, Hf, ρ, S, h0⟩, fun m σ H ⟨Hf, ρ', S, hI⟩ => h m ρ' hI σ H Hf _ S fun x H' Hf' hx g => by
    cases x with
    | false => rw [if_neg Bool.false_ne_true]; exact o.nx σ H' Hf' ρ' (S.grw g) (hx.f rfl)
    | true =>
      rw [if_pos rfl]
      refine ⟨fun σ' H' => ∃ m', m' < m ∧ ∃ Hf ρ', StRep c σ' H' Hf ρ' ∧ I m' ρ', fun σ' H' ⟨m', hl, hh⟩ => ⟨m', hl, hh⟩, ?_⟩
      exact hx.t rfl σ H' Hf' _ (S.grw g) ⟨fun σ H Hf ρ S ⟨m', hl, hi⟩ => ⟨m', hl, Hf, ρ, S, hi⟩, o.rt, fun σ H Hf ρ S q => o.nx σ H Hf ρ S q, fun σ H Hf ρ S ⟨m', hl, hi⟩ => ⟨m', hl, Hf, ρ, S, hi⟩⟩⟩
end
end EV

set_option Elab.async false
set_option linter.all false
set_option maxRecDepth 100000
namespace EV
open PySem PySem.Spec PyProof.Rows L2

theorem sz_small {n : Nat} (h : n ≤ 1000) : n ≤ sizeLine := Nat.le_of_lt (small1000 h)
theorem dv_small {j : Int} (h : 0 < j) (h2 : j.natAbs.log2 < 9000) : DivOk j := ⟨h, h2⟩
/-! ## contracts -/
inductive Res where
  | ok (r : Sl)
  | ex (C : Addr)
/-- what a def tells of data handed in; all that stood stays -/
abbrev Fn := List D → Res → Prop
def spF (K : PySem.W.Frag) (F : Fn) : Sp := fun vs H Q E => ∃ Hf ds r, Same Hf H ∧ Reps K Hf ds vs ∧ F ds r ∧ match r with
  | .ok sl => ∀ v H' Hf', Grw H Hf H' Hf' → RepS K (fun p => H p = none) H' Hf' sl v → Q v H'
  | .ex C => ∀ a H', Same H H' → E (.ref C) (some a) H'
structure Cal (P : Program) (w : World) (K : PySem.W.Frag) (mg : Str → Option Value) (base : Heap) (k : Nat) (x : Str) (F : Fn) : Prop where
  ex : ∃ f fd ps, mg x = some (.ref f) ∧ PySem.W.keepIn K (.ref f) = true ∧ Binds K fd ps [] ∧ FnOk P w K mg base (CXE P w) k f fd ps (spF K F)
theorem Cal.mono {P : Program} {w : World} {K : PySem.W.Frag} {mg : Str → Option Value} {base : Heap} {j k : Nat} {x : Str} {F : Fn} (h : Cal P w K mg base j x F) (hl : j ≤ k) : Cal P w K mg base k x F := by
  obtain ⟨f, fd, ps, a, b, c, d⟩ := h.ex
  exact ⟨f, fd, ps, a, b, c, d.mono hl⟩

section
variable {P : Program} {w : World} {K : PySem.W.Frag} {mg : Str → Option Value} {base : Heap} {k : Nat} {N : List Str} {sc : Scope} {bk : Bool} {c : Ctx P w K mg base k N sc bk}
variable {a b e : Expr} {es rest : List Expr} {pos : Pos} {ρ : List Sl} {R : D → Prop} {T : Bool → Prop}

/-- what comes back of a call, as the caller wants it -/
def RsP (c : Ctx P w K mg base k N sc bk) (ρ : List Sl) (R : Sl → Prop) : Res → Prop
  | .ok sl => R sl
  | .ex C => c.RX C ρ
theorem run_cal {x : Str} {F : Fn} {j : Nat} (h : Cal P w K mg base j x F) (hj : j ≤ k) : ∃ f, mg x = some (.ref f) ∧ PySem.W.keepIn K (.ref f) = true ∧
    ∀ (pins : List (Addr × Obj)) (σ : L2.St) (H Hf : Hp) (s : Shared) (us : List Value) (vs : List V) (ds : List D) (r : Res) (Q : VK), Inv c.X pins σ H s → StRep c σ H Hf ρ → Vals vs us → Reps c.X.K Hf ds vs → F ds r →
      (∀ sl v H' Hf', r = .ok sl → RepS c.X.K (fun p => H p = none) H' Hf' sl v → Grw H Hf H' Hf' → Q v H') → (∀ C, r = .ex C → c.RX C ρ) → wpAny (model c.X.prog c.X.w) c.X.A (call (.ref f) us) (EP c.X pins σ Q) c.X.xe s := by
  obtain ⟨f, fd, ps, hm, hk, hb, hF⟩ := h.ex
  refine ⟨f, hm, hk, fun pins σ H Hf s us vs ds r Q I S rv rs hr q hx => ?_⟩
  have hF' : FnOk c.X.prog c.X.w c.X.K c.X.mg c.X.base (CXE c.X.prog c.X.w) k f fd ps (spF c.X.K F) := by rw [c.eP, c.ew, c.eK, c.emg, c.eb]; exact hF.mono hj
  have hsp : spF c.X.K F vs H Q (fun cv ao H' => ∃ C, r = .ex C ∧ cv = .ref C ∧ Same H H') := by
    refine ⟨Hf, ds, r, S.bas.b, rs, hr, ?_⟩
    cases r with
    | ok sl => exact fun v H' Hf' g rs2 => q sl v H' Hf' rfl rs2 g
    | ex C => exact fun a H' s2 => ⟨C, rfl, rfl, s2⟩
  have hl : us.length = ps.length := by rw [← rv.length]; exact hF'.len _ _ _ _ hsp
  have hb' : Binds c.X.K fd ps [] := by rw [c.eK]; exact hb
  have hb2 := hb' s us I.kIn (by simpa using hl)
  rw [List.append_nil] at hb2
  refine wpAny_call (codeAny_mono (hF'.run c.X.A c.X.stack s H ⟨us, []⟩ us vs Q _ c.room I.env0 hb2 rv hsp) fun r' s' hq => ?_)
  cases r' with
  | error e =>
    obtain ⟨a, C, H', rfl, hE, C', e1, e2, sm⟩ := hq
    cases e2
    exact c.exc C a pins σ H Hf ρ s H' s' I S (hx C e1) hE sm
  | ok fl =>
    cases fl with
    | ret u => exact I.after hq
    | next => exact False.elim hq
    | brk => exact False.elim hq
    | cont => exact False.elim hq
theorem x_call {x : Str} {p : Pos} {F : Fn} {j : Nat} {R : Sl → Prop} (h : Cal P w K mg base j x F) (hj : j ≤ k)
    (ha : EvA c (e :: es) ρ fun ds => ∃ r, F ds r ∧ RsP c ρ R r)
    (hg : sc.names.lookup x = some .globalImplicit := by with_unfolding_all rfl) (hdb : (x == ("__debug__" : Str)) = false := by decide) (he : ∀ env, starEach (e :: es) env = (false, eval e env) :: starEach es env := by intro _; with_unfolding_all rfl)
    (hpl : ∀ env, (backTo pos (starEach es env)).any (·.1) = false := by intro _; with_unfolding_all rfl) : EvX c (.Call (.Name x p) (e :: es) [] pos) ρ R := fun σ H Hf Q S q pins s I => by
  obtain ⟨f, hm, hk, run⟩ := run_cal (c := c) (ρ := ρ) h hj
  refine wpAny_Call_Name_kw (ld_glob I (by unfold Gl Env.kindOf; rw [c.esc]; exact hg) (by rw [c.emg]; exact hm) ?_ hdb)
  refine PySem.W.callWith_K (h₀ := c.X.base) I.ok.mod.kin (by rw [c.eK]; exact hk) (thn (ha σ H Hf (fun vs H1 => ∃ Hf1 ds, (∃ r, F ds r ∧ RsP c ρ R r) ∧ Reps c.X.K Hf1 ds vs ∧ Grw H Hf H1 Hf1) S (fun ds vs H1 Hf1 hr rs g => ⟨Hf1, ds, hr, rs, g⟩) pos pins s I) fun us s1 ⟨vs, H1, I1, rv, Hf1, ds, ⟨r, hF, hR⟩, rs, g⟩ => ⟨I1.kIn, ?_⟩) (he _) (hpl _)
  refine run pins σ H1 Hf1 s1 us vs ds r Q I1 (S.grw g) rv rs hF (fun sl v H' Hf' e1 rs2 g2 => ?_) fun C e1 => ?_
  · subst e1
    exact q sl v H' Hf' hR (rs2.weak fun p hp => g.s.free hp) (g.trans g2)
  · subst e1
    exact hR
/-- a def that tells a frozen value f of its arguments -/
theorem e_call {x : Str} {p : Pos} {F : Fn} {j : Nat} (h : Cal P w K mg base j x F) (hj : j ≤ k)
    (ha : EvA c (e :: es) ρ fun ds => ∃ r, F ds r ∧ RsP c ρ (FzP R) r)
    (hg : sc.names.lookup x = some .globalImplicit := by with_unfolding_all rfl) (hdb : (x == ("__debug__" : Str)) = false := by decide) (he : ∀ env, starEach (e :: es) env = (false, eval e env) :: starEach es env := by intro _; with_unfolding_all rfl)
    (hpl : ∀ env, (backTo pos (starEach es env)).any (·.1) = false := by intro _; with_unfolding_all rfl) : EvE c (.Call (.Name x p) (e :: es) [] pos) ρ R := e_x (x_call h hj ha hg hdb he hpl)

/-! ## the slots at the entry -/
def start0 (N : List Str) (ds : List D) : List Sl := ds.map .va ++ List.replicate (N.length - ds.length) .un
theorem st_start {K : PySem.W.Frag} {H₀ Hf₀ : Hp} {N : List Str} {vs : List V} {ds : List D} (r : Reps K Hf₀ ds vs) (sb : Same Hf₀ H₀) : StR K H₀ Hf₀ (L2.start N vs) H₀ Hf₀ (start0 N ds) := by
  have hl := r.length
  refine ⟨.refl sb, by simp [L2.start, start0, hl], fun i r' h hu => ?_, fun i j r1 r2 p hne h1 h2 o1 o2 => ?_⟩
  · by_cases q : i < ds.length
    · have e : (start0 N ds)[i]? = some (.va ds[i]) := by
        unfold start0
        rw [List.getElem?_append_left (by simpa using q)]; simp [q]
      rw [e] at h; cases h
      obtain ⟨x, e2, rx⟩ := r.get (i := i) (d := ds[i]) (by simp)
      refine ⟨x, ?_, rx⟩
      unfold L2.start
      rw [List.getElem?_append_left (by simp; omega)]
      simp [e2]
    · unfold start0 at h
      rw [List.getElem?_append_right (by simp; omega)] at h
      have := List.mem_of_getElem? h
      exact absurd (List.eq_of_mem_replicate this) hu
  · exfalso
    unfold start0 at h1
    by_cases q : i < (ds.map Sl.va).length
    · rw [List.getElem?_append_left q] at h1
      rw [List.getElem?_map] at h1
      cases z : ds[i]? with
      | none => rw [z] at h1; cases h1
      | some d => rw [z] at h1; cases h1; cases o1
    · rw [List.getElem?_append_right (by omega)] at h1
      have e3 := List.eq_of_mem_replicate (List.mem_of_getElem? h1)
      subst e3; cases o1

/-- THE RULE for a def that raises nothing -/
theorem fn_q {x qual : Str} {st : Stmt} {f : Addr} {fd : FuncData} {ps : List Str} {k : Nat} {F : Fn} (Fu : Fun K x qual st f fd) (Sc : FnScope N ps (defScope st)) (Vi : ∀ x ∈ N, Loc (defScope st) x) (ar : ∀ ds r, F ds r → ds.length = ps.length)
    (hok : ∀ ds r, F ds r → ∃ sl, r = .ok sl)
    (body : ∀ (c : Ctx P w K mg base k N (defScope st) false), c.X.xe = (fun _ _ => False) → ∀ ds sl, F ds (.ok sl) → EvSs c (defBody st) (start0 N ds) (fun _ => sl = .va .non) { rt := fun r => r = sl }) :
    FnOk P w K mg base (CXE P w) (k + 1) f fd ps (spF K F) := by
  obtain ⟨oc, od, kV, doc, pm, an, cdv, ct, osl, rfl, lk, hcd⟩ := Fu.ex
  refine fn_of lk hcd Sc (fun vs H Q E ⟨Hf, ds, r, _, rs, hF, _⟩ => by rw [← rs.length]; exact ar _ _ hF) fun A outer s H vs Q E hr ⟨Hf, ds, r, sb, rs, hF, hq⟩ => ?_
  obtain ⟨sl, rfl⟩ := hok _ _ hF
  let X : Cx := (cxOf (CXE P w) P w K mg base N qual (defScope st) f cdv A outer s H E).nox
  let c : Ctx P w K mg base k N (defScope st) false :=
    { X := X, eP := rfl, ew := rfl, eK := rfl, emg := rfl, eb := rfl, eN := rfl, esc := rfl, calm := rfl, top := fun _ => ⟨rfl, rfl, rfl⟩, cb := fun _ _ _ _ _ I x c h => I.ok.cab x c rfl h, fn := fun _ _ => .inl rfl, B := H, room := hr, nd := Sc.nd, vis := Vi, Hf := Hf, RX := fun _ _ => False,
      exc := fun _ _ _ _ _ _ _ _ _ _ _ _ h _ _ => h.elim, RM := fun _ _ => False, mde := fun _ _ _ _ _ _ _ _ _ _ _ _ h _ => h.elim }
  refine ⟨_, PSs.nox (t := bSs X (defBody st)) (pbSs (X := X)), ?_⟩
  refine body c rfl ds sl hF (L2.start N vs) H Hf _ (st_start rs sb) ⟨fun σ H' Hf' ρ S e => ?_, fun r v H' Hf' g rv e => ?_, fun _ _ _ _ _ h => h.elim, fun _ _ _ _ _ h => h.elim⟩
  · subst e
    exact hq .non H' Hf' S.bas (show Rep K Hf' .non .non from rep_non.mpr rfl)
  · have e : r = sl := e
    subst e
    exact hq v H' Hf' g rv

/-! ## built-in functions -/
theorem reps1 {K : PySem.W.Frag} {H : Hp} {d : D} {vs : List V} (h : Reps K H [d] vs) : ∃ v, vs = [v] ∧ Rep K H d v := by
  rw [reps_cons] at h
  obtain ⟨x, r, rfl, h1, h2⟩ := h
  rw [reps_nil] at h2; subst h2
  exact ⟨x, rfl, h1⟩
/-- .. a frozen value out -/
def CalE (K : PySem.W.Frag) (r : List V → Hp → VK → Prop) (p : List D → (D → Prop) → Prop) : Prop :=
  ∀ (ds : List D) (vs : List V) (H Hf : Hp) (Q : VK) (R : D → Prop), Same Hf H → Reps K Hf ds vs → p ds R → (∀ d v H' Hf', R d → Rep K Hf' d v → Grw H Hf H' Hf' → Q v H') → r vs H Q
theorem e_blt {x : Str} {id : String} {p : Pos} {r : List V → Hp → VK → Prop} {q : List D → (D → Prop) → Prop} (hc : CallR c.X (.builtin id) r) (hd : CalE c.X.K r q) (hm : mg x = none) (hv : bootBuiltins x = some (.builtin id))
    (ha : EvA c (e :: es) ρ fun ds => q ds R) (hg : sc.names.lookup x = some .globalImplicit) (hn : x ≠ "__name__") (hdb : (x == ("__debug__" : Str)) = false)
    (he : ∀ env, starEach (e :: es) env = (false, eval e env) :: starEach es env) (hpl : ∀ env, (backTo pos (starEach es env)).any (·.1) = false) : EvE c (.Call (.Name x p) (e :: es) [] pos) ρ R := fun σ H Hf Q S qq =>
  bE_of (pe_callB hc (by unfold Gl Env.kindOf; rw [c.esc]; exact hg) (by rw [c.emg]; exact hm) hv pbA hn hdb (he _) (hpl _))
    (ha σ H Hf _ S fun ds vs H1 Hf1 h1 rs g => hd ds vs H1 Hf1 Q R g.b rs h1 fun z v' H' Hf' hz rz g2 => qq z v' H' Hf' hz rz (g.trans g2))
theorem e_bty {x : Str} {id : String} {p : Pos} {r : List V → Hp → VK → Prop} {q : List D → (D → Prop) → Prop} (hc : CallR c.X (.type id) r) (hd : CalE c.X.K r q) (hm : mg x = none) (hv : bootBuiltins x = some (.type id))
    (ha : EvA c (e :: es) ρ fun ds => q ds R) (hg : sc.names.lookup x = some .globalImplicit) (hn : x ≠ "__name__") (hdb : (x == ("__debug__" : Str)) = false)
    (he : ∀ env, starEach (e :: es) env = (false, eval e env) :: starEach es env) (hpl : ∀ env, (backTo pos (starEach es env)).any (·.1) = false) : EvE c (.Call (.Name x p) (e :: es) [] pos) ρ R := fun σ H Hf Q S qq =>
  bE_of (pe_callTy hc (by unfold Gl Env.kindOf; rw [c.esc]; exact hg) (by rw [c.emg]; exact hm) hv pbA hn hdb (he _) (hpl _))
    (ha σ H Hf _ S fun ds vs H1 Hf1 h1 rs g => hd ds vs H1 Hf1 Q R g.b rs h1 fun z v' H' Hf' hz rz g2 => qq z v' H' Hf' hz rz (g.trans g2))
/-- one int in, a plain value out -/
theorem calE_1 {K : PySem.W.Frag} {f : Int → D} {g : Int → V} (hf : ∀ i H, Rep K H (f i) (g i)) : CalE K (fun xs H Q => ∃ i, xs = [V.int i] ∧ Q (g i) H) (fun ds R => ∃ i, ds = [.int i] ∧ R (f i)) := by
  rintro ds vs H Hf Q R s rs ⟨i, rfl, hR⟩ q
  obtain ⟨v, rfl, rv⟩ := reps1 rs
  rw [rep_int] at rv; subst rv
  exact ⟨i, rfl, q _ _ H Hf hR (hf i Hf) (.refl s)⟩
section
variable {p : Pos}
theorem e_abs (hm : mg (Str.ofString "abs") = none) (h : EvE c e ρ (I1 fun i => R (.int (if i < 0 then -i else i)))) (hg : sc.names.lookup (Str.ofString "abs") = some .globalImplicit := by with_unfolding_all rfl)
    (he : ∀ env, starEach [e] env = (false, eval e env) :: starEach [] env := by intro _; with_unfolding_all rfl) : EvE c (.Call (.Name (Str.ofString "abs") p) [e] [] pos) ρ R :=
  e_blt call_abs (calE_1 (f := fun i => .int (if i < 0 then -i else i)) fun i H => rep_int.mpr rfl) hm PyProof.Rows.boot_abs (a_cons (h.imp fun d ⟨i, e, r⟩ => a_nil ⟨i, by rw [e], r⟩) he) hg (by decide) (by decide) he (by intro _; rfl)
end
end
end EV

set_option Elab.async false
set_option linter.all false
set_option maxRecDepth 100000
namespace EV
open PySem PySem.Spec PySem.Calls PyProof.Rows L2

/-! ## exceptions of classes of one's own: an exception leaves a def's frame -/
section
variable {P : Program} {w : World} {K : PySem.W.Frag} {mg : Str → Option Value} {base : Heap} {N : List Str} {qual : Str} {scope : Scope} {f : Addr} {cd : Value} {A : Around} {outer : List Env} {s : Shared} {H : Hp} {E : XK}




/-! ## a part that raises nothing, in a def that may -/
def Ctx.nox {k : Nat} {sc : Scope} {bk : Bool} (c : Ctx P w K mg base k N sc bk) : Ctx P w K mg base k N sc bk :=
  { X := c.X.nox, eP := c.eP, ew := c.ew, eK := c.eK, emg := c.emg, eb := c.eb, eN := c.eN, esc := c.esc, calm := c.calm, top := c.top, cb := fun hb pins σ H s I => c.cb hb pins σ H s I.unwish, fn := c.fn, room := c.room, nd := c.nd, vis := c.vis, B := c.B, Hf := c.Hf, RX := fun _ _ => False, RM := fun _ _ => False,
    exc := fun _ _ _ _ _ _ _ _ _ _ _ _ h _ _ => h.elim, mde := fun _ _ _ _ _ _ _ _ _ _ _ _ h _ => h.elim }
end

/-! ## raise C(..), C a class of one's own beneath ValueError -/
section
variable {P : Program} {w : World} {K : PySem.W.Frag} {mg : Str → Option Value} {base : Heap} {k : Nat} {N : List Str} {sc : Scope} {bk : Bool} {c : Ctx P w K mg base k N sc bk} {ρ : List Sl} {nx : List Sl → Prop} {p : Pt} {pos np cpos : Pos} {e : Expr}
end
end EV

set_option Elab.async false
set_option linter.all false
set_option maxRecDepth 100000
namespace EV
open PySem PySem.Spec PySem.Calls PyProof.Rows L2
open PySem.W Builtin Builtin.ObjectAttr Builtin.Getset_descriptor

/-! ## isinstance of an exception of a class of one's own -/
structure ExK (K : PySem.W.Frag) (C : Addr) : Prop where
  ga : PySem.W.findIn K (.ref C) "__getattribute__" = some (some (.builtin "BaseException.__getattribute__"))
  hk : PySem.W.findIn K (.ref C) "__getattr__" = some none
  ca : PySem.W.findIn K (.ref C) "__class__" = some (some (.builtin "object.__class__"))
  gt : PySem.W.specialIn K (.builtin "object.__class__") "__get__" = some (some (.builtin "getset_descriptor.__get__"))
  tk : PySem.W.takesIn K (.builtin "object.__class__") = some true
  mo : PySem.W.mroIn K C (.type "object") = some true
  mb : PySem.W.mroIn K C (.type "BaseException") = some true

section
variable {prog : Program} {w : World} {A : Around} {E : Value → Shared → Prop} {s : Shared} {K : PySem.W.Frag} {x C : Addr} {R : Result → Shared → Prop}
theorem ex_type {M : Model} {h : Heap} (p : excP x C h) : Looks M h (typeOf (.ref x)) (.ref C) := by
  obtain ⟨o, ho, hc, _⟩ := p
  rw [← hc]
  exact (Looks.ld ho).andThen .now
theorem exc_class_get {tp : Value} (X : K.In s.heap) (L : Looks (model prog w) s.heap (typeOf (.ref x)) (.ref C)) (hm : PySem.W.mroIn K C (.type "object") = some true)
    (h : R (.ok (.ret (.ref C))) s) : codeAny (model prog w) A (.call (.builtin "getset_descriptor.__get__") ⟨[.builtin "object.__class__", .ref x, tp], []⟩) R s := by
  obtain ⟨hh, g, dr, t, os⟩ := s
  have L0 := L
  have L1 := looks_mroIn (M := model prog w) X hm
  refine codeAny_call_builtin KF.slot_gs.plain KF.entry_gs (KF.slot_gs.check _ _ _ _ _ _ _ _ KF.type_class (KF.args_gs _ _ _) ?_)
  unfold Builtin.«getset_descriptor.__get__» descrGet
  rw [dga_obj]
  refine wpAny_bind (wpAny_pure ?_)
  unfold descrGetter descrCheckInstance descrNameAndClass isInstance
  simp only [KF.owner_class]
  repeat lk
  refine ⟨Code.quiet_builtin _ (by decide +kernel), codeAny_builtin KF.entry_class ?_⟩
  unfold Builtin.«object.__class__» shownTypeOf
  repeat lk
  exact h
theorem exc_find {M : Model} {h : Heap} (X : K.In h) (k : ExK K C) : Looks M h (find (.ref x) (.ref C) "__class__") (.bind (.builtin "getset_descriptor.__get__") (.builtin "object.__class__")) := by
  have L1 := looks_findIn (M := M) X k.ca
  have L2 : Looks M h (getOf (some (.builtin "object.__class__"))) (some (.builtin "getset_descriptor.__get__")) := looks_specialIn X k.gt
  have L3 := looks_takesIn (M := M) X k.tk
  unfold find
  refine L1.andThen (L2.andThen ?_)
  refine Looks.andThen (a := some (.builtin "getset_descriptor.__get__", .builtin "object.__class__")) ?_ (Looks.tag .now)
  unfold dataDescriptor?
  exact L3.andThen .now
theorem exc_class {Q : Option Value → Shared → Prop} (X : K.In s.heap) (p : excP x C s.heap) (k : ExK K C) (h : Q (some (.ref C)) { s with toks := s.toks + 1 }) : wpAny (model prog w) A (getAttr? (.ref x) "__class__") Q E s := by
  obtain ⟨hh, g, d, t, os⟩ := s
  have L0 : Looks (model prog w) hh (typeOf (.ref x)) (.ref C) := ex_type p
  have L1 := looks_findIn (M := model prog w) X k.ga
  have L2 := looks_findIn (M := model prog w) X k.hk
  have L3 := looks_mroIn (M := model prog w) X k.mb
  have L4 := exc_find (M := model prog w) (x := x) X k
  unfold getAttr? getAttrBy? getAttrBy
  refine wpAny_bind (wpAny_mkText (wpAny_bind (wpAny_attempt (wpAny_holding (wpAny_bind (L0.at (wpAny_bind (L1.at ?_))))))))
  dsimp only
  have hx2 : (Value.builtin "BaseException.__getattribute__" == Value.builtin "object.__getattribute__") = false := by decide +kernel
  rw [hx2, Bool.and_false, if_neg Bool.false_ne_true]
  unfold getAttrByItsOwn hookBefore
  rw [if_pos (by rfl)]
  refine wpAny_bind (L2.at ?_)
  refine wpAny_bind (wpAny_attempt (wpAny_holding ?_))
  unfold callGetattribute
  rw [if_neg (by simp)]
  unfold boundAndCalled
  have f3 := PySem.F.attrBase_ValueError.ga.bind (.ref x)
  rw [f3]
  refine wpAny_bind (wpAny_pure ?_)
  refine wpAny_call (codeAny_call_builtin PySem.F.attrBase_ValueError.ga.plain PySem.F.entry_bexc_ga ?_)
  have hk : builtinKind "BaseException.__getattribute__" = some .slot := by decide +kernel
  have hsplit : splitId "BaseException.__getattribute__" = some ("BaseException", "__getattribute__") := by decide +kernel
  have ha := PySem.F.args_bexc_ga (.ref x) (Value.str (Str.ofString "__class__") t)
  simp only [checkBuiltinCall, hk, hsplit]
  dsimp only [List.cons_append, List.nil_append]
  have LI : Looks (model prog w) hh (isInstance (.ref x) (.type "BaseException")) true := L0.andThen L3
  refine wpAny_bind (LI.at ?_)
  rw [if_neg (by decide)]
  refine wpAny_mono (Q := fun _ s1 => s1 = ⟨hh, g, d, t + 1, os⟩) (E := fun _ _ => False) ?_ (fun _ s1 e1 => ?_) (fun _ _ z => z.elim)
  · repeat (any_goals (first | assumption | rfl | wp_step))
  subst e1
  unfold «object.__getattribute__»
  repeat (first | with_reducible refine wpAny_call ?_ | lk)
  refine exc_class_get X L0 k.mo ?_
  repeat lk
  exact h
theorem kitx_exc (k : ExK K C) : PySem.W.KitX K (.ref x) (.ref C) (excP x C) where
  ty := fun _ _ _ p => ex_type p
  it := fun _ _ X _ => by
    have hdct : ∃ cd, PySem.W.clsIn K C = some cd := by
      obtain ⟨cd, h1, _⟩ := Option.bind_eq_some_iff.mp (show (PySem.W.clsIn K C).bind _ = some true from k.mo)
      exact ⟨cd, h1⟩
    obtain ⟨cdD, hcD⟩ := hdct
    unfold PySem.W.clsIn at hcD
    split at hcD
    · rename_i c' d' cd' sl' ho
      intro A' Q' E' s' k q
      unfold isType loadHead
      exact wpAny_bind (wpAny_loadPart (k _ _ (X _ _ ho)) (wpAny_pure q))
    · cases hcD
  ne := fun h tp dd its n sl X htp => by
    obtain ⟨cdD, hcD, _⟩ := Option.bind_eq_some_iff.mp (show (PySem.W.clsIn K C).bind _ = some true from k.mo)
    refine Bool.eq_false_iff.mpr fun q => ?_
    have e : C = tp := Value.ref.inj (beq_iff_eq.mp q)
    subst e
    unfold PySem.W.clsIn at hcD
    split at hcD
    · rename_i c' d' cd' sl' ho
      have z := (X _ _ ho).symm.trans htp
      cases z
    · cases hcD
  ca := fun X p h => exc_class X p k h
end

/-- the type of a datum -/
inductive TyD (K : PySem.W.Frag) : D → Value → Prop where
  | non : TyD K .non (.type "NoneType")
  | bl {x : Bool} : TyD K (.bl x) (.type "bool")
  | int {i : Int} : TyD K (.int i) (.type "int")
  | str {x : Str} : TyD K (.str x) (.type "str")
  | lst {ds : List EV.D} : TyD K (.lst ds) (.type "list")
  | tup {ds : List EV.D} : TyD K (.tup ds) (.type "tuple")
  | exc {C : Addr} (k : ExK K C) : TyD K (.exc C) (.ref C)
section
variable {X : Cx} {pins : List (Addr × Obj)} {σ : L2.St} {H Hf : Hp} {s : Shared} {A : Around} {E : Value → Shared → Prop} {Q : Value → Shared → Prop} {cv t : Value} {b : Bool}
theorem isin_ok {d : EV.D} {v : V} {u : Value} (I : Inv X pins σ H s) (sb : Same Hf H) (rx : RelV v u) (rd : Rep X.K Hf d v) (ty : TyD X.K d t) (e : PySem.W.kitOne X.K t cv = some b) (h : ∀ tk, Q (.bool b) { s with toks := tk }) :
    wpAny (model X.prog X.w) A (call (.builtin "isinstance") [u, cv]) Q E s := by
  cases ty with
  | non => rw [rep_non] at rd; subst rd; cases (show u = Value.none from rx); exact PySem.W.kia_one PySem.W.kitx_none I.kIn True.intro e (fun z => nomatch z) h
  | bl => rw [rep_bl] at rd; subst rd; cases (show u = Value.bool _ from rx); exact PySem.W.kia_one PySem.W.kitx_bool I.kIn True.intro e (fun z => nomatch z) h
  | int => rw [rep_int] at rd; subst rd; obtain ⟨t, q⟩ := (show ∃ t, u = Value.int _ t from rx); cases q; exact PySem.W.kia_one PySem.W.kitx_int I.kIn True.intro e (fun z => nomatch z) h
  | str => rw [rep_str] at rd; subst rd; obtain ⟨t, q⟩ := (show ∃ t, u = Value.str _ t from rx); cases q; exact PySem.W.kia_one PySem.W.kitx_str I.kIn True.intro e (fun z => nomatch z) h
  | lst =>
    rw [rep_lst] at rd
    obtain ⟨a, xs, rfl, h1, _⟩ := rd
    cases (show u = Value.ref a from rx)
    obtain ⟨its, _, p, _⟩ := I.list (sb.seq h1)
    obtain ⟨o, n1, p1, p2, _⟩ := p
    exact PySem.W.kia_one PySem.W.kitx_list I.kIn ⟨o, p1, p2⟩ e (fun z => nomatch z) h
  | tup =>
    rw [rep_tup] at rd
    obtain ⟨a, xs, rfl, h1, _⟩ := rd
    cases (show u = Value.ref a from rx)
    obtain ⟨its, _, p, _⟩ := I.tuple (same_tup sb h1)
    obtain ⟨o, p1, p2, _⟩ := p
    exact PySem.W.kia_one PySem.W.kitx_tuple I.kIn ⟨o, p1, p2⟩ e (fun z => nomatch z) h
  | @exc C k =>
    rw [rep_exc] at rd
    obtain ⟨a, rfl, h1⟩ := rd
    cases (show u = Value.ref a from rx)
    have p : excP a C s.heap := (show ObjOk X.prog X.w H s.heap a (.ext (excP a C)) from I.hok a _ (sb _ _ h1)).1
    exact PySem.W.kia_one (kitx_exc k) I.kIn p e (fun z => nomatch z) h
end
section
variable {P : Program} {w : World} {K : PySem.W.Frag} {mg : Str → Option Value} {base : Heap} {k : Nat} {N : List Str} {sc : Scope} {bk : Bool} {c : Ctx P w K mg base k N sc bk} {ρ : List Sl} {pos np cp : Pos} {e : Expr} {R : EV.D → Prop}
/-- a class by its name: one of one's own, or a built-in type -/
def ClsName (mg : Str → Option Value) (x : Str) (cv : Value) : Prop := (∃ C, cv = .ref C ∧ mg x = some (.ref C)) ∨ (∃ T, cv = .type T ∧ mg x = none ∧ bootBuiltins x = some (.type T) ∧ x ≠ "__name__")
theorem boot_isin : bootBuiltins (Str.ofString "isinstance") = some (.builtin "isinstance") := by decide +kernel
theorem e_isin {x : Str} {cv : Value} (hm : mg (Str.ofString "isinstance") = none) (hc : ClsName mg x cv) (h : EvE c e ρ fun d => ∃ t b, TyD K d t ∧ PySem.W.kitOne K t cv = some b ∧ R (.bl b))
    (hgi : sc.names.lookup (Str.ofString "isinstance") = some .globalImplicit := by with_unfolding_all rfl) (hgx : sc.names.lookup x = some .globalImplicit := by with_unfolding_all rfl) (hdx : (x == ("__debug__" : Str)) = false := by decide)
    (he : ∀ env, starEach [e, .Name x cp] env = (false, eval e env) :: starEach [.Name x cp] env := by intro _; with_unfolding_all rfl) (he2 : ∀ env, starEach [.Name x cp] env = [(false, eval (.Name x cp) env)] := by intro _; with_unfolding_all rfl)
    (hpl : ∀ env, (backTo pos (starEach [.Name x cp] env)).any (·.1) = false := by intro _; with_unfolding_all rfl) : EvE c (.Call (.Name (Str.ofString "isinstance") np) [e, .Name x cp] [] pos) ρ R := fun σ H Hf Q S q pins s I => by
  refine wpAny_Call_Name_kw (ld_blt I (by unfold Gl Env.kindOf; rw [c.esc]; exact hgi) (by rw [c.emg]; exact hm) boot_isin ?_ (by decide) (by decide))
  -- the class is read behind the value
  have hx : ∀ (s1 : Shared) (H1 : Hp) (Q' : Value → Shared → Prop), Inv c.X pins σ H1 s1 → Q' cv s1 → wpAny (model c.X.prog c.X.w) c.X.A (eval (.Name x cp) c.X.env) Q' c.X.xe s1 := fun s1 H1 Q' I1 q' => by
    rcases hc with ⟨C, rfl, hm'⟩ | ⟨T, rfl, hm', hb, hn⟩
    · exact ld_glob I1 (by unfold Gl Env.kindOf; rw [c.esc]; exact hgx) (by rw [c.emg]; exact hm') q' hdx
    · exact ld_blt I1 (by unfold Gl Env.kindOf; rw [c.esc]; exact hgx) (by rw [c.emg]; exact hm') hb q' hn hdx
  refine PyProof.Rows.callWith_builtin1 (spliced_more (h σ H Hf (fun v H1 => ∃ d Hf1, (∃ t b, TyD K d t ∧ PySem.W.kitOne K t cv = some b ∧ R (.bl b)) ∧ Rep c.X.K Hf1 d v ∧ Grw H Hf H1 Hf1) S (fun d v H' Hf' hR r g => ⟨d, Hf', hR, r, g⟩) pins s I |> (thn · fun u s1 ⟨v, H1, I1, rv, d, Hf1, ⟨t, b, ty, ek, hR⟩, rd, g⟩ => ?_)) (he _)) (he _) (hpl _)
  refine spliced_more (hx s1 H1 _ I1 (spliced_none ?_)) (he2 _)
  refine isin_ok I1 g.b rv rd (by rw [c.eK]; exact ty) (by rw [c.eK]; exact ek) fun tk => ?_
  exact ⟨.bl b, H1, I1.tok tk, rfl, q _ _ H1 Hf1 hR (rep_bl.mpr rfl) g⟩
end
end EV

set_option Elab.async false
set_option linter.all false
set_option maxRecDepth 100000
namespace EV
open PySem PySem.Spec PySem.Calls PyProof.Rows L2

/-! ## == and != of data, to any depth -/
section
variable {X : Cx} {pins : List (Addr × Obj)} {σ : L2.St} {H Hf : Hp} {s : Shared}
theorem eqo_inj (I : Inv X pins σ H s) (sb : Same Hf H) : ∀ (n : Nat) (d e : D) (v : V), EqO n d e → Rep X.K Hf d v → Rep X.K Hf e v → d = e := by
  intro n
  induction n with
  | zero =>
    intro d e v h r1 r2
    cases h with
    | sc h => cases d <;> cases e <;> simp [scalD] at h <;> simp_all [Rep]
    | ln => rw [rep_non] at r2; subst r2; rw [rep_lst] at r1; obtain ⟨_, _, e, _⟩ := r1; cases e
    | nl => rw [rep_non] at r1; subst r1; rw [rep_lst] at r2; obtain ⟨_, _, e, _⟩ := r2; cases e
    | tn => rw [rep_non] at r2; subst r2; rw [rep_tup] at r1; obtain ⟨_, _, e, _⟩ := r1; cases e
    | nt => rw [rep_non] at r1; subst r1; rw [rep_tup] at r2; obtain ⟨_, _, e, _⟩ := r2; cases e
  | succ n ih =>
    have els : ∀ (ds es : List D) (xs : List V), (∀ (i : Nat) (d e : D), ds[i]? = some d → es[i]? = some e → EqO n d e) → Reps X.K Hf ds xs → Reps X.K Hf es xs → ds = es := fun ds es xs h q1 q2 => by
      apply List.ext_getElem?
      intro i
      cases a : ds[i]? with
      | none =>
        have : ds.length ≤ i := by simpa using a
        symm
        rw [List.getElem?_eq_none_iff, q2.length, ← q1.length]; exact this
      | some d =>
        obtain ⟨x, ex, rx⟩ := q1.get a
        obtain ⟨e, ee, re⟩ := q2.get' ex
        rw [ee, ih d e x (h i d e a ee) rx re]
    intro d e v h r1 r2
    cases h with
    | sc h => cases d <;> cases e <;> simp [scalD] at h <;> simp_all [Rep]
    | ln => rw [rep_non] at r2; subst r2; rw [rep_lst] at r1; obtain ⟨_, _, e, _⟩ := r1; cases e
    | nl => rw [rep_non] at r1; subst r1; rw [rep_lst] at r2; obtain ⟨_, _, e, _⟩ := r2; cases e
    | tn => rw [rep_non] at r2; subst r2; rw [rep_tup] at r1; obtain ⟨_, _, e, _⟩ := r1; cases e
    | nt => rw [rep_non] at r1; subst r1; rw [rep_tup] at r2; obtain ⟨_, _, e, _⟩ := r2; cases e
    | tup h =>
      rw [rep_tup] at r1 r2
      obtain ⟨a, xs, rfl, p1, q1⟩ := r1
      obtain ⟨a', ys, e', p2, q2⟩ := r2
      cases e'
      have := I.tuple_inj (same_tup sb p1) (same_tup sb p2)
      subst this
      rw [els _ _ _ h q1 q2]
    | lst h =>
      rw [rep_lst] at r1 r2
      obtain ⟨a, xs, rfl, p1, q1⟩ := r1
      obtain ⟨a', ys, e', p2, q2⟩ := r2
      cases e'
      have := I.list_inj (sb.seq p1) (sb.seq p2)
      subst this
      rw [els _ _ _ h q1 q2]
theorem dec_beq {α : Type} [BEq α] [LawfulBEq α] {a b : α} {i : Decidable (a = b)} : (a == b) = @decide (a = b) i := by
  by_cases h : a = b
  · subst h; simp
  · simp [h]
theorem all_range {ds es : List D} {n m : Nat} (hn : ds.length = n) (hm : es.length = m) (h : n = m) : ((List.range n).all fun j => decide (ds[j]? = es[j]?)) = decide (ds = es) := by
  rw [Bool.eq_iff_iff, List.all_eq_true]
  simp only [List.mem_range, decide_eq_true_eq]
  constructor
  · intro q
    apply List.ext_getElem?
    intro i
    by_cases hi : i < n
    · exact q i hi
    · rw [List.getElem?_eq_none (by omega), List.getElem?_eq_none (by omega)]
  · rintro rfl; intro _ _; rfl
theorem eqAt_sc {x y : D} {v v' : V} {u u' : Value} {A : Around} (h : scalD x y = true) (r1 : Rep X.K Hf x v) (r2 : Rep X.K Hf y v') (e1 : RelV v u) (e2 : RelV v' u') : SeqAt.EqAt A s u u' (decide (x = y)) := by
  cases x <;> cases y <;> simp [scalD] at h <;> simp only [rep_int, rep_bl, rep_non, rep_str] at r1 r2 <;> subst r1 <;> subst r2
  case non.non => cases e1; cases e2; simpa using SeqAt.EqAt.same _
  case non.bl b => cases e1; cases e2; simpa using SeqAt.EqAt.none_bool (A := A) (s := s) b
  case non.int i => cases e1; obtain ⟨t, rfl⟩ := e2; simpa using SeqAt.EqAt.none_int (A := A) (s := s) i t
  case non.str i => cases e1; obtain ⟨t, rfl⟩ := e2; simpa using SeqAt.EqAt.none_str (A := A) (s := s) i t
  case bl.non b => cases e1; cases e2; simpa using SeqAt.EqAt.bool_none (A := A) (s := s) b
  case bl.bl a b => cases e1; cases e2; have q := SeqAt.EqAt.bool_bool (A := A) (s := s) a b; rw [dec_beq (i := inferInstance)] at q; simpa using q
  case bl.str a b => cases e1; obtain ⟨t, rfl⟩ := e2; simpa using SeqAt.EqAt.bool_str (A := A) (s := s) a b t
  case int.non a => obtain ⟨t, rfl⟩ := e1; cases e2; simpa using SeqAt.EqAt.int_none (A := A) (s := s) a t
  case int.int a b => obtain ⟨t, rfl⟩ := e1; obtain ⟨t', rfl⟩ := e2; have q := SeqAt.EqAt.int_int (A := A) (s := s) a t b t'; rw [dec_beq (i := inferInstance)] at q; simpa using q
  case int.str a b => obtain ⟨t, rfl⟩ := e1; obtain ⟨t', rfl⟩ := e2; simpa using SeqAt.EqAt.int_str (A := A) (s := s) a t b t'
  case str.non a => obtain ⟨t, rfl⟩ := e1; cases e2; simpa using SeqAt.EqAt.str_none (A := A) (s := s) a t
  case str.bl a b => obtain ⟨t, rfl⟩ := e1; cases e2; simpa using SeqAt.EqAt.str_bool (A := A) (s := s) a t b
  case str.int a b => obtain ⟨t, rfl⟩ := e1; obtain ⟨t', rfl⟩ := e2; simpa using SeqAt.EqAt.str_int (A := A) (s := s) a t b t'
  case str.str a b => obtain ⟨t, rfl⟩ := e1; obtain ⟨t', rfl⟩ := e2; have q := SeqAt.EqAt.str_str (A := A) (s := s) a t b t'; rw [dec_beq (i := inferInstance)] at q; simpa using q
theorem in1_units (A : Around) : A.in1.units = A.units + 1 := rfl
theorem dec_tup {ds es : List D} : decide (D.tup ds = D.tup es) = decide (ds = es) := by simp
theorem dec_lst {ds es : List D} : decide (D.lst ds = D.lst es) = decide (ds = es) := by simp
/-- the items' answers -/
theorem els_at (I : Inv X pins σ H s) {n : Nat} {A : Around} {ds es : List D} {xs ys : List V} {us ws : List Value} (h : ∀ (i : Nat) (d e : D), ds[i]? = some d → es[i]? = some e → EqO n d e)
    (ih : ∀ (d e : D) (v v' : V) (u u' : Value) (A : Around), EqO n d e → Rep X.K Hf d v → Rep X.K Hf e v' → RelV v u → RelV v' u' → A.units + n < cLine → SeqAt.EqAt A s u u' (decide (d = e)))
    (q1 : Reps X.K Hf ds xs) (q2 : Reps X.K Hf es ys) (r1 : Vals xs us) (r2 : Vals ys ws) (hu : A.in1.units + n < cLine) :
    ∀ j (h1 : j < us.toArray.size) (h2 : j < ws.toArray.size), SeqAt.EqAt A.in1 s us.toArray[j] ws.toArray[j] (decide (ds[j]? = es[j]?)) := fun j h1 h2 => by
  have l1 := q1.length
  have l2 := q2.length
  have m1 := r1.length
  have m2 := r2.length
  simp only [List.size_toArray] at h1 h2
  have hd : ds[j]? = some ds[j] := List.getElem?_eq_getElem (by omega)
  have he : es[j]? = some es[j] := List.getElem?_eq_getElem (by omega)
  obtain ⟨x, ex, rx⟩ := q1.get hd
  obtain ⟨y, ey, ry⟩ := q2.get he
  obtain ⟨u, eu, ru⟩ := r1.get ex
  obtain ⟨u', eu', ru'⟩ := r2.get ey
  have z1 : us.toArray[j] = u := by
    have := List.getElem?_eq_getElem h1
    rw [this] at eu
    simpa using eu
  have z2 : ws.toArray[j] = u' := by
    have := List.getElem?_eq_getElem h2
    rw [this] at eu'
    simpa using eu'
  rw [z1, z2, hd, he]
  have q := ih _ _ x y u u' A.in1 (h j _ _ hd he) rx ry ru ru' hu
  simpa using q
theorem eqAt_deep (I : Inv X pins σ H s) (sb : Same Hf H) : ∀ (n : Nat) (d e : D) (v v' : V) (u u' : Value) (A : Around), EqO n d e → Rep X.K Hf d v → Rep X.K Hf e v' → RelV v u → RelV v' u' → A.units + n < cLine → SeqAt.EqAt A s u u' (decide (d = e)) := by
  have non : ∀ (n : Nat) (d e : D) (v v' : V) (u u' : Value) (A : Around), A.units < cLine → Rep X.K Hf d v → Rep X.K Hf e v' → RelV v u → RelV v' u' →
      ((∃ ds, d = .lst ds ∧ e = .non) ∨ (∃ ds, d = .non ∧ e = .lst ds) ∨ (∃ ds, d = .tup ds ∧ e = .non) ∨ (∃ ds, d = .non ∧ e = .tup ds)) → SeqAt.EqAt A s u u' (decide (d = e)) := by
    intro n d e v v' u u' A hu r1 r2 e1 e2 h
    rcases h with ⟨ds, rfl, rfl⟩ | ⟨ds, rfl, rfl⟩ | ⟨ds, rfl, rfl⟩ | ⟨ds, rfl, rfl⟩
    · rw [rep_non] at r2; subst r2; rw [rep_lst] at r1; obtain ⟨a, xs, rfl, p, _⟩ := r1; cases e1; cases e2
      obtain ⟨its, _, q, _⟩ := I.list (sb.seq p)
      simpa using SeqAt.EqAt.list_none (A := A) q.isList hu
    · rw [rep_non] at r1; subst r1; rw [rep_lst] at r2; obtain ⟨a, xs, rfl, p, _⟩ := r2; cases e1; cases e2
      obtain ⟨its, _, q, _⟩ := I.list (sb.seq p)
      simpa using SeqAt.EqAt.none_list (A := A) q.isList hu
    · rw [rep_non] at r2; subst r2; rw [rep_tup] at r1; obtain ⟨a, xs, rfl, p, _⟩ := r1; cases e1; cases e2
      obtain ⟨its, _, q, _⟩ := I.tuple (same_tup sb p)
      simpa using SeqAt.EqAt.tuple_none (A := A) (show s.heap.IsTuple a its.toArray from q) hu
    · rw [rep_non] at r1; subst r1; rw [rep_tup] at r2; obtain ⟨a, xs, rfl, p, _⟩ := r2; cases e1; cases e2
      obtain ⟨its, _, q, _⟩ := I.tuple (same_tup sb p)
      simpa using SeqAt.EqAt.none_tuple (A := A) (show s.heap.IsTuple a its.toArray from q) hu
  intro n
  induction n with
  | zero =>
    intro d e v v' u u' A h r1 r2 e1 e2 hu
    cases h with
    | sc h => exact eqAt_sc h r1 r2 e1 e2
    | ln => exact non 0 _ _ _ _ _ _ A (by omega) r1 r2 e1 e2 (.inl ⟨_, rfl, rfl⟩)
    | nl => exact non 0 _ _ _ _ _ _ A (by omega) r1 r2 e1 e2 (.inr (.inl ⟨_, rfl, rfl⟩))
    | tn => exact non 0 _ _ _ _ _ _ A (by omega) r1 r2 e1 e2 (.inr (.inr (.inl ⟨_, rfl, rfl⟩)))
    | nt => exact non 0 _ _ _ _ _ _ A (by omega) r1 r2 e1 e2 (.inr (.inr (.inr ⟨_, rfl, rfl⟩)))
  | succ n ih =>
    intro d e v v' u u' A h r1 r2 e1 e2 hu
    cases h with
    | sc h => exact eqAt_sc h r1 r2 e1 e2
    | ln => exact non 0 _ _ _ _ _ _ A (by omega) r1 r2 e1 e2 (.inl ⟨_, rfl, rfl⟩)
    | nl => exact non 0 _ _ _ _ _ _ A (by omega) r1 r2 e1 e2 (.inr (.inl ⟨_, rfl, rfl⟩))
    | tn => exact non 0 _ _ _ _ _ _ A (by omega) r1 r2 e1 e2 (.inr (.inr (.inl ⟨_, rfl, rfl⟩)))
    | nt => exact non 0 _ _ _ _ _ _ A (by omega) r1 r2 e1 e2 (.inr (.inr (.inr ⟨_, rfl, rfl⟩)))
    | @tup _ ds es h =>
      have hh := EqO.tup h
      have r1' := r1; have r2' := r2
      rw [rep_tup] at r1 r2
      obtain ⟨a, xs, rfl, p1, q1⟩ := r1
      obtain ⟨b, ys, rfl, p2, q2⟩ := r2
      cases e1; cases e2
      by_cases hab : a = b
      · subst hab
        have := eqo_inj I sb _ _ _ _ hh r1' r2'
        rw [this]
        simpa using SeqAt.EqAt.same _
      · obtain ⟨us, v1, t1, _⟩ := I.tuple (same_tup sb p1)
        obtain ⟨ws, v2, t2, _⟩ := I.tuple (same_tup sb p2)
        have key := SeqAt.RcAt.tuples (A := A) (s := s) (show s.heap.IsTuple a us.toArray from t1) (show s.heap.IsTuple b ws.toArray from t2) (by omega) (els_at I h ih q1 q2 v1 v2 (by rw [in1_units]; omega))
        have hl1 : us.toArray.size = ds.length := by simp [← v1.length, q1.length]
        have hl2 : ws.toArray.size = es.length := by simp [← v2.length, q2.length]
        have e : ((List.range (min us.toArray.size ws.toArray.size)).all (fun j => decide (ds[j]? = es[j]?)) && us.toArray.size == ws.toArray.size) = decide (D.tup ds = D.tup es) := by
          rw [dec_tup, hl1, hl2]
          by_cases hl : ds.length = es.length
          · rw [hl, Nat.min_self]
            simp only [beq_self_eq_true, Bool.and_true]
            exact all_range hl rfl rfl
          · have : ¬ ds = es := fun z => hl (by rw [z])
            simp [hl, this]
        rw [e] at key
        exact .of_refs hab key
    | @lst _ ds es h =>
      have hh := EqO.lst h
      have r1' := r1; have r2' := r2
      rw [rep_lst] at r1 r2
      obtain ⟨a, xs, rfl, p1, q1⟩ := r1
      obtain ⟨b, ys, rfl, p2, q2⟩ := r2
      cases e1; cases e2
      by_cases hab : a = b
      · subst hab
        have := eqo_inj I sb _ _ _ _ hh r1' r2'
        rw [this]
        simpa using SeqAt.EqAt.same _
      · obtain ⟨us, v1, t1, _⟩ := I.list (sb.seq p1)
        obtain ⟨ws, v2, t2, _⟩ := I.list (sb.seq p2)
        have hl1 : us.toArray.size = ds.length := by simp [← v1.length, q1.length]
        have hl2 : ws.toArray.size = es.length := by simp [← v2.length, q2.length]
        by_cases hl : ds.length = es.length
        · have key := SeqAt.RcAt.lists (A := A) (s := s) t1.isList t2.isList (by rw [hl1, hl2, hl]) (by omega) (els_at I h ih q1 q2 v1 v2 (by rw [in1_units]; omega))
          rw [hl1, all_range rfl hl.symm rfl, ← dec_lst] at key
          exact .of_refs hab key
        · have key := SeqAt.RcAt.lists_lengths (A := A) (s := s) t1.isList t2.isList (by rw [hl1, hl2]; simpa using hl) (by omega)
          have e : decide (D.lst ds = D.lst es) = false := by
            rw [dec_lst]; exact decide_eq_false fun z => hl (by rw [z])
          rw [e]
          exact .of_refs hab key
/-- == of lists, of tuples, as it stands in the text -/
theorem rcAt_seq (I : Inv X pins σ H s) (sb : Same Hf H) {A : Around} (hu : A.units + 50 < cLine) {ds es : List D} {d e : D} (hk : (d = .tup ds ∧ e = .tup es) ∨ (d = .lst ds ∧ e = .lst es)) (h : EqIt ds es) {v v' : V} {u u' : Value}
    (r1 : Rep X.K Hf d v) (r2 : Rep X.K Hf e v') (e1 : RelV v u) (e2 : RelV v' u') : SeqAt.RcAt A s u u' (decide (d = e)) ∧ SeqAt.RcNeAt A s u u' (!decide (d = e)) := by
  have ih := eqAt_deep I sb 40
  rcases hk with ⟨rfl, rfl⟩ | ⟨rfl, rfl⟩
  · rw [rep_tup] at r1 r2
    obtain ⟨a, xs, rfl, p1, q1⟩ := r1
    obtain ⟨b, ys, rfl, p2, q2⟩ := r2
    cases e1; cases e2
    obtain ⟨us, v1, t1, _⟩ := I.tuple (same_tup sb p1)
    obtain ⟨ws, v2, t2, _⟩ := I.tuple (same_tup sb p2)
    have els := els_at (A := A) I h ih q1 q2 v1 v2 (by rw [in1_units]; omega)
    have key := SeqAt.RcAt.tuples (A := A) (s := s) (show s.heap.IsTuple a us.toArray from t1) (show s.heap.IsTuple b ws.toArray from t2) (by omega) els
    have key2 := SeqAt.RcNeAt.tuples (A := A) (s := s) (show s.heap.IsTuple a us.toArray from t1) (show s.heap.IsTuple b ws.toArray from t2) (by omega) els
    have hl1 : us.toArray.size = ds.length := by simp [← v1.length, q1.length]
    have hl2 : ws.toArray.size = es.length := by simp [← v2.length, q2.length]
    have e : ((List.range (min us.toArray.size ws.toArray.size)).all (fun j => decide (ds[j]? = es[j]?)) && us.toArray.size == ws.toArray.size) = decide (D.tup ds = D.tup es) := by
      rw [dec_tup, hl1, hl2]
      by_cases hl : ds.length = es.length
      · rw [hl, Nat.min_self]
        simp only [beq_self_eq_true, Bool.and_true]
        exact all_range hl rfl rfl
      · have : ¬ ds = es := fun z => hl (by rw [z])
        simp [hl, this]
    rw [e] at key key2
    exact ⟨key, key2⟩
  · rw [rep_lst] at r1 r2
    obtain ⟨a, xs, rfl, p1, q1⟩ := r1
    obtain ⟨b, ys, rfl, p2, q2⟩ := r2
    cases e1; cases e2
    obtain ⟨us, v1, t1, _⟩ := I.list (sb.seq p1)
    obtain ⟨ws, v2, t2, _⟩ := I.list (sb.seq p2)
    have hl1 : us.toArray.size = ds.length := by simp [← v1.length, q1.length]
    have hl2 : ws.toArray.size = es.length := by simp [← v2.length, q2.length]
    by_cases hl : ds.length = es.length
    · have els := els_at (A := A) I h ih q1 q2 v1 v2 (by rw [in1_units]; omega)
      have key := SeqAt.RcAt.lists (A := A) (s := s) t1.isList t2.isList (by rw [hl1, hl2, hl]) (by omega) els
      have key2 := SeqAt.RcNeAt.lists (A := A) (s := s) t1.isList t2.isList (by rw [hl1, hl2, hl]) (by omega) els
      rw [hl1, all_range rfl hl.symm rfl, ← dec_lst] at key key2
      exact ⟨key, key2⟩
    · have key := SeqAt.RcAt.lists_lengths (A := A) (s := s) t1.isList t2.isList (by rw [hl1, hl2]; simpa using hl) (by omega)
      have key2 := SeqAt.RcNeAt.lists_lengths (A := A) (s := s) t1.isList t2.isList (by rw [hl1, hl2]; simpa using hl) (by omega)
      have e : decide (D.lst ds = D.lst es) = false := by
        rw [dec_lst]; exact decide_eq_false fun z => hl (by rw [z])
      rw [e]
      exact ⟨key, key2⟩
end
section
variable {P : Program} {w : World} {K : PySem.W.Frag} {mg : Str → Option Value} {base : Heap} {k : Nat} {N : List Str} {sc : Scope} {bk : Bool} {c : Ctx P w K mg base k N sc bk} {ρ : List Sl} {pos : Pos} {a b : Expr} {R : D → Prop} {T : Bool → Prop}
/-- == and !=, as the layer reads them: of data -/
def rEqD (K : PySem.W.Frag) (neg : Bool) : R2 := fun v u H Q => ∃ x y Hf, Same Hf H ∧ Rep K Hf x v ∧ Rep K Hf y u ∧ EqOk x y ∧ Q (.bl (if neg then !decide (x = y) else decide (x = y))) H
theorem op_eqD : OpR c.X (compareOp .Eq) (rEqD c.X.K false) := fun pins s σ H v u v' u' Q I rv ru ⟨x, y, Hf, sb, rx, ry, ok, q⟩ => by
  rcases ok with h | ⟨ds, es, hk, hi⟩
  · obtain ⟨z1, z2⟩ := scal_of h rx ry
    exact op_eq pins s σ H v u v' u' Q I rv ru ⟨z1, by rw [z2]; exact q⟩
  · exact (rcAt_seq I sb (by have := c.room.un; omega) hk hi rx ry rv ru).1 _ _ _ _ ⟨.bl (decide (x = y)), H, I, rfl, q⟩
theorem op_neD : OpR c.X (compareOp .NotEq) (rEqD c.X.K true) := fun pins s σ H v u v' u' Q I rv ru ⟨x, y, Hf, sb, rx, ry, ok, q⟩ => by
  rcases ok with h | ⟨ds, es, hk, hi⟩
  · obtain ⟨z1, z2⟩ := scal_of h rx ry
    exact op_ne pins s σ H v u v' u' Q I rv ru ⟨z1, by rw [z2]; exact q⟩
  · exact (rcAt_seq I sb (by have := c.room.un; omega) hk hi rx ry rv ru).2 _ _ _ _ ⟨.bl (!decide (x = y)), H, I, rfl, q⟩
theorem cmp_eq {K : PySem.W.Frag} : CmpD K (rEqD K false) fun x y R => EqP x y R := fun x y v u H Hf Q R s rx ry ⟨h1, h2⟩ q => ⟨x, y, Hf, s, rx, ry, h1, q _ h2⟩
theorem cmp_ne {K : PySem.W.Frag} : CmpD K (rEqD K true) fun x y R => EqP x y fun b => R (!b) := fun x y v u H Hf Q R s rx ry ⟨h1, h2⟩ q => ⟨x, y, Hf, s, rx, ry, h1, q _ h2⟩
theorem t_eq (h : EvE c a ρ fun x => EvE c b ρ fun y => EqP x y T) : EvT c (.Compare a [.Eq] [b] pos) ρ T := t_cmp op_eqD cmp_eq h (nomark b)
theorem t_ne (h : EvE c a ρ fun x => EvE c b ρ fun y => EqP x y fun b => T (!b)) : EvT c (.Compare a [.NotEq] [b] pos) ρ T := t_cmp op_neD cmp_ne h (nomark b)
theorem e_eq (h : EvE c a ρ fun x => EvE c b ρ fun y => EqP x y fun b => R (.bl b)) : EvE c (.Compare a [.Eq] [b] pos) ρ R := e_cmp op_eqD cmp_eq h (nomark b)
end
end EV

set_option Elab.async false
set_option linter.all false
set_option maxRecDepth 100000
namespace EV
open PySem PySem.Spec PySem.Calls PyProof.Rows L2
section
variable {P : Program} {w : World} {K : PySem.W.Frag} {mg : Str → Option Value} {base : Heap} {k : Nat} {N : List Str} {sc : Scope} {bk : Bool} {c : Ctx P w K mg base k N sc bk} {ρ : List Sl} {pos : Pos} {a b e : Expr} {es : List Expr} {R : D → Prop} {T : Bool → Prop}

/-! ## is None -/
def IsN (x : D) (T : Bool → Prop) : Prop := T (decide (x = .non))

/-! ## rows: index, length, slices, + -/
/-- the row that a datum is -/
def D.row : D → Option (List D)
  | .lst ds => some ds
  | .tup ds => some ds
  | _ => none
theorem rep_row {K : PySem.W.Frag} {H : Hp} : ∀ {d : D} {ds : List D} {v : V}, d.row = some ds → Rep K H d v → ∃ p xs, v = .ref p ∧ Reps K H ds xs ∧ ((d = .lst ds ∧ SqL K H p xs) ∨ (d = .tup ds ∧ SqT K H p xs))
  | .lst _, _, _, e, h => by cases e; rw [rep_lst] at h; obtain ⟨p, xs, rfl, h1, h2⟩ := h; exact ⟨p, xs, rfl, h2, .inl ⟨rfl, h1⟩⟩
  | .tup _, _, _, e, h => by cases e; rw [rep_tup] at h; obtain ⟨p, xs, rfl, h1, h2⟩ := h; exact ⟨p, xs, rfl, h2, .inr ⟨rfl, h1⟩⟩
/-- x[i], in bounds -/
def IxP (x y : D) (R : D → Prop) : Prop := ∃ ds i d, x.row = some ds ∧ y = .int i ∧ atI ds i = some d ∧ R d
theorem ixp_l {ds : List D} {i : Int} {d : D} {R : D → Prop} (h : atI ds i = some d) (hR : R d) : IxP (.lst ds) (.int i) R := ⟨ds, i, d, rfl, rfl, h, hR⟩
theorem ixp_t {ds : List D} {i : Int} {d : D} {R : D → Prop} (h : atI ds i = some d) (hR : R d) : IxP (.tup ds) (.int i) R := ⟨ds, i, d, rfl, rfl, h, hR⟩
theorem atI_reps {K : PySem.W.Frag} {H : Hp} {ds : List D} {xs : List V} {i : Int} {d : D} (h : Reps K H ds xs) (e : atI ds i = some d) : ∃ x, atI xs i = some x ∧ Rep K H d x := by
  unfold atI at e ⊢
  rw [← h.length]
  obtain ⟨j, e1, e2⟩ := Option.bind_eq_some_iff.mp e
  obtain ⟨x, e3, rx⟩ := h.get e2
  exact ⟨x, by rw [e1]; exact e3, rx⟩
theorem e_ix (h : EvE c a ρ fun x => EvE c b ρ fun y => IxP x y R) (hs : PlainIx b := by intro _ _; with_unfolding_all rfl) : EvE c (.Subscript a b pos) ρ R := fun σ H Hf Q S q =>
  bE_of (pe_ix (IxR.or ix_list ix_tup) pbE pbE hs) (h σ H Hf _ S fun x v H1 Hf1 h1 r1 g1 => h1 σ H1 Hf1 _ (S.grw g1) fun y u H2 Hf2 ⟨ds, i, d, e1, e2, e3, hR⟩ r2 g2 => by
    subst e2
    rw [rep_int] at r2; subst r2
    obtain ⟨p, xs, rfl, hr, hk⟩ := rep_row e1 (Rep.mono g2.f x r1)
    obtain ⟨z, ez, rz⟩ := atI_reps hr e3
    have fin := q d z H2 Hf2 hR rz (g1.trans g2)
    rcases hk with ⟨_, hk⟩ | ⟨_, hk⟩
    · exact .inl ⟨p, xs, i, z, rfl, rfl, g2.b.seq hk, ez, fin⟩
    · exact .inr ⟨p, xs, i, z, rfl, rfl, same_tup g2.b hk, ez, fin⟩)
theorem seq_any {K : PySem.W.Frag} {H Hf : Hp} (sb : Same Hf H) {d : D} {ds : List D} {p : Addr} {xs : List V} (h : (d = .lst ds ∧ SqL K Hf p xs) ∨ (d = .tup ds ∧ SqT K Hf p xs)) : SqL K H p xs ∨ SqT K H p xs := h.elim (fun z => .inl (sb.seq z.2)) fun z => .inr (same_tup sb z.2)
theorem calE_len {K : PySem.W.Frag} : CalE K (fun xs H Q => ∃ p ys, xs = [.ref p] ∧ (SqL K H p ys ∨ SqT K H p ys) ∧ Q (.int ys.length) H) (fun ds R => ∃ x, ds = [x] ∧ ∃ ys, x.row = some ys ∧ R (.int ys.length)) := by
  rintro ds vs H Hf Q R s rs ⟨x, rfl, ys, e, hR⟩ q
  obtain ⟨v, rfl, rv⟩ := reps1 rs
  obtain ⟨p, xs, rfl, hr, hk⟩ := rep_row e rv
  exact ⟨p, xs, rfl, seq_any s hk, q _ _ H Hf hR (by rw [hr.length]; exact rep_int.mpr rfl) (.refl s)⟩
theorem e_len {p : Pos} (hm : mg (Str.ofString "len") = none) (h : EvE c e ρ fun x => ∃ ys, x.row = some ys ∧ R (.int ys.length)) (hg : sc.names.lookup (Str.ofString "len") = some .globalImplicit := by with_unfolding_all rfl)
    (he : ∀ env, starEach [e] env = (false, eval e env) :: starEach [] env := by intro _; with_unfolding_all rfl) : EvE c (.Call (.Name (Str.ofString "len") p) [e] [] pos) ρ R :=
  e_blt call_len_seq calE_len hm PySem.boot_len (a_cons (h.imp fun d hd => a_nil ⟨d, rfl, hd⟩) he) hg (by decide) (by decide) he (by intro _; with_unfolding_all rfl)
/-- list + list: a new list -/
def rCatG (K : PySem.W.Frag) : R2 := fun x y H Q => ∃ l b xs zs, x = .ref l ∧ y = .ref b ∧ SqL K H l xs ∧ SqL K H b zs ∧ xs.length + zs.length ≤ sizeLine ∧ ∀ p, H p = none → Q (.ref p) (upd H p (.lst (xs ++ zs)))
theorem op_catG {X : Cx} : OpR X (binaryOp .Add) (rCatG X.K) := by
  intro pins s σ H x y v u Q I rx ry h
  obtain ⟨l, b, xs, zs, rfl, rfl, hH, hB, hz, q⟩ := h
  cases rx
  cases ry
  obtain ⟨its, r, hl, z⟩ := I.list hH
  obtain ⟨its2, r2, hl2, z2⟩ := I.list hB
  have e1 := r.length
  have e2 := r2.length
  obtain ⟨⟨cls, dd, data, sl⟩, n, p1, p2, p3, p4⟩ := hl
  obtain ⟨⟨cls2, dd2, data2, sl2⟩, n', q1, q2, q3, q4⟩ := hl2
  simp only at p2 p3 p4 q2 q3 q4
  subst p2 p3 p4 q2 q3 q4
  have ea : its.toArray ++ its2.toArray = (its ++ its2).toArray := by simp
  refine concat_meets ⟨_, p1, rfl⟩ ⟨_, q1, rfl⟩ noFill_list_add seq_list_add PySem.F.slot_list_add PySem.F.entry_list_add (PySem.F.args_list_add_2 _ _) (list_addW l b its.toArray its2.toArray n n' none none sl sl2 (by simp; omega)) ⟨p1, q1, ?_⟩
  rw [ea]
  exact ⟨.ref _, _, I.lnew (t' := s.toks) (r.append r2) (by rw [List.length_append]; omega), rfl, q _ I.fresh⟩
/-- tuple + tuple, either may be empty -/
def rCatT2 (K : PySem.W.Frag) : R2 := fun x y H Q => ∃ a b xs ys, x = .ref a ∧ y = .ref b ∧ SqT K H a xs ∧ SqT K H b ys ∧ xs.length + ys.length ≤ sizeLine ∧
  (xs = [] → Q (.ref b) H) ∧ (ys = [] → Q (.ref a) H) ∧ ∀ p, H p = none → Q (.ref p) (upd H p (.tup (xs ++ ys)))
theorem op_catT2 {X : Cx} : OpR X (binaryOp .Add) (rCatT2 X.K) := by
  intro pins s σ H x y v u Q I rx ry h
  obtain ⟨t, b, xs, ys, rfl, rfl, hH, hB, hz, c1, c2, q⟩ := h
  cases rx
  cases ry
  obtain ⟨vs, r, ht, z⟩ := I.tuple hH
  obtain ⟨ws, r2, hb, z2⟩ := I.tuple hB
  obtain ⟨⟨cls, dd, data, sl⟩, ho, hc, n, hd⟩ := id ht
  obtain ⟨⟨cls2, dd2, data2, sl2⟩, ho2, hc2, n2, hd2⟩ := id hb
  simp only at hc hd hc2 hd2
  subst hc hd hc2 hd2
  have e : vs.toArray ++ ws.toArray = (vs ++ ws).toArray := by simp
  have e1 := r.length
  have e2 := r2.length
  by_cases hv : vs = []
  · exact concat_meets ⟨_, ho, rfl⟩ ⟨_, ho2, rfl⟩ noFill_tuple_add seq_tuple_add PySem.F.slot_tuple_add PySem.F.entry_tuple_add (PySem.F.args_tuple_add_2 _ _)
      (tuple_addW0 t b vs.toArray ws.toArray n n2 dd dd2 sl sl2 (by simp [hv])) ⟨ho, ho2, ⟨.ref b, H, I, rfl, c1 (by rw [Vals.nil_iff r] at hv; exact hv)⟩⟩
  · by_cases hw : ws = []
    · exact concat_meets ⟨_, ho, rfl⟩ ⟨_, ho2, rfl⟩ noFill_tuple_add seq_tuple_add PySem.F.slot_tuple_add PySem.F.entry_tuple_add (PySem.F.args_tuple_add_2 _ _)
        (tuple_addW1 t b vs.toArray ws.toArray n n2 dd dd2 sl sl2 (by simpa using hv) (by simp [hw])) ⟨ho, ho2, ⟨.ref t, H, I, rfl, c2 (by rw [Vals.nil_iff r2] at hw; exact hw)⟩⟩
    · refine concat_meets ⟨_, ho, rfl⟩ ⟨_, ho2, rfl⟩ noFill_tuple_add seq_tuple_add PySem.F.slot_tuple_add PySem.F.entry_tuple_add (PySem.F.args_tuple_add_2 _ _)
        (tuple_addW2 t b vs.toArray ws.toArray n n2 dd dd2 sl sl2 (by simpa using hv) (by simpa using hw) (by rw [List.size_toArray, List.size_toArray]; omega)) ⟨ho, ho2, ?_⟩
      rw [e]
      refine ⟨.ref s.heap.objs.size, _, I.laid (t' := s.toks) (o := .tup (xs ++ ys)) (fun b ob q => Heap.get?_push_of_some _ q) (Nat.le_refl _) ?_, rfl, q _ (I.hok.fresh (Nat.le_refl _))⟩
      exact ⟨by rw [List.length_append]; exact hz, _, r.append r2, IsTup.new _ _⟩
/-- x + y -/
inductive AddP : D → D → (Sl → Prop) → Prop where
  | int {i j : Int} {R : Sl → Prop} (h : R (.va (.int (i + j)))) : AddP (.int i) (.int j) R
  | lst {ds es : List D} {R : Sl → Prop} (h : Sd (ds.length + es.length ≤ sizeLine) (R (.ow (ds ++ es)))) : AddP (.lst ds) (.lst es) R
  | tup {ds es : List D} {R : Sl → Prop} (h : Sd (ds.length + es.length ≤ sizeLine) (R (.va (.tup (ds ++ es))))) : AddP (.tup ds) (.tup es) R
  | str {x y : Str} {R : Sl → Prop} (h : Sd (x.length + y.length ≤ sizeLine) (R (.va (.str (x ++ y))))) : AddP (.str x) (.str y) R
theorem reps_nil_of {K : PySem.W.Frag} {H : Hp} {ds : List D} (h : Reps K H ds []) : ds = [] := by
  have := h.length; cases ds with
  | nil => rfl
  | cons _ _ => simp at this
theorem opd_add {K : PySem.W.Frag} : OpD K (fun x y H Q => (((rI0 fun i j => V.int (i + j)) x y H Q ∨ rCatG K x y H Q) ∨ rCatT2 K x y H Q) ∨ ∃ i j, x = .str i ∧ y = .str j ∧ i.length + j.length ≤ sizeLine ∧ Q (.str (i ++ j)) H) AddP := by
  rintro x y v u H Hf Q R s rx ry h q
  cases h with
  | @int i j _ h =>
    rw [rep_int] at rx ry
    exact .inl (.inl (.inl ⟨i, j, rx, ry, q (.va (.int (i + j))) _ H Hf h (show Rep K Hf (.int (i + j)) _ from rep_int.mpr rfl) (.refl s)⟩))
  | @lst ds es _ h =>
    rw [rep_lst] at rx ry
    obtain ⟨a, xs, rfl, h1, h2⟩ := rx
    obtain ⟨b, ys, rfl, h3, h4⟩ := ry
    refine .inl (.inl (.inr ⟨a, b, xs, ys, rfl, rfl, s.seq h1, s.seq h3, by rw [← h2.length, ← h4.length]; exact h.s, fun p hp => ?_⟩))
    exact q (.ow (ds ++ es)) _ _ _ h.r ⟨p, xs ++ ys, rfl, hp, upd_same, s.free hp, h2.append h4⟩ (Grw.newO s hp)
  | @tup ds es _ h =>
    rw [rep_tup] at rx ry
    obtain ⟨a, xs, rfl, h1, h2⟩ := rx
    obtain ⟨b, ys, rfl, h3, h4⟩ := ry
    refine .inl (.inr ⟨a, b, xs, ys, rfl, rfl, same_tup s h1, same_tup s h3, by rw [← h2.length, ← h4.length]; exact h.s, fun e => ?_, fun e => ?_, fun p hp => ?_⟩)
    · subst e
      have := reps_nil_of h2
      subst this
      exact q (.va (.tup ([] ++ es))) _ H Hf h.r (show Rep K Hf (.tup ([] ++ es)) _ from rep_tup.mpr ⟨b, ys, rfl, h3, h4⟩) (.refl s)
    · subst e
      have := reps_nil_of h4
      subst this
      exact q (.va (.tup (ds ++ []))) _ H Hf h.r (show Rep K Hf (.tup (ds ++ [])) _ from rep_tup.mpr ⟨a, xs, rfl, h1, by rw [List.append_nil]; exact h2⟩) (.refl s)
    · have g := Grw.new s hp (o := .tup (xs ++ ys))
      exact q (.va (.tup (ds ++ es))) _ _ _ h.r (show Rep K _ (.tup (ds ++ es)) _ from rep_tup.mpr ⟨p, xs ++ ys, rfl, .inl (.inl upd_same), (h2.append h4).mono g.f⟩) g
  | @str x y _ h =>
    rw [rep_str] at rx ry
    exact .inr ⟨x, y, rx, ry, h.s, q (.va (.str (x ++ y))) _ H Hf h.r (show Rep K Hf (.str (x ++ y)) _ from rep_str.mpr rfl) (.refl s)⟩
theorem x_add {R : Sl → Prop} (h : EvE c a ρ fun x => EvE c b ρ fun y => AddP x y R) : EvX c (.BinOp a .Add b pos) ρ R :=
  x_op (OpR.or (OpR.or (OpR.or op_add op_catG) op_catT2) op_add_str) opd_add h

/-! ## slices -/
def cutD {α : Type} (xs : List α) (lo hi : Option Int) : List α := (xs.drop (HT.sIx xs.length 0 lo)).take (HT.sIx xs.length xs.length hi - HT.sIx xs.length 0 lo)
theorem reps_cut {K : PySem.W.Frag} {H : Hp} {ds : List D} {xs : List V} (h : Reps K H ds xs) (lo hi : Option Int) : Reps K H (cutD ds lo hi) (cutV xs lo hi) := by
  unfold cutD cutV
  rw [h.length]
  exact (h.drop _).take _
def bP (X : Cx) (e : Option Expr) : TO := fun σ H Q => ∀ pins s, Inv X pins σ H s → wpAny (model X.prog X.w) X.A (evalPart e X.env) (fun u s' => ∃ o H', Inv X pins σ H' s' ∧ IsPart u o ∧ Q o H') X.xe s
theorem pbP {X : Cx} {e : Option Expr} : PO X e (bP X e) := fun pins s σ H Q I h => h pins s I
def EvP (c : Ctx P w K mg base k N sc bk) (e : Option Expr) (ρ : List Sl) (R : Option Int → Prop) : Prop :=
  ∀ (σ : L2.St) (H Hf : Hp) (Q : Option Int → Hp → Prop), StRep c σ H Hf ρ → (∀ o H' Hf', R o → Grw H Hf H' Hf' → Q o H') → bP c.X e σ H Q
theorem p_none {R : Option Int → Prop} (h : R none) : EvP c none ρ R := fun σ H Hf Q S q pins s I => po_none pins s σ H Q I (q none H Hf h (.refl S.sb))
theorem p_some {R : Option Int → Prop} (h : EvE c e ρ (I1 fun i => R (some i))) : EvP c (some e) ρ R := fun σ H Hf Q S q pins s I =>
  po_some pbE pins s σ H Q I (h σ H Hf _ S fun d v H' Hf' ⟨i, e, hR⟩ r g => by subst e; rw [rep_int] at r; exact ⟨i, r, q _ H' Hf' hR g⟩)
/-- a tuple's slice that is the whole is the tuple itself -/
def rSlTw (K : PySem.W.Frag) : V → Option Int → Option Int → Hp → VK → Prop := fun x lo hi H Q => ∃ a xs, x = .ref a ∧ SqT K H a xs ∧
  (HT.sIx xs.length 0 lo = 0 ∧ HT.sIx xs.length xs.length hi = xs.length) ∧ Q (.ref a) H
theorem getItem_tuple_whole {prog : Program} {w : World} {A : Around} {E : Value → Shared → Prop} {s : Shared} {t sl : Addr} {items : Array Value} {vl vu : Value} {lo hi : Option Int} {Q : Value → Shared → Prop} (ht : IsTup s.heap t items) (hs : s.heap.IsSliceOf sl vl vu .none) (pl : IsPart vl lo) (pu : IsPart vu hi)
    (hw : HT.sIx items.size 0 lo = 0 ∧ HT.sIx items.size items.size hi = items.size) (h : Q (.ref t) s) : wpAny (model prog w) A (getItem (.ref t) (.ref sl)) Q E s := by
  obtain ⟨os, hos, hcs, hds⟩ := id hs
  have hTs : s.TypeIs (.ref sl) "slice" := ⟨os, hos, hcs⟩
  unfold getItem
  try with_reducible refine wpAny_holding ?_
  first | refine wpAny_bind (wpAny_pure ?_) | skip
  refine wpAny_bind (wpAny_sequenceKey ht.typeIs (by decide) ?_)
  refine wpAny_bind (wpAny_callSpecial?_slot (name := Str.ofString "__getitem__") ht.typeIs PyProof.Rows.slot_tuple_getitem
    (wpAny_call_entry PyProof.Rows.slot_tuple_getitem ht.typeIs entry_tuple_getitem ?_ (args_tuple_getitem _ _)))
  show wpAny _ _ (Builtin.Tuple.tupleItemsOf (.ref t) >>= _) _ _ s
  refine wpAny_bind (tupleItemsOf_ ht ?_)
  refine wpAny_bind (wpAny_typeOf hTs ?_)
  rw [if_pos (by decide)]
  refine wpAny_bind (HT.sliceApplied_gen hs pl pu ?_)
  have hyes : ((((HT.sIx items.size 0 lo : Nat) : Int) == 0 && (1 : Int) == 1 && (HT.sIx items.size items.size hi - HT.sIx items.size 0 lo) == items.size) = true) := by
    rw [hw.1, hw.2]; simp
  show wpAny _ _ (if (((HT.sIx items.size 0 lo : Nat) : Int) == 0 && (1 : Int) == 1 && (HT.sIx items.size items.size hi - HT.sIx items.size 0 lo) == items.size) = true then _ else _) _ _ s
  rw [if_pos hyes]
  obtain ⟨⟨cls, dd, data, sl'⟩, ho, hc, n, hd⟩ := id ht
  simp only at hc hd
  subst hc hd
  unfold Builtin.Tuple.tupleIsExact
  wp_walk using AutoSeq1.wpAny_loadPart' ho
  exact ⟨_, rfl, wpAny_pure h⟩
theorem sl_tup_w {X : Cx} : SlR X (rSlTw X.K) := by
  intro pins s σ H x v vl vu lo hi sl Q I rx hs pl pu h
  obtain ⟨a, xs, rfl, hx, hw, q⟩ := h
  cases rx
  obtain ⟨its, r, ht, hz⟩ := I.tuple hx
  have hlen : its.toArray.size = xs.length := by rw [List.size_toArray]; exact r.length.symm
  refine ⟨"tuple", _, PyProof.Rows.slot_tuple_getitem.lookup, ht.typeIs, ?_⟩
  exact getItem_tuple_whole ht hs pl pu (by rw [hlen]; exact hw) ⟨.ref a, H, I, rfl, q⟩
/-- x[lo:hi] -/
inductive SlP : D → Option Int → Option Int → (Sl → Prop) → Prop where
  | lst {ds : List D} {lo hi : Option Int} {R : Sl → Prop} (h : R (.ow (cutD ds lo hi))) : SlP (.lst ds) lo hi R
  | tup {ds : List D} {lo hi : Option Int} {R : Sl → Prop} (h : R (.va (.tup (cutD ds lo hi)))) : SlP (.tup ds) lo hi R
theorem cut_whole {α : Type} {xs : List α} {lo hi : Option Int} (h : HT.sIx xs.length 0 lo = 0 ∧ HT.sIx xs.length xs.length hi = xs.length) : cutD xs lo hi = xs := by
  unfold cutD; rw [h.1, h.2]; simp
theorem x_slice {lo hi : Option Expr} {p2 : Pos} {R : Sl → Prop} (h : EvE c e ρ fun x => EvP c lo ρ fun l => EvP c hi ρ fun u => SlP x l u R) : EvX c (.Subscript e (.Slice lo hi none p2) pos) ρ R := fun σ H Hf Q S q =>
  bE_of (pe_slice (SlR.or (SlR.or sl_list sl_tup) sl_tup_w) pbE pbP pbP) (h σ H Hf _ S fun x v H1 Hf1 h1 r1 g1 => h1 σ H1 Hf1 _ (S.grw g1) fun l H2 Hf2 h2 g2 => h2 σ H2 Hf2 _ (S.grw (g1.trans g2)) fun u H3 Hf3 h3 g3 => by
    have r3 := Rep.mono g3.f x (Rep.mono g2.f x r1)
    have g := (g1.trans g2).trans g3
    cases h3 with
    | lst h =>
      rw [rep_lst] at r3
      obtain ⟨a, xs, rfl, k1, k2⟩ := r3
      refine .inl (.inl ⟨a, xs, rfl, g3.b.seq k1, fun p hp => ?_⟩)
      exact q _ _ _ _ h ⟨p, _, rfl, g.s.free hp, upd_same, g3.b.free hp, reps_cut k2 l u⟩ (g.trans (Grw.newO g3.b hp))
    | tup h =>
      rw [rep_tup] at r3
      obtain ⟨a, xs, rfl, k1, k2⟩ := r3
      by_cases hw : HT.sIx xs.length 0 l = 0 ∧ HT.sIx xs.length xs.length u = xs.length
      · refine .inr ⟨a, xs, rfl, same_tup g3.b k1, hw, ?_⟩
        refine q _ _ _ _ h (show Rep c.X.K Hf3 _ _ from rep_tup.mpr ⟨a, xs, rfl, k1, ?_⟩) g
        rw [cut_whole (by rw [k2.length]; exact hw)]; exact k2
      · refine .inl (.inr ⟨a, xs, rfl, same_tup g3.b k1, hw, fun p hp => ?_⟩)
        have g4 := Grw.new g3.b hp (o := .tup (cutV xs l u))
        exact q _ _ _ _ h (show Rep c.X.K _ _ _ from rep_tup.mpr ⟨p, _, rfl, .inl (.inl upd_same), (reps_cut k2 l u).mono g4.f⟩) (g.trans g4))
end
end EV

set_option Elab.async false
set_option linter.all false
set_option maxRecDepth 100000
namespace EV
open PySem PySem.Spec PySem.Calls PyProof.Rows L2
section
variable {P : Program} {w : World} {K : PySem.W.Frag} {mg : Str → Option Value} {base : Heap} {k : Nat} {N : List Str} {sc : Scope} {bk : Bool} {c : Ctx P w K mg base k N sc bk} {ρ : List Sl} {pos : Pos} {a b e : Expr} {es : List Expr} {R : D → Prop} {T : Bool → Prop}

/-! ## the frozen part as it stands at a loop's start -/
theorem grw_re {H₀ Hf₀ H1 Hf1 H Hf : Hp} (a : Grw H₀ Hf₀ H1 Hf1) (b : Grw H₀ Hf1 H Hf) : Grw H₀ Hf₀ H Hf :=
  ⟨b.s, a.f.trans b.f, b.b, fun c h1 h2 h3 => b.n c (a.n c h1 h2 h3) h2 h3⟩
theorem StR.re {K : PySem.W.Frag} {H₀ Hf₀ H1 Hf1 H Hf : Hp} {σ : L2.St} {ρ : List Sl} (a : Grw H₀ Hf₀ H1 Hf1) (S : StR K H₀ Hf1 σ H Hf ρ) : StR K H₀ Hf₀ σ H Hf ρ := ⟨grw_re a S.bas, S.len, S.at_, S.sep⟩
theorem StR.anew {K : PySem.W.Frag} {H₀ Hf₀ H Hf : Hp} {σ : L2.St} {ρ : List Sl} (S : StR K H₀ Hf₀ σ H Hf ρ) : StR K H₀ Hf σ H Hf ρ := ⟨⟨S.bas.s, .refl _, S.bas.b, fun _ h _ _ => h⟩, S.len, S.at_, S.sep⟩
def Ctx.at_ (c : Ctx P w K mg base k N sc bk) {H1 Hf1 : Hp} (a : Grw c.B c.Hf H1 Hf1) : Ctx P w K mg base k N sc bk :=
  { X := c.X, eP := c.eP, ew := c.ew, eK := c.eK, emg := c.emg, eb := c.eb, eN := c.eN, esc := c.esc, calm := c.calm, top := c.top, cb := c.cb, fn := c.fn, room := c.room, nd := c.nd, vis := c.vis, B := c.B, Hf := Hf1, RX := c.RX, RM := c.RM,
    exc := fun C x pins σ H Hf' ρ s H' s' I S h X sm => c.exc C x pins σ H Hf' ρ s H' s' I (S.re a) h X sm, mde := fun C x pins σ H Hf' ρ s h' us I S h hx => c.mde C x pins σ H Hf' ρ s h' us I (S.re a) h hx }
theorem PtOk.at_ {nx : List Sl → Prop} {p : Pt} {D : Ends} {H1 Hf1 : Hp} (a : Grw c.B c.Hf H1 Hf1) (o : PtOk c nx p D) : PtOk (c.at_ a) nx p D :=
  ⟨fun σ H Hf ρ S q => o.nx σ H Hf ρ (StR.re a S) q, fun r v H Hf g rv q => o.rt r v H Hf (grw_re a g) rv q, fun σ H Hf ρ S q => o.bk σ H Hf ρ (StR.re a S) q, fun σ H Hf ρ S q => o.ct σ H Hf ρ (StR.re a S) q⟩

/-! ## what a loop walks -/
def bI (X : Cx) (tg iter : Expr) : TI := fun σ H R => ∀ pins s, Inv X pins σ H s → wpAny (model X.prog X.w) X.A (eval iter X.env) (fun v s1 => wpAny (model X.prog X.w) X.A (pyIter v) (PIE X pins σ tg R) X.xe s1) X.xe s
theorem pbI {X : Cx} {tg iter : Expr} : PI X tg iter (bI X tg iter) := fun pins s σ H R I h => h pins s I
/-- the data that an iterator yields, one after another -/
structure ItOk (K : PySem.W.Frag) (J : It) (ds : List D) (Hf₀ : Hp) : Prop where
  go : ∀ i d H Hf, Same Hf₀ Hf → Same Hf H → ds[i]? = some d → J.go i H ∧ ∀ x H', J.yld i H x H' → ∃ Hf', Grw H Hf H' Hf' ∧ Rep K Hf' d x
  stop : ∀ i H Hf, Same Hf₀ Hf → Same Hf H → ds.length ≤ i → J.stop i H
def EvI (c : Ctx P w K mg base k N sc bk) (tg iter : Expr) (ρ : List Sl) (R : List D → Prop) : Prop :=
  ∀ (σ : L2.St) (H Hf : Hp) (Q : It → Hp → Prop), StRep c σ H Hf ρ → (∀ ds J H' Hf', R ds → Grw H Hf H' Hf' → ItOk c.X.K J ds Hf' → Q J H') → bI c.X tg iter σ H Q
theorem itok_list {K : PySem.W.Frag} {ds : List D} {xs : List V} {p : Addr} {Hf₀ : Hp} (h : SqL K Hf₀ p xs) (r : Reps K Hf₀ ds xs) : ItOk K (Itl K p) ds Hf₀ where
  go := fun i d H Hf s1 s2 e => by
    obtain ⟨x, ex, rx⟩ := r.get e
    refine ⟨⟨xs, x, (s1.trans s2).seq h, ex⟩, fun y H' ⟨e1, e2⟩ => ?_⟩
    subst e1
    have := e2 xs ((s1.trans s2).seq h)
    rw [ex] at this; cases this
    exact ⟨Hf, .refl s2, Rep.mono s1 d rx⟩
  stop := fun i H Hf s1 s2 e => ⟨xs, (s1.trans s2).seq h, by rw [← r.length]; exact e⟩
theorem itok_tup {K : PySem.W.Frag} {ds : List D} {xs : List V} {p : Addr} {Hf₀ : Hp} (h : SqT K Hf₀ p xs) (r : Reps K Hf₀ ds xs) : ItOk K (Itt K p) ds Hf₀ where
  go := fun i d H Hf s1 s2 e => by
    obtain ⟨x, ex, rx⟩ := r.get e
    refine ⟨⟨xs, x, same_tup (s1.trans s2) h, ex⟩, fun y H' ⟨e1, e2⟩ => ?_⟩
    subst e1
    have := e2 xs (same_tup (s1.trans s2) h)
    rw [ex] at this; cases this
    exact ⟨Hf, .refl s2, Rep.mono s1 d rx⟩
  stop := fun i H Hf s1 s2 e => ⟨xs, same_tup (s1.trans s2) h, by rw [← r.length]; exact e⟩
def iSeq (K : PySem.W.Frag) (tl : TE) : TI := fun σ H R => tl σ H fun x H1 => ∃ a, x = .ref a ∧ (((∃ xs, SqL K H1 a xs) ∧ R (Itl K a) H1) ∨ ((∃ xs, SqT K H1 a xs) ∧ R (Itt K a) H1))
theorem pi_seq {X : Cx} {tg l : Expr} {tl : TE} (hl : PE X l tl) : PI X tg l (iSeq X.K tl) := by
  intro pins s σ H R I h
  refine thn (hl pins s σ H _ I h) fun v s1 ⟨x, H1, I1, r1, q1⟩ => ?_
  obtain ⟨a, e, h⟩ := q1
  subst e
  cases r1
  rcases h with ⟨⟨xs, hq⟩, q⟩ | ⟨⟨xs, hq⟩, q⟩
  · obtain ⟨its, rv, p, hz⟩ := I1.list hq
    refine wpAny_pyIter_list p.isList ?_
    refine ⟨s1.heap.objs.size, [s1.heap.objs.size], _, _, H1, rfl, I1.kept (t' := s1.toks) fun b o e => Heap.get?_push_of_some _ e, turn_list a _, ⟨_, Heap.get?_push_size _ rfl, rfl, rfl⟩, fun b hb => ?_, q⟩
    have e : b = s1.heap.objs.size := by simpa using hb
    subst e
    exact I1.fpOk (Nat.le_refl _) (I1.hok.fresh (Nat.le_refl _))
  · obtain ⟨its, rv, p, hz⟩ := I1.tuple hq
    refine wpAny_pyIter_tuple (show s1.heap.IsTuple a its.toArray from p) ?_
    refine ⟨s1.heap.objs.size, [s1.heap.objs.size], _, _, H1, rfl, I1.kept (t' := s1.toks) fun b o e => Heap.get?_push_of_some _ e, turn_tuple a _, ⟨_, Heap.get?_push_size _ rfl, rfl, rfl⟩, fun b hb => ?_, q⟩
    have e : b = s1.heap.objs.size := by simpa using hb
    subst e
    exact I1.fpOk (Nat.le_refl _) (I1.hok.fresh (Nat.le_refl _))
/-- over a list or a tuple -/
theorem i_seq {tg : Expr} {R : List D → Prop} (h : EvE c e ρ fun d => ∃ ds, d.row = some ds ∧ R ds) : EvI c tg e ρ R := fun σ H Hf Q S q pins s I =>
  pi_seq pbE pins s σ H Q I (h σ H Hf _ S fun d v H' Hf' ⟨ds, er, hR⟩ r g => by
    obtain ⟨p, xs, rfl, hr, hk⟩ := rep_row er r
    refine ⟨p, rfl, ?_⟩
    rcases hk with ⟨_, hk⟩ | ⟨_, hk⟩
    · exact .inl ⟨⟨xs, g.b.seq hk⟩, q ds _ H' Hf' hR g (itok_list hk hr)⟩
    · exact .inr ⟨⟨xs, same_tup g.b hk⟩, q ds _ H' Hf' hR g (itok_tup hk hr)⟩)

/-! ## for -/
theorem s_for {tg iter : Expr} {body : List Stmt} {nx : List Sl → Prop} {p : Pt} (hq : c.X.xe = fun _ _ => False)
    (h : EvI c tg iter ρ fun ds => ∃ I : Nat → List Sl → Prop, I 0 ρ ∧
      (∀ c' : Ctx P w K mg base k N sc bk, c'.X = c.X → c'.RX = c.RX → c'.RM = c.RM → ∀ i d ρ', ds[i]? = some d → I i ρ' → EvG c' tg d ρ' fun ρ'' => EvSs c' body ρ'' (I (i + 1)) { rt := p.rt, bk := nx, ct := I (i + 1) }) ∧ ∀ ρ', I ds.length ρ' → nx ρ')
    (hs : ∀ env x, foldedSetIterable iter env x = pure x := by intro _ _; with_unfolding_all rfl) : EvS c (.For tg iter body [] pos) ρ nx p := fun σ H Hf D S o =>
  bS_of (ps_for (by rw [hq]; exact PassesOwn.never) c.calm pbI pbG pbSs (hs _)) (h σ H Hf _ S fun ds J H1 Hf1 ⟨I, h0, hb, he⟩ g io => by
    have S1 := S.grw g
    have gb : Grw c.B c.Hf H1 Hf1 := S1.bas
    refine ⟨fun i m σ H => m = ds.length - i ∧ i ≤ ds.length ∧ ∃ Hf ρ', StRep (c.at_ gb) σ H Hf ρ' ∧ I i ρ', ⟨_, rfl, Nat.zero_le _, Hf1, ρ, S1.anew, h0⟩, ?_⟩
    rintro i m σ H ⟨rfl, hi, Hf, ρ', S', hI⟩
    by_cases hlt : i < ds.length
    · have ed : ds[i]? = some ds[i] := List.getElem?_eq_getElem hlt
      obtain ⟨hgo, hy⟩ := io.go i _ H Hf S'.bas.f S'.bas.b ed
      refine .inr ⟨hgo, fun σ' H' => ∃ Hf' ρ'', StRep (c.at_ gb) σ' H' Hf' ρ'' ∧ I (i + 1) ρ'', fun σ' H' ⟨Hf', ρ'', S'', hI'⟩ => ⟨_, by omega, rfl, hlt, Hf', ρ'', S'', hI'⟩, fun x H' hx => ?_⟩
      obtain ⟨Hf', g', rx⟩ := hy x H' hx
      refine hb (c.at_ gb) rfl rfl rfl i _ ρ' ed hI σ H' Hf' x _ (S'.grw g') rx fun σ2 H2 Hf2 ρ2 S2 _ hbody => ?_
      exact hbody σ2 H2 Hf2 _ S2 ⟨fun σ H Hf ρ S q => ⟨Hf, ρ, S, q⟩, (o.at_ gb).rt, fun σ H Hf ρ S q => (o.at_ gb).nx σ H Hf ρ S q, fun σ H Hf ρ S q => ⟨Hf, ρ, S, q⟩⟩
    · have e : i = ds.length := by omega
      subst e
      exact .inl ⟨io.stop _ H Hf S'.bas.f S'.bas.b (Nat.le_refl _), (o.at_ gb).nx σ H Hf ρ' S' (he ρ' hI)⟩)
end
end EV

set_option Elab.async false
set_option linter.all false
set_option maxRecDepth 100000
namespace EV
open PySem PySem.Spec PySem.Calls PyProof.Rows L2

/-! ## an exception is caught -/
section
variable {X : Cx} {pins : List (Addr × Obj)} {σ : L2.St} {H1 H' : Hp} {s1 s' : Shared} {a C t : Addr} {B h6 : Heap}
end
section
variable {X : Cx} {pins : List (Addr × Obj)} {σ : L2.St} {H : Hp} {s : Shared}
end
section
variable {P : Program} {w : World} {K : PySem.W.Frag} {mg : Str → Option Value} {base : Heap} {k : Nat} {N : List Str} {sc : Scope} {bk : Bool} {c : Ctx P w K mg base k N sc bk} {ρ : List Sl} {pos hp hpos np2 ap yp : Pos} {body : List Stmt} {nx : List Sl → Prop} {p : Pt}
end
end EV

set_option Elab.async false
set_option linter.all false
set_option maxRecDepth 100000
namespace EV
open PySem PySem.Spec PySem.Calls PyProof.Rows L2

/-! ## what is told and never changed: frozen at once -/
section
variable {P : Program} {w : World} {K : PySem.W.Frag} {mg : Str → Option Value} {base : Heap} {k : Nat} {N : List Str} {sc : Scope} {bk : Bool} {c : Ctx P w K mg base k N sc bk} {ρ : List Sl} {pos : Pos} {a b e : Expr} {es : List Expr} {R : D → Prop} {T : Bool → Prop}
theorem fz_va {d : D} (h : R d) : FzP R (.va d) := ⟨d, rfl, h⟩
theorem fz_ow {ds : List D} (h : R (.lst ds)) : FzP R (.ow ds) := ⟨.lst ds, rfl, h⟩
theorem e_addA (h : EvE c a ρ fun x => EvE c b ρ fun y => AddP x y (FzP R)) : EvE c (.BinOp a .Add b pos) ρ R := e_x (x_add h)
theorem EvA.imp {R R' : List D → Prop} (h : EvA c es ρ R) (hi : ∀ d, R d → R' d) : EvA c es ρ R' := fun σ H Hf Q S q => h σ H Hf Q S fun d v H' Hf' rd => q d v H' Hf' (hi d rd)
theorem e_lstA (h : EvA c es ρ fun ds => Sd (ds.length ≤ sizeLine) (R (.lst ds))) : EvE c (.List es pos) ρ R := e_x (x_lst (h.imp fun ds hd => ⟨hd.s, fz_ow hd.r⟩))
theorem e_sliceA {lo hi : Option Expr} {p2 : Pos} (h : EvE c e ρ fun x => EvP c lo ρ fun l => EvP c hi ρ fun u => SlP x l u (FzP R)) : EvE c (.Subscript e (.Slice lo hi none p2) pos) ρ R := e_x (x_slice h)
theorem addp_int {i j : Int} {R : Sl → Prop} (h : R (.va (.int (i + j)))) : AddP (.int i) (.int j) R := .int h
theorem addp_lst {ds es : List D} {R : Sl → Prop} (h : Sd (ds.length + es.length ≤ sizeLine) (R (.ow (ds ++ es)))) : AddP (.lst ds) (.lst es) R := .lst h
theorem isd {d : D} {t cv : Value} {b : Bool} (ty : TyD K d t) (e : PySem.W.kitOne K t cv = some b) (h : R (.bl b)) : ∃ t b, TyD K d t ∧ PySem.W.kitOne K t cv = some b ∧ R (.bl b) := ⟨t, b, ty, e, h⟩
theorem e_ixA (h : EvE c a ρ fun x => EvE c b ρ fun y => IxP x y R) (hs : PlainIx b := by with_unfolding_all exact fun _ _ => rfl) : EvE c (.Subscript a b pos) ρ R := e_ix h hs
theorem rowX {x : D} {ds : List D} {Q : List D → Prop} (e : x.row = some ds) (h : Q ds) : ∃ ys, x.row = some ys ∧ Q ys := ⟨ds, e, h⟩
theorem rs_ok {F : Fn} {ds : List D} {sl : Sl} {R : Sl → Prop} (h : F ds (.ok sl)) (r : R sl) : ∃ r, F ds r ∧ RsP c ρ R r := ⟨_, h, r⟩
end
end EV

set_option Elab.async false
set_option linter.all false
set_option maxRecDepth 100000
namespace EV
open PySem PySem.Spec PySem.Calls PyProof.Rows L2

/-! ## [x == y for x in row], x and y texts -/
section
variable {P : Program} {w : World} {K : PySem.W.Frag} {mg : Str → Option Value} {base : Heap} {k : Nat} {N : List Str} {sc : Scope} {bk : Bool} {c : Ctx P w K mg base k N sc bk} {ρ : List Sl} {pos : Pos} {iter : Expr} {R : D → Prop}
end
end EV

set_option Elab.async false
set_option linter.all false
set_option maxRecDepth 100000
namespace EV
open PySem PySem.Spec PySem.Calls PyProof.Rows L2

/-! ## what is owned may be changed -/
def del (H : Hp) (p : Addr) : Hp := fun b => if b = p then none else H b
theorem del_same {H : Hp} {p : Addr} : del H p p = none := if_pos rfl
theorem del_ne {H : Hp} {p b : Addr} (h : b ≠ p) : del H p b = H b := if_neg h
theorem same_del {H₀ H : Hp} {p : Addr} (h : H₀ p = none) (s : Same H₀ H) : Same H₀ (del H p) := fun b o e => by
  rw [del_ne (ne_of_none e h)]; exact s b o e
theorem del_some {H : Hp} {p b : Addr} {o : HO} (h : del H p b = some o) : b ≠ p ∧ H b = some o := by
  by_cases e : b = p
  · subst e; rw [del_same] at h; cases h
  · rw [del_ne e] at h; exact ⟨e, h⟩
theorem grw_mut {H Hf : Hp} {p : Addr} {o : HO} (sb : Same Hf H) (hp : Hf p = none) : Grw (del H p) Hf (upd H p o) Hf :=
  ⟨fun b u e => by obtain ⟨h1, h2⟩ := del_some e; rw [upd_ne h1]; exact h2, .refl _, fun b u e => by rw [upd_ne (ne_of_none e hp)]; exact sb b u e, fun _ h _ _ => h⟩
section
variable {K : PySem.W.Frag} {H₀ Hf₀ H Hf H1 Hf1 : Hp} {σ : L2.St} {ρ : List Sl}
theorem RepS.un_fr {fr : Addr → Prop} {r : Sl} {v : V} (ho : r.owned = true) (h : RepS K fr H Hf r v) : ∃ p o, v = .ref p ∧ fr p ∧ H p = some o ∧ Hf p = none := by
  cases r with
  | un => cases ho
  | va d => cases ho
  | ow ds => obtain ⟨p, xs, rfl, f, h1, h2, _⟩ := h; exact ⟨p, _, rfl, f, h1, h2⟩
  | oT ds => obtain ⟨p, xs, rfl, f, h1, h2, _⟩ := h; exact ⟨p, _, rfl, f, h1, h2⟩
  | oK ds => obtain ⟨p, xs, rfl, f, h1, h2, _⟩ := h; exact ⟨p, _, rfl, f, h1, h2⟩
  | aw a ds => obtain ⟨p, xs, rfl, f, h1, h2, _⟩ := h; exact ⟨p, _, rfl, f.1, h1, h2⟩
  | aT a ds => obtain ⟨p, xs, rfl, f, h1, h2, _⟩ := h; exact ⟨p, _, rfl, f.1, h1, h2⟩
  | aK a ds => obtain ⟨p, xs, rfl, f, h1, h2, _⟩ := h; exact ⟨p, _, rfl, f.1, h1, h2⟩
theorem RepS.del' {fr : Addr → Prop} {r : Sl} {v : V} {p : Addr} (hv : r.owned = true → v ≠ .ref p) (h : RepS K fr H Hf r v) : RepS K fr (del H p) Hf r v := by
  cases r with
  | un => exact h
  | va d => exact h
  | ow ds => obtain ⟨q, xs, rfl, f, h1, h2⟩ := h; exact ⟨q, xs, rfl, f, by rw [del_ne (fun z => hv rfl (by rw [z]))]; exact h1, h2⟩
  | oT ds => obtain ⟨q, xs, rfl, f, h1, h2⟩ := h; exact ⟨q, xs, rfl, f, by rw [del_ne (fun z => hv rfl (by rw [z]))]; exact h1, h2⟩
  | oK ds => obtain ⟨q, xs, rfl, f, h1, h2⟩ := h; exact ⟨q, xs, rfl, f, by rw [del_ne (fun z => hv rfl (by rw [z]))]; exact h1, h2⟩
  | aw a ds => obtain ⟨q, xs, rfl, f, h1, h2⟩ := h; exact ⟨q, xs, rfl, f, by rw [del_ne (fun z => hv rfl (by rw [z]))]; exact h1, h2⟩
  | aT a ds => obtain ⟨q, xs, rfl, f, h1, h2⟩ := h; exact ⟨q, xs, rfl, f, by rw [del_ne (fun z => hv rfl (by rw [z]))]; exact h1, h2⟩
  | aK a ds => obtain ⟨q, xs, rfl, f, h1, h2⟩ := h; exact ⟨q, xs, rfl, f, by rw [del_ne (fun z => hv rfl (by rw [z]))]; exact h1, h2⟩
theorem StR.own (S : StR K H₀ Hf₀ σ H Hf ρ) {i : Nat} {r : Sl} (hi : ρ[i]? = some r) (ho : r.owned = true) : ∃ p, σ[i]? = some (some (.ref p)) ∧ RepS K (fun p => H₀ p = none) H Hf r (.ref p) := by
  obtain ⟨v, e, q⟩ := S.at_ i r hi (by rintro rfl; cases ho)
  obtain ⟨p, o, rfl, _⟩ := q.un_fr ho
  exact ⟨p, e, q⟩
/-- the thing in slot i is changed -/
theorem StR.upd (S : StR K H₀ Hf₀ σ H Hf ρ) {i : Nat} {r r' : Sl} {p : Addr} (hi : ρ[i]? = some r) (ho : r.owned = true) (hp : σ[i]? = some (some (.ref p))) (g : Grw (del H p) Hf H1 Hf1)
    (hr : RepS K (fun q => q = p) H1 Hf1 r' (.ref p)) (ho' : r'.owned = true) : StR K H₀ Hf₀ σ H1 Hf1 (ρ.set i r') := by
  obtain ⟨p', ep, q⟩ := S.own hi ho
  rw [hp] at ep; cases ep
  obtain ⟨_, o, e, fp, hHp, hfp⟩ := q.un_fr ho
  cases e
  have hlt : i < ρ.length := (List.getElem?_eq_some_iff.mp hi).1
  refine ⟨⟨(same_del fp S.bas.s).trans g.s, S.bas.f.trans g.f, g.b, fun b h1 h2 h3 => ?_⟩, by simp [S.len], fun j r1 hj hu => ?_, fun j j' r1 r2 q' hne h1 h2 o1 o2 => ?_⟩
  · have hb : b ≠ p := fun z => by subst z; exact h2 fp
    cases z : H₀ b with
    | none => exact absurd z h2
    | some o1 =>
      have e1 := S.bas.s b o1 z
      refine g.n b (S.bas.n b h1 h2 h3) (by rw [del_ne hb, e1]; simp) fun xs => ?_
      rw [del_ne hb, e1, ← z]; exact h3 xs
  · by_cases e : j = i
    · subst e
      rw [List.getElem?_set_self hlt] at hj; cases hj
      exact ⟨_, hp, hr.weak fun q' z => by subst z; exact fp⟩
    · rw [List.getElem?_set_ne (Ne.symm e)] at hj
      obtain ⟨v, e1, e2⟩ := S.at_ j r1 hj hu
      exact ⟨v, e1, (e2.del' (p := p) fun ow z => by subst z; exact S.sep i j _ _ p (Ne.symm e) hi hj ho ow hp e1).grw g⟩
  · have out : ∀ {j : Nat} {r1 : Sl}, (ρ.set i r')[j]? = some r1 → r1.owned = true → ∃ r2, ρ[j]? = some r2 ∧ r2.owned = true := fun {j r1} hj how => by
      by_cases e : j = i
      · subst e; exact ⟨r, hi, ho⟩
      · rw [List.getElem?_set_ne (Ne.symm e)] at hj; exact ⟨r1, hj, how⟩
    obtain ⟨r3, a1, a2⟩ := out h1 o1
    obtain ⟨r4, b1, b2⟩ := out h2 o2
    exact S.sep j j' r3 r4 q' hne a1 b1 a2 b2
end
section
variable {P : Program} {w : World} {K : PySem.W.Frag} {mg : Str → Option Value} {base : Heap} {k : Nat} {N : List Str} {sc : Scope} {bk : Bool} {c : Ctx P w K mg base k N sc bk} {ρ : List Sl} {pos ap cp px : Pos} {a b e : Expr} {es : List Expr} {R : D → Prop} {T : Bool → Prop} {nx : List Sl → Prop} {p : Pt} {x : Str} {i : Nat}
theorem Ctx.pvar (c : Ctx P w K mg base k N sc bk) (hN : At N i x) (hd : (x == ("__debug__" : Str)) = false) (hcd : (x == ("__classdict__" : Str)) = false) : PE c.X (.Name x px) (tVar i) :=
  pe_var (X := c.X) (i := i) (by rw [c.eN]; exact hN.get) (by rw [c.esc]; rcases c.vis x hN.mem with h | h; exact .inl h; exact .inr (.inl h)) hd hcd

/-! ### lists -/
def Sl.getL : Sl → Option (List D) | .ow ds => some ds | .aw _ ds => some ds | _ => none
def Sl.putL : Sl → List D → Sl | .ow _, es => .ow es | .aw a _, es => .aw a es | s, _ => s
theorem getL_owned {r : Sl} {ds : List D} (h : r.getL = some ds) : r.owned = true := by cases r <;> first | rfl | cases h
theorem putL_owned {r : Sl} {ds es : List D} (h : r.getL = some ds) : (r.putL es).owned = true := by cases r <;> first | rfl | cases h
theorem repL {K : PySem.W.Frag} {fr : Addr → Prop} {H Hf : Hp} {r : Sl} {ds : List D} {p : Addr} (h : r.getL = some ds) (q : RepS K fr H Hf r (.ref p)) : ∃ xs, H p = some (.lst xs) ∧ Hf p = none ∧ Reps K Hf ds xs := by
  cases r with
  | ow es => cases h; obtain ⟨_, xs, e, _, h1, h2, h3⟩ := q; cases e; exact ⟨xs, h1, h2, h3⟩
  | aw a es => cases h; obtain ⟨_, xs, e, _, h1, h2, h3⟩ := q; cases e; exact ⟨xs, h1, h2, h3⟩
  | _ => cases h
theorem repL_put {K : PySem.W.Frag} {fr : Addr → Prop} {H Hf H1 Hf1 : Hp} {r : Sl} {ds es : List D} {p : Addr} {ys : List V} (h : r.getL = some ds) (q : RepS K fr H Hf r (.ref p)) (h1 : H1 p = some (.lst ys)) (h2 : Hf1 p = none) (h3 : Reps K Hf1 es ys) :
    RepS K (fun q => q = p) H1 Hf1 (r.putL es) (.ref p) := by
  cases r with
  | ow _ => exact ⟨p, ys, rfl, rfl, h1, h2, h3⟩
  | aw a _ => obtain ⟨_, xs, e, f, _⟩ := q; cases e; exact ⟨p, ys, rfl, ⟨rfl, f.2⟩, h1, h2, h3⟩
  | _ => cases h
theorem s_appG {r : Sl} {ds : List D} (hN : At N i x) (hi : At ρ i r) (hr : r.getL = some ds) (h : EvE c e ρ fun d => Sd (ds.length < sizeLine) (Nx ρ i nx (r.putL (ds ++ [d]))))
    (hs : ∀ env, swapsWith (.Call (.Attribute (.Name x px) (Str.ofString "append") ap) [e] [] cp) none pos.line env = pure false := by intro _; with_unfolding_all rfl) (hd : (x == ("__debug__" : Str)) = false := by decide) (hcd : (x == ("__classdict__" : Str)) = false := by decide)
    (hbase : ∀ env, attributeBase (.Name x px) (Str.ofString "append") env (eval (.Name x px) env) = eval (.Name x px) env := by intro _; with_unfolding_all rfl)
    (hfew : ∀ env, ((backTo cp (starEach [e] env)).all (fun x => !x.1) && (backToKw cp (keywordEach [] env)).all (fun x => x.1.isSome)
      && decide (([e] : List Expr).length + ([] : List Keyword).length + (if ([] : List Keyword).isEmpty then 0 else 1) < 30)) = true := by intro _; with_unfolding_all rfl)
    (hline : (ap.endLine == cp.line) = true := by with_unfolding_all rfl) (he : ∀ env, starEach [e] env = (false, eval e env) :: starEach [] env := by intro _; with_unfolding_all rfl) (hpl : ∀ env, (backTo cp (starEach [] env)).any (·.1) = false := by intro _; with_unfolding_all rfl) :
    EvS c (.Expr (.Call (.Attribute (.Name x px) (Str.ofString "append") ap) [e] [] cp) pos) ρ nx p := fun σ H Hf D S o => by
  obtain ⟨q, eq, rq⟩ := S.own hi.get (getL_owned hr)
  obtain ⟨xs, h1, h2, h3⟩ := repL hr rq
  refine bS_of (ps_expr (pe_bm PySem.F.plainAttrs_list PySem.F.slot_list_append PySem.F.type_list_append mt_append (c.pvar hN hd hcd) (pa_cons pbE pa_nil (he _)) (hbase _) (hfew _) hline (he _) (hpl _)) (hs _)) ⟨_, eq, .inl ⟨rfl, xs, .inl (.inl h1)⟩, ?_⟩
  refine h σ H Hf _ S fun d v H' Hf' ⟨hz, ρ', hs', hn⟩ rd g => ?_
  have S' := S.grw g
  have e1 : H' q = some (.lst xs) := g.s _ _ h1
  have e2 : Hf' q = none := g.n q h2 (by rw [h1]; simp) (by intro ys; rw [h1]; simp)
  refine ⟨q, xs, v, rfl, rfl, e1, by rw [← h3.length]; exact hz, ?_⟩
  refine o.nx _ _ Hf' ρ' ?_ hn
  rw [hs'.eq]
  have rq' := rq.grw g
  exact S'.upd hi.get (getL_owned hr) eq (grw_mut g.b e2) (repL_put hr rq' upd_same e2 ((h3.mono g.f).append (.one rd))) (putL_owned hr)
end
end EV

set_option Elab.async false
set_option linter.all false
set_option maxRecDepth 100000
namespace EV
open PySem PySem.Spec PySem.Calls PyProof.Rows L2

/-! ## dicts of data -/
section
variable {κ β : Type} [DecidableEq κ]
def valD (kvs : List (κ × β)) (k : κ) : Option β := (kvs.find? fun kv => decide (kv.1 = k)).map (·.2)
def putD (kvs : List (κ × β)) (k : κ) (v : β) : List (κ × β) :=
  if (valD kvs k).isSome = true then kvs.map (fun kv => if kv.1 = k then (kv.1, v) else kv) else kvs ++ [(k, v)]
theorem valD_pos {q : κ × β} {r : List (κ × β)} {k : κ} (e : q.1 = k) : valD (q :: r) k = some q.2 := by simp [valD, List.find?_cons, e]
theorem valD_neg {q : κ × β} {r : List (κ × β)} {k : κ} (e : ¬ q.1 = k) : valD (q :: r) k = valD r k := by simp [valD, List.find?_cons, e]
end
def D.key1 : D → Option Key | .int i => some (.inl i) | .str x => some (.inr x) | _ => none
def D.keys : List D → Option (List Key)
  | [] => some []
  | d :: r => match d.key1, D.keys r with | some k, some ks => some (k :: ks) | _, _ => none
theorem rep_key1 {K : PySem.W.Frag} {H : Hp} {d : D} {k : Key} {v : V} (h : d.key1 = some k) (r : Rep K H d v) : v = kV k := by
  cases d with
  | int i => cases h; exact rep_int.mp r
  | str x => cases h; exact rep_str.mp r
  | _ => cases h
theorem reps_keys {K : PySem.W.Frag} {H : Hp} : ∀ {ds : List D} {ks : List Key} {xs : List V}, D.keys ds = some ks → Reps K H ds xs → xs = ks.map kV
  | [], ks, xs, h, r => by cases h; rw [reps_nil.mp r]; rfl
  | d :: ds, ks, xs, h, r => by
    obtain ⟨x, t, rfl, r1, r2⟩ := reps_cons.mp r
    unfold D.keys at h
    cases e1 : d.key1 with
    | none => rw [e1] at h; cases h
    | some k =>
      cases e2 : D.keys ds with
      | none => rw [e1, e2] at h; cases h
      | some ks' =>
        rw [e1, e2] at h; cases h
        rw [rep_key1 e1 r1, reps_keys e2 r2]; rfl
def Sl.getK : Sl → Option (List (Key × D)) | .oK kvs => some kvs | .aK _ kvs => some kvs | _ => none
def Sl.putKv : Sl → List (Key × D) → Sl | .oK _, es => .oK es | .aK a _, es => .aK a es | s, _ => s
def Sl.getT : Sl → Option (List (List Key × D)) | .oT kvs => some kvs | .aT _ kvs => some kvs | _ => none
def Sl.putTv : Sl → List (List Key × D) → Sl | .oT _, es => .oT es | .aT a _, es => .aT a es | s, _ => s
theorem getK_owned {r : Sl} {kvs : List (Key × D)} (h : r.getK = some kvs) : r.owned = true := by cases r <;> first | rfl | cases h
theorem getT_owned {r : Sl} {kvs : List (List Key × D)} (h : r.getT = some kvs) : r.owned = true := by cases r <;> first | rfl | cases h
section
variable {K : PySem.W.Frag} {fr : Addr → Prop} {H Hf H1 Hf1 : Hp} {r : Sl} {p : Addr}
theorem repK {kvs : List (Key × D)} (h : r.getK = some kvs) (q : RepS K fr H Hf r (.ref p)) : ∃ xs, H p = some (.dK xs) ∧ Hf p = none ∧ KVR K Hf kvs xs := by
  cases r with
  | oK es => cases h; obtain ⟨_, xs, e, _, h1, h2, h3⟩ := q; cases e; exact ⟨xs, h1, h2, h3⟩
  | aK a es => cases h; obtain ⟨_, xs, e, _, h1, h2, h3⟩ := q; cases e; exact ⟨xs, h1, h2, h3⟩
  | _ => cases h
theorem repT {kvs : List (List Key × D)} (h : r.getT = some kvs) (q : RepS K fr H Hf r (.ref p)) : ∃ xs, H p = some (.dT xs) ∧ Hf p = none ∧ TVR K Hf kvs xs := by
  cases r with
  | oT es => cases h; obtain ⟨_, xs, e, _, h1, h2, h3⟩ := q; cases e; exact ⟨xs, h1, h2, h3⟩
  | aT a es => cases h; obtain ⟨_, xs, e, _, h1, h2, h3⟩ := q; cases e; exact ⟨xs, h1, h2, h3⟩
  | _ => cases h
/-- a datum, perhaps, and what stands for it -/
def RelD (K : PySem.W.Frag) (Hf : Hp) : Option D → Option V → Prop
  | none, none => True
  | some d, some v => Rep K Hf d v
  | _, _ => False
theorem KVR.val {kvs : List (Key × D)} {xs : List (Key × V)} (h : KVR K Hf kvs xs) (k : Key) : RelD K Hf (valD kvs k) (valV xs k) := by
  unfold KVR at h
  induction h with
  | nil => exact True.intro
  | @cons a b as bs h t ih =>
    by_cases e : a.1 = k
    · rw [valD_pos e, valV_pos (h.1.symm.trans e)]; exact h.2
    · rw [valD_neg e, valV_neg (fun z => e (h.1.trans z))]; exact ih
theorem RelD.isSome {o : Option D} {u : Option V} (h : RelD K Hf o u) : o.isSome = u.isSome := by
  cases o <;> cases u <;> first | rfl | exact h.elim
theorem TVR.val {kvs : List (List Key × D)} {xs : List (List Key × Addr × V)} (h : TVR K Hf kvs xs) (k : List Key) : RelD K Hf (valD kvs k) (atT xs k) := by
  unfold TVR at h
  induction h with
  | nil => exact True.intro
  | @cons a b as bs h t ih =>
    by_cases e : a.1 = k
    · have z : L2.atT (b :: bs) k = some b.2.2 := by simp [L2.atT, List.find?_cons, h.1.symm.trans e]
      rw [valD_pos e, z]; exact h.2.2
    · have z : L2.atT (b :: bs) k = L2.atT bs k := by
        have : ¬ b.1 = k := fun z => e (h.1.trans z)
        simp [L2.atT, List.find?_cons, this]
      rw [valD_neg e, z]; exact ih
theorem TVR.keysT {kvs : List (List Key × D)} {xs : List (List Key × Addr × V)} (h : TVR K Hf kvs xs) : ∀ x ∈ xs, SqT K Hf x.2.1 (x.1.map kV) := by
  unfold TVR at h
  induction h with
  | nil => intro x hx; cases hx
  | @cons a b as bs h t ih =>
    intro x hx
    rcases List.mem_cons.mp hx with e | hx
    · subst e; rw [← h.1]; exact h.2.1
    · exact ih x hx
/-- what the dict in slot r holds at d -/
inductive LkP : Sl → D → Option D → Prop
  | k {r : Sl} {kvs : List (Key × D)} {d : D} {k : Key} (h : r.getK = some kvs) (hk : d.key1 = some k) : LkP r d (valD kvs k)
  | t {r : Sl} {kvs : List (List Key × D)} {ds : List D} {k : List Key} (h : r.getT = some kvs) (hk : D.keys ds = some k) : LkP r (.tup ds) (valD kvs k)
/-- the slot behind a store -/
inductive PtP : Sl → D → D → Sl → Prop
  | k {r : Sl} {kvs : List (Key × D)} {d e : D} {k : Key} (h : r.getK = some kvs) (hk : d.key1 = some k) (hz : kvs.length < sizeLine) : PtP r d e (r.putKv (putD kvs k e))
  | t {r : Sl} {kvs : List (List Key × D)} {ds : List D} {e : D} {k : List Key} (h : r.getT = some kvs) (hk : D.keys ds = some k) (hz : kvs.length < sizeLine) : PtP r (.tup ds) e (r.putTv (putD kvs k e))
theorem LkP.owned {d : D} {o : Option D} (h : LkP r d o) : r.owned = true := by cases h with | k h _ => exact getK_owned h | t h _ => exact getT_owned h
theorem PtP.owned {d e : D} {r' : Sl} (h : PtP r d e r') : r.owned = true := by cases h with | k h _ _ => exact getK_owned h | t h _ _ => exact getT_owned h
theorem LkP.get {d : D} {o : Option D} {v : V} (h : LkP r d o) (q : RepS K fr H Hf r (.ref p)) (rv : Rep K Hf d v) (sb : Same Hf H) : ∃ u, DGet K H p v u ∧ RelD K Hf o u := by
  cases h with
  | k h hk =>
    obtain ⟨xs, h1, _, h3⟩ := repK h q
    rw [rep_key1 hk rv]
    exact ⟨_, .inl ⟨xs, _, .inl h1, rfl, rfl⟩, h3.val _⟩
  | t h hk =>
    obtain ⟨xs, h1, _, h3⟩ := repT h q
    obtain ⟨a, ys, rfl, h4, h5⟩ := rep_tup.mp rv
    have := reps_keys hk h5
    subst this
    exact ⟨_, .inr ⟨xs, _, a, .inl h1, fun x hx => same_tup sb (h3.keysT x hx), rfl, same_tup sb h4, rfl⟩, h3.val _⟩
theorem KVR.length {κ : Type} {kvs : List (κ × D)} {xs : List (κ × V)} (h : KVR K Hf kvs xs) : kvs.length = xs.length := Paired.length h
theorem TVR.length {kvs : List (List Key × D)} {xs : List (List Key × Addr × V)} (h : TVR K Hf kvs xs) : kvs.length = xs.length := Paired.length h
end
section
variable {P : Program} {w : World} {K : PySem.W.Frag} {mg : Str → Option Value} {base : Heap} {k : Nat} {N : List Str} {sc : Scope} {bk : Bool} {c : Ctx P w K mg base k N sc bk} {ρ : List Sl} {pos ap cp px tp : Pos} {a b e f : Expr} {es : List Expr} {R : D → Prop} {T : Bool → Prop} {nx : List Sl → Prop} {p : Pt} {x : Str} {i : Nat} {r : Sl}
theorem Ctx.hu (c : Ctx P w K mg base k N sc bk) : c.X.A.units + 1 < cLine := hu_of c.room
end
end EV

set_option Elab.async false
set_option linter.all false
set_option maxRecDepth 100000
namespace EV
open PySem PySem.Spec PySem.Calls PyProof.Rows L2

/-! ## list comprehensions -/
section
variable {prog : Program} {w : World} {A : Around} {R : Result → Shared → Prop} {s : Shared}
end

/-- an owned thing, by where it stands -/
def Sl.tag (a : Addr) : Sl → Sl
  | .ow ds => .aw a ds | .oT ds => .aT a ds | .oK ds => .aK a ds
  | .aw b ds => .aw b ds | .aT b ds => .aT b ds | .aK b ds => .aK b ds
  | .un => .un | .va d => .va d
/-- the slots of a block: its own names, unset, and those of the def that it reads -/
inductive FrS (t : Str → Addr) (nm : List (Str × NameKind)) (N : List Str) (ρ : List Sl) : List Str → List Sl → Prop
  | nil : FrS t nm N ρ [] []
  | un {y : Str} {M : List Str} {r : List Sl} : FrS t nm N ρ M r → FrS t nm N ρ (y :: M) (.un :: r)
  | fr {y : Str} {i : Nat} {s s' : Sl} {M : List Str} {r : List Sl} (hN : At N i y) (hs : At ρ i s) (hy : (y, NameKind.free) ∈ nm) (ht : s.tag (t y) = s') : FrS t nm N ρ M r → FrS t nm N ρ (y :: M) (s' :: r)
theorem FrS.len {t : Str → Addr} {nm : List (Str × NameKind)} {N M : List Str} {ρ r : List Sl} (h : FrS t nm N ρ M r) : M.length = r.length := by
  induction h with
  | nil => rfl
  | un t ih => simp [ih]
  | fr hN hs hy ht t ih => simp [ih]
/-- as many slots, and those that were set are as they were -/
inductive WkS : List Sl → List Sl → Prop
  | nil : WkS [] []
  | un {r : Sl} {a b : List Sl} : WkS a b → WkS (.un :: a) (r :: b)
  | same {r : Sl} {a b : List Sl} : WkS a b → WkS (r :: a) (r :: b)
theorem WkS.weak {a b : List Sl} (h : WkS a b) : a.length = b.length ∧ ∀ (i : Nat) (r : Sl), a[i]? = some r → r ≠ .un → b[i]? = some r := by
  induction h with
  | nil => exact ⟨rfl, fun i r e => by simp at e⟩
  | un t ih => exact ⟨by simp [ih.1], fun i r e hu => by cases i with | zero => simp at e; exact absurd e.symm hu | succ i => simpa using ih.2 i r (by simpa using e) hu⟩
  | same t ih => exact ⟨by simp [ih.1], fun i r e hu => by cases i with | zero => simpa using e | succ i => simpa using ih.2 i r (by simpa using e) hu⟩
section
variable {P : Program} {w : World} {K : PySem.W.Frag} {mg : Str → Option Value} {base : Heap} {k : Nat} {N : List Str} {sc : Scope} {bk : Bool} {c : Ctx P w K mg base k N sc bk} {ρ : List Sl} {pos : Pos} {e : Expr} {R : D → Prop} {T : Bool → Prop}
end
end EV

set_option Elab.async false
set_option linter.all false
set_option maxRecDepth 100000
namespace EV
open PySem PySem.Spec PySem.Calls PyProof.Rows L2
end EV

set_option Elab.async false
set_option linter.all false
set_option maxRecDepth 100000
namespace EV
open PySem PySem.Spec PySem.Calls PyProof.Rows L2
section
variable {P : Program} {w : World} {K : PySem.W.Frag} {mg : Str → Option Value} {base : Heap} {k : Nat} {N : List Str} {sc : Scope} {bk : Bool} {c : Ctx P w K mg base k N sc bk} {ρ : List Sl} {pos : Pos}
theorem FrS.start {t : Str → Addr} {nm : List (Str × NameKind)} {N M : List Str} {ρ r : List Sl} {σ : L2.St} (h : FrS t nm N ρ M r) (hσ : ∀ (i : Nat) (s : Sl), ρ[i]? = some s → s ≠ .un → ∃ v, σ[i]? = some (some v)) :
    ∃ σ0 : L2.St, σ0.length = r.length ∧ ∀ (j : Nat) (s : Sl), r[j]? = some s → (s = .un ∧ σ0[j]? = some none) ∨ ∃ (i : Nat) (y : Str) (v : V) (s0 : Sl), M[j]? = some y ∧ (y, NameKind.free) ∈ nm ∧ N[i]? = some y ∧ ρ[i]? = some s0 ∧ s = s0.tag (t y) ∧ s0 ≠ .un ∧ σ[i]? = some (some v) ∧ σ0[j]? = some (some v) := by
  induction h with
  | nil => exact ⟨[], rfl, fun j s e => by simp at e⟩
  | un t ih =>
    obtain ⟨σ0, hl, h0⟩ := ih
    refine ⟨none :: σ0, by simp [hl], fun j s e => ?_⟩
    cases j with
    | zero => simp at e; exact .inl ⟨e.symm, by simp⟩
    | succ j =>
      rcases h0 j s (by simpa using e) with ⟨h1, h2⟩ | ⟨i, y, v, s0, h1, h2, h3, h4, h5, h6, h7, h8⟩
      · exact .inl ⟨h1, by simpa using h2⟩
      · exact .inr ⟨i, y, v, s0, by simpa using h1, h2, h3, h4, h5, h6, h7, by simpa using h8⟩
  | @fr y i s' s'' M r hN hs hy ht t ih =>
    obtain ⟨σ0, hl, h0⟩ := ih
    by_cases hu : s' = .un
    · refine ⟨none :: σ0, by simp [hl], fun j s e => ?_⟩
      cases j with
      | zero => simp at e; subst hu; exact .inl ⟨e.symm.trans ht.symm, by simp⟩
      | succ j =>
        rcases h0 j s (by simpa using e) with ⟨h1, h2⟩ | ⟨i, y, v, s0, h1, h2, h3, h4, h5, h6, h7, h8⟩
        · exact .inl ⟨h1, by simpa using h2⟩
        · exact .inr ⟨i, y, v, s0, by simpa using h1, h2, h3, h4, h5, h6, h7, by simpa using h8⟩
    · obtain ⟨v, ev⟩ := hσ i s' hs.get hu
      refine ⟨some v :: σ0, by simp [hl], fun j s e => ?_⟩
      cases j with
      | zero => simp at e; subst e; exact .inr ⟨i, y, v, s', by simp, hy, hN.get, hs.get, ht.symm, hu, ev, by simp⟩
      | succ j =>
        rcases h0 j s (by simpa using e) with ⟨h1, h2⟩ | ⟨i, y, v, s0, h1, h2, h3, h4, h5, h6, h7, h8⟩
        · exact .inl ⟨h1, by simpa using h2⟩
        · exact .inr ⟨i, y, v, s0, by simpa using h1, h2, h3, h4, h5, h6, h7, by simpa using h8⟩
/-- a thing that is in no slot is changed -/
theorem StR.apart {K : PySem.W.Frag} {H₀ Hf₀ H Hf : Hp} {σ : L2.St} {ρ : List Sl} {a : Addr} {o : HO} (S : StR K H₀ Hf₀ σ H Hf ρ) (h0 : H₀ a = none) (hf : Hf a = none) (ha : ∀ (i : Nat) (r : Sl), ρ[i]? = some r → r.owned = true → σ[i]? ≠ some (some (.ref a))) : StR K H₀ Hf₀ σ (L2.upd H a o) Hf ρ :=
  ⟨⟨fun b u e => by rw [L2.upd_ne (ne_of_none e h0)]; exact S.bas.s b u e, S.bas.f, fun b u e => by rw [L2.upd_ne (ne_of_none e hf)]; exact S.bas.b b u e, S.bas.n⟩, S.len, fun i r hi hu => by
    obtain ⟨v, e, q⟩ := S.at_ i r hi hu
    refine ⟨v, e, ?_⟩
    have hg : Grw (del H a) Hf (L2.upd H a o) Hf := grw_mut S.bas.b hf
    exact (q.del' (p := a) fun ow z => by subst z; exact ha i r hi ow e).grw hg, S.sep⟩
end
end EV

set_option Elab.async false
set_option linter.all false
set_option maxRecDepth 100000
namespace EV
open PySem PySem.Spec PySem.Calls PyProof.Rows L2

/-! ## data that hold no list -/
mutual
def D.nl : D → Prop
  | .lst _ => False
  | .tup ds => D.nls ds
  | _ => True
def D.nls : List D → Prop
  | [] => True
  | d :: ds => d.nl ∧ D.nls ds
end
theorem nl_int {i : Int} : (D.int i).nl := by simp [D.nl]
theorem nl_tup {ds : List D} (h : D.nls ds) : (D.tup ds).nl := by simpa [D.nl] using h
theorem same_del' {Hf : Hp} {p : Addr} {K : PySem.W.Frag} {a : Addr} {xs : List V} {zs : List V} (hp : Hf p = some (.lst zs)) (h : SqT K Hf a xs) : SqT K (del Hf p) a xs := by
  rcases h with (h | ⟨o, h⟩) | h
  · exact .inl (.inl (by rw [del_ne (by rintro rfl; rw [hp] at h; cases h)]; exact h))
  · exact .inl (.inr ⟨o, by rw [del_ne (by rintro rfl; rw [hp] at h; cases h)]; exact h⟩)
  · exact .inr h
mutual
theorem nl_del {K : PySem.W.Frag} {Hf : Hp} {p : Addr} {zs : List V} (hp : Hf p = some (.lst zs)) : ∀ (d : D) {v : V}, d.nl → Rep K Hf d v → Rep K (del Hf p) d v
  | .non, _, _, h => by simpa [Rep] using h
  | .bl _, _, _, h => by simpa [Rep] using h
  | .int _, _, _, h => by simpa [Rep] using h
  | .str _, _, _, h => by simpa [Rep] using h
  | .tup ds, v, f, h => by
    simp only [Rep] at h ⊢
    obtain ⟨a, xs, e, h1, h2⟩ := h
    exact ⟨a, xs, e, same_del' hp h1, nls_del hp ds (by simpa [D.nl] using f) h2⟩
  | .lst _, _, f, _ => by simp [D.nl] at f
  | .exc C, _, _, h => by
    simp only [Rep] at h ⊢
    obtain ⟨a, e, h⟩ := h
    exact ⟨a, e, by rw [del_ne (by rintro rfl; rw [hp] at h; cases h)]; exact h⟩
theorem nls_del {K : PySem.W.Frag} {Hf : Hp} {p : Addr} {zs : List V} (hp : Hf p = some (.lst zs)) : ∀ (ds : List D) {xs : List V}, D.nls ds → Reps K Hf ds xs → Reps K (del Hf p) ds xs
  | [], _, _, h => by simpa [Reps] using h
  | d :: ds, xs, f, h => by
    simp only [Reps] at h ⊢
    simp only [D.nls] at f
    obtain ⟨x, r, e, h1, h2⟩ := h
    exact ⟨x, r, e, nl_del hp d f.1 h1, nls_del hp ds f.2 h2⟩
end
def Sl.nl : Sl → Prop
  | .va d => d.nl
  | .ow ds => D.nls ds
  | _ => False
section
variable {P : Program} {w : World} {K : PySem.W.Frag} {mg : Str → Option Value} {base : Heap} {k : Nat} {N : List Str} {sc : Scope} {bk : Bool} {c : Ctx P w K mg base k N sc bk} {ρ ρ' : List Sl} {pos ap cp px tp : Pos} {a b e f : Expr} {es : List Expr} {R : D → Prop} {T : Bool → Prop} {nx : List Sl → Prop} {p : Pt} {x : Str} {i : Nat} {r : Sl} {ds : List D}
theorem StR.freezeL {H₀ Hf₀ H Hf : Hp} {σ : L2.St} (S : StR K H₀ Hf₀ σ H Hf ρ) (h : ρ[i]? = some r) (hr : r.getL = some ds) :
    ∃ q xs, H q = some (.lst xs) ∧ Hf q = none ∧ StR K H₀ Hf₀ σ H (L2.upd Hf q (.lst xs)) (ρ.set i (.va (.lst ds))) := by
  obtain ⟨q, ev, rq⟩ := S.own h (getL_owned hr)
  obtain ⟨xs, hq, hfq, hrs⟩ := repL hr rq
  obtain ⟨_, _, eq', fq, _⟩ := rq.un_fr (getL_owned hr)
  cases eq'
  have hi : i < ρ.length := (List.getElem?_eq_some_iff.mp h).1
  have hown := getL_owned hr
  have sf : Same Hf (L2.upd Hf q (.lst xs)) := fun b o e => by rw [L2.upd_ne (ne_of_none e hfq)]; exact e
  have sb : Same (L2.upd Hf q (.lst xs)) H := fun b o e => by
    by_cases z : b = q
    · subst z; rw [L2.upd_same] at e; rw [hq]; exact e
    · rw [L2.upd_ne z] at e; exact S.sb b o e
  refine ⟨q, xs, hq, hfq, ⟨S.bas.s, S.bas.f.trans sf, sb, fun b h1 h2 h3 => ?_⟩, by simp [S.len], fun j r' hj hu => ?_, fun j j' r1 r2 q' hne h1 h2 o1 o2 => ?_⟩
  · have e := S.bas.n b h1 h2 h3
    by_cases z : b = q
    · subst z; exact absurd fq h2
    · rw [L2.upd_ne z]; exact e
  · by_cases z : j = i
    · subst z
      rw [List.getElem?_set_self hi] at hj
      cases hj
      exact ⟨_, ev, rep_lst.mpr ⟨q, xs, rfl, .inl (.inl L2.upd_same), hrs.mono sf⟩⟩
    · rw [List.getElem?_set_ne (Ne.symm z)] at hj
      obtain ⟨v, e1, e2⟩ := S.at_ j r' hj hu
      refine ⟨v, e1, ?_⟩
      have key : r'.owned = true → v ≠ .ref q := fun ho z => by
        subst z
        exact S.sep i j _ _ q (Ne.symm ‹_›) h hj hown ho ev e1
      cases r' with
      | un => exact e2
      | va d => exact Rep.mono sf d e2
      | ow es => obtain ⟨p', xs', rfl, f', h1, h2, h3⟩ := e2; exact ⟨p', xs', rfl, f', h1, by rw [L2.upd_ne (fun z => key rfl (by rw [z]))]; exact h2, h3.mono sf⟩
      | oT es => obtain ⟨p', xs', rfl, f', h1, h2, h3⟩ := e2; exact ⟨p', xs', rfl, f', h1, by rw [L2.upd_ne (fun z => key rfl (by rw [z]))]; exact h2, h3.mono sf⟩
      | oK es => obtain ⟨p', xs', rfl, f', h1, h2, h3⟩ := e2; exact ⟨p', xs', rfl, f', h1, by rw [L2.upd_ne (fun z => key rfl (by rw [z]))]; exact h2, h3.mono sf⟩
      | aw a es => obtain ⟨p', xs', rfl, f', h1, h2, h3⟩ := e2; exact ⟨p', xs', rfl, f', h1, by rw [L2.upd_ne (fun z => key rfl (by rw [z]))]; exact h2, h3.mono sf⟩
      | aT a es => obtain ⟨p', xs', rfl, f', h1, h2, h3⟩ := e2; exact ⟨p', xs', rfl, f', h1, by rw [L2.upd_ne (fun z => key rfl (by rw [z]))]; exact h2, h3.mono sf⟩
      | aK a es => obtain ⟨p', xs', rfl, f', h1, h2, h3⟩ := e2; exact ⟨p', xs', rfl, f', h1, by rw [L2.upd_ne (fun z => key rfl (by rw [z]))]; exact h2, h3.mono sf⟩
  · have out : ∀ {j : Nat} {r : Sl}, (ρ.set i (.va (.lst ds)))[j]? = some r → r.owned = true → ρ[j]? = some r := fun {j r} hj ho => by
      by_cases z : j = i
      · subst z; rw [List.getElem?_set_self hi] at hj; cases hj; cases ho
      · rw [List.getElem?_set_ne (Ne.symm z)] at hj; exact hj
    exact S.sep j j' r1 r2 q' hne (out h1 o1) (out h2 o2) o1 o2
theorem grw_thaw {H Hf H' Hf' : Hp} {q : Addr} {xs : List V} (sb : Same Hf H) (hq : H q = some (.lst xs)) (hfq : Hf q = none) (g : Grw H (L2.upd Hf q (.lst xs)) H' Hf') : Grw H Hf H' (del Hf' q) :=
  ⟨g.s, fun b o e => by rw [del_ne (ne_of_none e hfq)]; exact g.f b o (by rw [upd_ne (ne_of_none e hfq)]; exact e), fun b o e => by obtain ⟨_, e2⟩ := del_some e; exact g.b b o e2, fun b h1 h2 h3 => by
    by_cases z : b = q
    · subst z; exact del_same
    · rw [del_ne z]; exact g.n b (by rw [upd_ne z]; exact h1) h2 h3⟩
/-- an owned list is read within e, and what e tells holds no list -/
theorem e_bor (i : Nat) (hi : At ρ i r) (hr : r.getL = some ds) (hs : SSet ρ i (.va (.lst ds)) ρ') (h : EvE c e ρ' fun d => Sd d.nl (R d)) : EvE c e ρ R := fun σ H Hf Q S q => by
  obtain ⟨a, xs, ha, hfa, S1⟩ := S.freezeL hi.get hr
  rw [← hs.eq] at S1
  exact h σ H _ Q S1 fun d v H' Hf' ⟨fl, rd⟩ rv g => q d v H' _ rd (nl_del (g.f a _ upd_same) d fl rv) (grw_thaw S.sb ha hfa g)
/-! ### an owned list, read -/
theorem e_ixO {p2 : Pos} (hN : At N i x) (hi : At ρ i r) (hr : r.getL = some ds) (hs : SSet ρ i (.va (.lst ds)) ρ') (h : EvE c b ρ' fun y => Sd y.nl (∃ j d, y = .int j ∧ atI ds j = some d ∧ Sd d.nl (R d))) (hx : At ρ' i (.va (.lst ds)))
    (hd : (x == ("__debug__" : Str)) = false := by decide) (hcd : (x == ("__classdict__" : Str)) = false := by decide) (hp : PlainIx b := by with_unfolding_all exact fun _ _ => rfl) : EvE c (.Subscript (.Name x p2) b pos) ρ R :=
  e_bor i hi hr hs (e_ix (e_var hN hx (h.imp fun y ⟨_, j, d, e1, e2, e3⟩ => ⟨ds, j, d, rfl, e1, e2, e3⟩) hd hcd) hp)
theorem SSet.at {α : Type} {l l' : List α} {i : Nat} {r : α} (h : SSet l i r l') : At l' i r := by
  induction h with
  | z => exact .z
  | s _ ih => exact .s ih
/-- int(b) -/
def b2 (b : Bool) : Int := if b then 1 else 0
theorem e_intB {p1 : Pos} (hm : mg (Str.ofString "int") = none) (h : EvE c e ρ (B1 fun b => R (.int (b2 b)))) (hg : sc.names.lookup (Str.ofString "int") = some .globalImplicit := by with_unfolding_all rfl)
    (he : ∀ env, starEach [e] env = (false, eval e env) :: starEach [] env := by intro _; with_unfolding_all rfl) : EvE c (.Call (.Name (Str.ofString "int") p1) [e] [] pos) ρ R :=
  e_bty call_int1 (q := fun ds R => ∃ b, ds = [.bl b] ∧ R (.int (b2 b))) (fun ds vs H Hf Q R s rs ⟨b, e1, hR⟩ q => by
    subst e1
    obtain ⟨v, rfl, rv⟩ := reps1 rs
    rw [rep_bl] at rv; subst rv
    exact .inr ⟨b, rfl, q _ _ H Hf hR (rep_int.mpr rfl) (.refl s)⟩) hm (by decide +kernel) (a_cons (h.imp fun d ⟨b, h1, h2⟩ => a_nil ⟨b, by rw [h1], h2⟩) he) hg (by decide) (by decide) he (by intro _; with_unfolding_all rfl)
end
end EV

set_option Elab.async false
set_option linter.all false
set_option maxRecDepth 100000
set_option maxHeartbeats 0
namespace EV
open PySem PySem.Spec PyProof.Rows L2
section
variable {P : Program} {w : World} {K : PySem.W.Frag} {mg : Str → Option Value} {base h : Heap}
def DefIn (K : PySem.W.Frag) (mg : Str → Option Value) (x : Str) (st : Stmt) : Prop := ∃ f fd, mg x = some (.ref f) ∧ Fun K x x st f fd
theorem def_mk {x : Str} {st : Stmt} {f : Addr} {oc : Value} {od an : Option Addr} {osl : Array (Option Value)} {kV doc pm cdv ct : Value} (KX : K.In h) (G : h.Ns mainGlobals mg) (a : PySem.W.nsIn K mainGlobals x = some (some (.ref f)))
    (l : K.lookup f = some ⟨oc, od, .func (PySem.W.fnOf x x (defArgs st) (defBody st) (defScope st) .none kV doc pm an cdv ct), osl⟩) (c : PySem.W.codeIn K cdv x = true) (k : PySem.W.keepIn K (.ref f) = true) : DefIn K mg x st :=
  ⟨f, _, PySem.W.mg_of KX G a, fun_mk l c k⟩
theorem kit_ty {t : Value} {T : String} {b : Bool} (e : (t == Value.type T) = false) (m : PySem.W.kitMeta T = true) (s : PySem.W.subIn K t (.type T) = some b) : PySem.W.kitOne K t (.type T) = some b := by
  unfold PySem.W.kitOne PySem.W.kitCls
  simp [e, m, s]
theorem kit_same {t : Value} (e : (t == t) = true) : PySem.W.kitOne K t t = some true := by
  unfold PySem.W.kitOne
  simp [e]
/-- no built-in name is taken -/
structure Txt (K : PySem.W.Frag) (mg : Str → Option Value) : Prop where
  abs : mg (Str.ofString "abs") = none
  len : mg (Str.ofString "len") = none
  isin : mg (Str.ofString "isinstance") = none
  range : mg (Str.ofString "range") = none
  int : mg (Str.ofString "int") = none
  bool : mg (Str.ofString "bool") = none
  tuple : mg (Str.ofString "tuple") = none
  list : mg (Str.ofString "list") = none
  max : mg (Str.ofString "max") = none
  min : mg (Str.ofString "min") = none
  sum : mg (Str.ofString "sum") = none
  sorted : mg (Str.ofString "sorted") = none
  zip : mg (Str.ofString "zip") = none
  enum : mg (Str.ofString "enumerate") = none
  all : mg (Str.ofString "all") = none
  any : mg (Str.ofString "any") = none
  dict : mg (Str.ofString "dict") = none
  ib : PySem.W.kitOne K (.type "int") (.type "bool") = some false
theorem Txt.c_int (T : Txt K mg) : ClsName mg (Str.ofString "int") (.type "int") := .inr ⟨_, rfl, T.int, by decide +kernel, by decide +kernel⟩
theorem Txt.c_bool (T : Txt K mg) : ClsName mg (Str.ofString "bool") (.type "bool") := .inr ⟨_, rfl, T.bool, by decide +kernel, by decide +kernel⟩
theorem Txt.c_tuple (T : Txt K mg) : ClsName mg (Str.ofString "tuple") (.type "tuple") := .inr ⟨_, rfl, T.tuple, by decide +kernel, by decide +kernel⟩
theorem kit_ii : PySem.W.kitOne K (.type "int") (.type "int") = some true := kit_same (by decide)
theorem kit_tt : PySem.W.kitOne K (.type "tuple") (.type "tuple") = some true := kit_same (by decide)
theorem txt_mk (KX : K.In h) (G : h.Ns mainGlobals mg)
    (z1 : PySem.W.nsIn K mainGlobals (Str.ofString "abs") = some none)
    (z2 : PySem.W.nsIn K mainGlobals (Str.ofString "len") = some none)
    (z3 : PySem.W.nsIn K mainGlobals (Str.ofString "isinstance") = some none)
    (z4 : PySem.W.nsIn K mainGlobals (Str.ofString "range") = some none)
    (z5 : PySem.W.nsIn K mainGlobals (Str.ofString "int") = some none)
    (z6 : PySem.W.nsIn K mainGlobals (Str.ofString "bool") = some none)
    (z7 : PySem.W.nsIn K mainGlobals (Str.ofString "tuple") = some none)
    (z8 : PySem.W.nsIn K mainGlobals (Str.ofString "list") = some none)
    (z9 : PySem.W.nsIn K mainGlobals (Str.ofString "max") = some none)
    (z10 : PySem.W.nsIn K mainGlobals (Str.ofString "min") = some none)
    (z11 : PySem.W.nsIn K mainGlobals (Str.ofString "sum") = some none)
    (z12 : PySem.W.nsIn K mainGlobals (Str.ofString "sorted") = some none)
    (z13 : PySem.W.nsIn K mainGlobals (Str.ofString "zip") = some none)
    (z14 : PySem.W.nsIn K mainGlobals (Str.ofString "enumerate") = some none)
    (z15 : PySem.W.nsIn K mainGlobals (Str.ofString "all") = some none)
    (z16 : PySem.W.nsIn K mainGlobals (Str.ofString "any") = some none)
    (z17 : PySem.W.nsIn K mainGlobals (Str.ofString "dict") = some none)
    (sib : PySem.W.subIn K (.type "int") (.type "bool") = some false) : Txt K mg :=
  ⟨PySem.W.mg_none_of KX G z1, PySem.W.mg_none_of KX G z2, PySem.W.mg_none_of KX G z3, PySem.W.mg_none_of KX G z4, PySem.W.mg_none_of KX G z5, PySem.W.mg_none_of KX G z6, PySem.W.mg_none_of KX G z7, PySem.W.mg_none_of KX G z8,
   PySem.W.mg_none_of KX G z9, PySem.W.mg_none_of KX G z10, PySem.W.mg_none_of KX G z11, PySem.W.mg_none_of KX G z12, PySem.W.mg_none_of KX G z13, PySem.W.mg_none_of KX G z14, PySem.W.mg_none_of KX G z15, PySem.W.mg_none_of KX G z16, PySem.W.mg_none_of KX G z17,
   kit_ty (by decide) (by decide) sib⟩
theorem cal_mk {k : Nat} {x : Str} {st : Stmt} {F : Fn} {ps : List Str} {f : Addr} {fd : FuncData} (m : mg x = some (.ref f)) (Fu : Fun K x x st f fd) (ok : FnOk P w K mg base (CXE P w) k f fd ps (spF K F))
    (hb : ∀ (kV doc pm : Value) (an : Option Addr) (cdv ct : Value) (us : List Value), us.length = ps.length → bindArgs (PySem.W.fnOf x x (defArgs st) (defBody st) (defScope st) .none kV doc pm an cdv ct) ⟨us, []⟩ = pure (ps.zip us)) : Cal P w K mg base k x F :=
  ⟨f, fd, ps, m, Fu.kp, Fu.binds hb, ok⟩
theorem len1 {α : Type} (us : List α) (h : us.length = 1) : ∃ a, us = [a] := by match us, h with | [a], _ => exact ⟨a, rfl⟩
theorem len2 {α : Type} (us : List α) (h : us.length = 2) : ∃ a b, us = [a, b] := by match us, h with | [a, b], _ => exact ⟨a, b, rfl⟩
theorem len3 {α : Type} (us : List α) (h : us.length = 3) : ∃ a b c, us = [a, b, c] := by match us, h with | [a, b, c], _ => exact ⟨a, b, c, rfl⟩
theorem len4 {α : Type} (us : List α) (h : us.length = 4) : ∃ a b c d, us = [a, b, c, d] := by match us, h with | [a, b, c, d], _ => exact ⟨a, b, c, d, rfl⟩
def Flaw : Fn := fun ds r => ∃ ns : List Int, ns.length ≤ 63 ∧ ds = [.lst (ns.map D.int)] ∧ r = .ok (.va (.bl true))
theorem law_ok {K : PySem.W.Frag} (H : Hp) (a : Addr) (ns : List Int) (hl : ns.length ≤ 63) (hS : SqL K H a (ns.map V.int)) : spF K Flaw [.ref a] H (fun v _ => v = .bl true) fun _ _ _ => False :=
  ⟨H, [.lst (ns.map D.int)], .ok (.va (.bl true)), .refl H, .cons (rep_lst.mpr ⟨a, _, rfl, hS, reps_ints ns⟩) (reps_nil.mpr rfl), ⟨ns, hl, rfl, rfl⟩, fun v H' Hf' _ r => (rep_bl (K := K) (H := Hf')).mp r⟩
theorem walk {k : Nat} {l : PySem.W.OpenLaw} {q : Program} {loose : List Str} {XP : (Str → Option Value) → Heap → Prop} {YP : World → Heap → Prop} {d : DefRec} {K : Params → PySem.W.Frag} (hk : k ≤ 20) (hn : l.most = some 63) (hdf : d.params.defaults = [])
    (hY : ∀ (w : World) (h : Heap), YP w h → (K w.params).In h)
    (F : ∀ (w : World) (mg : Str → Option Value) (fa : Addr) (h : Heap), (K w.params).In h → h.Ns mainGlobals mg → mg d.name = some (.ref fa) →
      ∃ fd : FuncData, (∀ (s : Shared) (u : Value), BindsTo s fd ⟨[u], []⟩ [("_law_script", u)]) ∧ ∀ base : Heap, (K w.params).In base → base.Ns mainGlobals mg → FnOk l.prog w (K w.params) mg base (CXE l.prog w) 20 fa fd ["_law_script"] (spF (K w.params) Flaw)) :
    PySem.W.WalkO q loose XP YP l.row.toRowW d [] (fun f vs => PySem.call f vs) :=
  L2.walk_of (n := 63) (k := 20) (x := "_law_script") (CX := fun w => CXE l.prog w) (sp := fun w => spF (K w.params) Flaw) hn (by decide) hdf ⟨rfl, by decide, by decide⟩ hY F (fun _ H a ns hl _ hS => law_ok H a ns hl hS) fun _ _ _ _ _ ⟨_, _, _, _, _, q⟩ => q
end
end EV

set_option Elab.async false
set_option linter.all false
set_option maxRecDepth 100000
namespace EV
open PySem PySem.Spec PyProof.Rows L2
/-! fractions -/
theorem gcd_step (x y : Int) : Int.gcd y (x % y) = Int.gcd x y := by
  have h : Int.gcd y (y * (x / y) + x % y) = Int.gcd y (x % y) := by simp
  rw [Int.mul_ediv_add_emod] at h
  rw [← h, Int.gcd_comm]
theorem log_small {j : Int} {n : Nat} (h : j.natAbs < 10 ^ n) (hn : n ≤ 2700) : j.natAbs.log2 < 9000 := by
  by_cases z : j.natAbs = 0
  · rw [z]; decide
  · refine (Nat.log2_lt z).mpr (Nat.lt_of_lt_of_le h ?_)
    calc 10 ^ n ≤ 10 ^ 2700 := Nat.pow_le_pow_right (by decide) hn
      _ ≤ 2 ^ 9000 := by decide +kernel
@[irreducible] def Zs (n : Nat) (a : Int) : Prop := a.natAbs < 10 ^ n
theorem zs_iff {n : Nat} {a : Int} : Zs n a ↔ a.natAbs < 10 ^ n := by unfold Zs; exact Iff.rfl
/-- products -/
abbrev Pz (a : Int) : Prop := Zs 2600 a
/-- factors -/
abbrev Sz (a : Int) : Prop := Zs 1299 a
def gcdS (a b : Int) : Int := if b < 0 then 0 - (Int.gcd a b : Int) else Int.gcd a b
def nT (a b : Int) : Int := a.fdiv (gcdS a b)
def nB (a b : Int) : Int := b.fdiv (gcdS a b)
abbrev fracD (a b : Int) : D := .tup [.int (nT a b), .int (nB a b)]
theorem gcd_log {a b : Int} (h : Pz b) (hb : b ≠ 0) : (Int.gcd a b : Int).natAbs.log2 < 9000 := by
  refine log_small (n := 2600) ?_ (by decide)
  have : Int.gcd a b ≤ b.natAbs := Nat.le_of_dvd (by omega) (Int.gcd_dvd_natAbs_right a b)
  simp only [Int.natAbs_natCast]
  have h := zs_iff.mp h
  omega
theorem frac_neg {a b : Int} (h : b < 0) : D.tup [.int ((-a) / (Int.gcd (-a) (-b))), .int ((-b) / (Int.gcd (-a) (-b)))] = fracD a b := by
  have hp : (0 : Int) < Int.gcd a b := by have := Int.gcd_pos_of_ne_zero_right a (show b ≠ 0 by omega); omega
  have key : ∀ x : Int, (Int.gcd a b : Int) ∣ x → (-x) / (Int.gcd a b : Int) = x.fdiv (0 - (Int.gcd a b : Int)) := fun x ⟨q, hq⟩ => by
    rw [hq, show (0 : Int) - (Int.gcd a b : Int) = -(Int.gcd a b : Int) by omega]
    rw [show -((Int.gcd a b : Int) * q) = (Int.gcd a b : Int) * (-q) by rw [Int.mul_neg], Int.mul_ediv_cancel_left _ (by omega)]
    rw [show (Int.gcd a b : Int) * q = (-q) * (-(Int.gcd a b : Int)) by rw [Int.neg_mul_neg, Int.mul_comm], Int.mul_fdiv_cancel _ (by omega)]
  unfold fracD nT nB gcdS
  rw [if_pos h]
  simp only [Int.gcd_neg, Int.neg_gcd]
  rw [key a (Int.gcd_dvd_left ..), key b (Int.gcd_dvd_right ..)]
theorem frac_pos {a b : Int} (h : 0 < b) : D.tup [.int (a / (Int.gcd a b)), .int (b / (Int.gcd a b))] = fracD a b := by
  unfold fracD nT nB gcdS
  rw [if_neg (by omega), Int.fdiv_eq_ediv_of_nonneg _ (by omega), Int.fdiv_eq_ediv_of_nonneg _ (by omega)]
theorem gcdS_dvd_l (a b : Int) : gcdS a b ∣ a := by
  unfold gcdS; split
  · rw [show (0 : Int) - (Int.gcd a b : Int) = -(Int.gcd a b : Int) by omega]; exact Int.neg_dvd.mpr (Int.gcd_dvd_left ..)
  · exact Int.gcd_dvd_left ..
theorem gcdS_dvd_r (a b : Int) : gcdS a b ∣ b := by
  unfold gcdS; split
  · rw [show (0 : Int) - (Int.gcd a b : Int) = -(Int.gcd a b : Int) by omega]; exact Int.neg_dvd.mpr (Int.gcd_dvd_right ..)
  · exact Int.gcd_dvd_right ..
theorem gcdS_ne {a b : Int} (hb : b ≠ 0) : gcdS a b ≠ 0 := by
  have hp : 0 < Int.gcd a b := Int.gcd_pos_of_ne_zero_right a hb
  unfold gcdS; split <;> omega
theorem nT_mul {a b : Int} (hb : b ≠ 0) : a = gcdS a b * nT a b := by
  obtain ⟨q, hq⟩ := gcdS_dvd_l a b
  have h0 := gcdS_ne (a := a) hb
  have : nT a b = q := by
    unfold nT
    rw [show a.fdiv (gcdS a b) = (q * gcdS a b).fdiv (gcdS a b) by rw [Int.mul_comm q, ← hq], Int.mul_fdiv_cancel _ h0]
  rw [this]; exact hq
theorem nB_mul {a b : Int} (hb : b ≠ 0) : b = gcdS a b * nB a b := by
  obtain ⟨q, hq⟩ := gcdS_dvd_r a b
  have h0 := gcdS_ne (a := a) hb
  have : nB a b = q := by
    unfold nB
    rw [show b.fdiv (gcdS a b) = (q * gcdS a b).fdiv (gcdS a b) by rw [Int.mul_comm q, ← hq], Int.mul_fdiv_cancel _ h0]
  rw [this]; exact hq
theorem nB_pos {a b : Int} (hb : b ≠ 0) : 0 < nB a b := by
  have h := nB_mul (a := a) hb
  have hp : (0 : Int) < Int.gcd a b := by have := Int.gcd_pos_of_ne_zero_right a hb; omega
  by_cases s : b < 0
  · have e : gcdS a b = -(Int.gcd a b : Int) := by unfold gcdS; rw [if_pos s]; omega
    rw [e] at h
    by_cases z : 0 < nB a b
    · exact z
    · exfalso
      have := Int.mul_nonneg (Int.le_of_lt hp) (show 0 ≤ -nB a b by omega)
      have e2 : (Int.gcd a b : Int) * -nB a b = -(Int.gcd a b : Int) * nB a b := by rw [Int.mul_neg, Int.neg_mul]
      omega
  · have e : gcdS a b = (Int.gcd a b : Int) := by unfold gcdS; rw [if_neg s]
    rw [e] at h
    by_cases z : 0 < nB a b
    · exact z
    · exfalso
      have := Int.mul_nonneg (Int.le_of_lt hp) (show 0 ≤ -nB a b by omega)
      have e2 : (Int.gcd a b : Int) * -nB a b = -((Int.gcd a b : Int) * nB a b) := by rw [Int.mul_neg]
      omega
theorem nB_ne {a b : Int} (hb : b ≠ 0) : nB a b ≠ 0 := Int.ne_of_gt (nB_pos hb)
/-- nT / nB is a / b -/
theorem n_cross {a b : Int} (hb : b ≠ 0) : nT a b * b = a * nB a b := by
  have h1 := nT_mul (a := a) hb
  have h2 := nB_mul (a := a) hb
  generalize nT a b = t at *
  generalize nB a b = u at *
  generalize gcdS a b = g at *
  subst h1; subst h2
  rw [Int.mul_comm g t, Int.mul_assoc t g u]
theorem n_gcd {a b : Int} (hb : b ≠ 0) : Int.gcd (nT a b) (nB a b) = 1 := by
  have h1 := nT_mul (a := a) hb
  have h2 := nB_mul (a := a) hb
  have hp : 0 < Int.gcd a b := Int.gcd_pos_of_ne_zero_right a hb
  have hg : (gcdS a b).natAbs = Int.gcd a b := by unfold gcdS; split <;> omega
  have e : Int.gcd a b = (gcdS a b).natAbs * Int.gcd (nT a b) (nB a b) := by
    have z : Int.gcd a b = Int.gcd (gcdS a b * nT a b) (gcdS a b * nB a b) := by rw [← h1, ← h2]
    rw [z, Int.gcd_mul_left]
  rw [hg] at e
  exact Nat.eq_of_mul_eq_mul_left hp (by omega)
theorem n_abs_T {a b : Int} (hb : b ≠ 0) : (nT a b).natAbs ≤ a.natAbs := by
  have h := nT_mul (a := a) hb
  have h0 := gcdS_ne (a := a) hb
  conv => rhs; rw [h, Int.natAbs_mul]
  exact Nat.le_mul_of_pos_left _ (by omega)
theorem n_abs_B {a b : Int} (hb : b ≠ 0) : (nB a b).natAbs ≤ b.natAbs := by
  have h := nB_mul (a := a) hb
  have h0 := gcdS_ne (a := a) hb
  conv => rhs; rw [h, Int.natAbs_mul]
  exact Nat.le_mul_of_pos_left _ (by omega)
/-- the fraction in lowest terms is one -/
theorem dvd_co {p q x : Int} (g : Int.gcd p q = 1) (h : q ∣ p * x) : q ∣ x := by
  have h2 : q.natAbs ∣ p.natAbs * x.natAbs := by rw [← Int.natAbs_mul]; exact Int.natAbs_dvd_natAbs.mpr h
  have c : Nat.Coprime q.natAbs p.natAbs := by rw [Nat.coprime_comm]; exact g
  exact Int.natAbs_dvd_natAbs.mp (c.dvd_of_dvd_mul_left h2)
theorem low_one {p q p' q' : Int} (hq : 0 < q) (hq' : 0 < q') (g : Int.gcd p q = 1) (g' : Int.gcd p' q' = 1) (h : p * q' = p' * q) : p = p' ∧ q = q' := by
  have d1 : q ∣ q' := by
    have : q ∣ p * q' := ⟨p', by rw [h, Int.mul_comm]⟩
    exact dvd_co g this
  have d2 : q' ∣ q := by
    have : q' ∣ p' * q := ⟨p, by rw [← h, Int.mul_comm]⟩
    exact dvd_co g' this
  have e : q = q' := by
    have a1 := Int.le_of_dvd hq' d1
    have a2 := Int.le_of_dvd hq d2
    omega
  subst e
  exact ⟨Int.eq_of_mul_eq_mul_right (by omega) h, rfl⟩
theorem cross_trans {a b c d e f : Int} (hd : d ≠ 0) (h1 : a * d = c * b) (h2 : c * f = e * d) : a * f = e * b := by
  refine Int.eq_of_mul_eq_mul_right hd ?_
  calc a * f * d = a * d * f := by rw [Int.mul_right_comm]
    _ = c * b * f := by rw [h1]
    _ = c * f * b := by rw [Int.mul_right_comm]
    _ = e * d * b := by rw [h2]
    _ = e * b * d := by rw [Int.mul_right_comm]
theorem n_eq {a b c d : Int} (hb : b ≠ 0) (hd : d ≠ 0) (h : a * d = c * b) : nT a b = nT c d ∧ nB a b = nB c d := by
  refine low_one (nB_pos hb) (nB_pos hd) (n_gcd hb) (n_gcd hd) ?_
  have e1 := n_cross (a := a) hb
  have e2 := n_cross (a := c) hd
  -- nT a b : nB a b = a : b = c : d
  exact cross_trans hd (cross_trans hb e1 h) e2.symm
theorem frac_eq {a b c d : Int} (hb : b ≠ 0) (hd : d ≠ 0) (h : a * d = c * b) : fracD a b = fracD c d := by
  obtain ⟨e1, e2⟩ := n_eq hb hd h
  unfold fracD; rw [e1, e2]
/-! sums, differences, products go over fractions in lowest terms -/
section
variable {a b c d : Int}
theorem sum_l (hb : b ≠ 0) (hd : d ≠ 0) : fracD (nT a b * d + c * nB a b) (nB a b * d) = fracD (a * d + c * b) (b * d) := by
  have h := n_cross (a := a) hb
  refine frac_eq (Int.mul_ne_zero (nB_ne hb) hd) (Int.mul_ne_zero hb hd) ?_
  generalize nT a b = t at *; generalize nB a b = u at *
  grind
theorem sum_r (hb : b ≠ 0) (hd : d ≠ 0) : fracD (c * nB a b + nT a b * d) (d * nB a b) = fracD (c * b + a * d) (d * b) := by
  have h := n_cross (a := a) hb
  refine frac_eq (Int.mul_ne_zero hd (nB_ne hb)) (Int.mul_ne_zero hd hb) ?_
  generalize nT a b = t at *; generalize nB a b = u at *
  grind
theorem less_l (hb : b ≠ 0) (hd : d ≠ 0) : fracD (nT a b * d - c * nB a b) (nB a b * d) = fracD (a * d - c * b) (b * d) := by
  have h := n_cross (a := a) hb
  refine frac_eq (Int.mul_ne_zero (nB_ne hb) hd) (Int.mul_ne_zero hb hd) ?_
  generalize nT a b = t at *; generalize nB a b = u at *
  grind
theorem less_r (hb : b ≠ 0) (hd : d ≠ 0) : fracD (c * nB a b - nT a b * d) (d * nB a b) = fracD (c * b - a * d) (d * b) := by
  have h := n_cross (a := a) hb
  refine frac_eq (Int.mul_ne_zero hd (nB_ne hb)) (Int.mul_ne_zero hd hb) ?_
  generalize nT a b = t at *; generalize nB a b = u at *
  grind
theorem times_l (hb : b ≠ 0) (hd : d ≠ 0) : fracD (nT a b * c) (nB a b * d) = fracD (a * c) (b * d) := by
  have h := n_cross (a := a) hb
  refine frac_eq (Int.mul_ne_zero (nB_ne hb) hd) (Int.mul_ne_zero hb hd) ?_
  generalize nT a b = t at *; generalize nB a b = u at *
  grind
theorem times_r (hb : b ≠ 0) (hd : d ≠ 0) : fracD (c * nT a b) (d * nB a b) = fracD (c * a) (d * b) := by
  have h := n_cross (a := a) hb
  refine frac_eq (Int.mul_ne_zero hd (nB_ne hb)) (Int.mul_ne_zero hd hb) ?_
  generalize nT a b = t at *; generalize nB a b = u at *
  grind
end
end EV

set_option Elab.async false
set_option linter.all false
set_option maxRecDepth 100000
namespace EV
open PySem PySem.Spec PyProof.Rows L2
theorem cutD_map {α β : Type} (f : α → β) (xs : List α) (lo hi : Option Int) : EV.cutD (xs.map f) lo hi = (EV.cutD xs lo hi).map f := by
  unfold EV.cutD; simp only [List.length_map, List.map_take, List.map_drop]
theorem cutD_len {α : Type} (xs : List α) (lo hi : Option Int) : (EV.cutD xs lo hi).length ≤ xs.length := by
  unfold EV.cutD; simp only [List.length_take, List.length_drop]; omega
theorem atI_neg {α : Type} {xs : List α} {j : Int} (h0 : j < 0) (h1 : 0 ≤ j + xs.length) : atI xs j = xs[(j + xs.length).toNat]? := by
  unfold atI ixN
  rw [if_neg (by omega)]
  rw [if_pos (by omega)]; rfl
theorem bits_few {a : Int} (h : a.natAbs < 2 ^ 63) : Builtin.Int.intBits a ≤ 64 := by
  unfold Builtin.Int.intBits
  by_cases z : a = 0
  · subst z; decide
  · have e : (a == 0) = false := by simpa using z
    rw [e, if_neg Bool.false_ne_true]
    have := (Nat.log2_lt (n := a.natAbs) (k := 63) (by omega)).mpr h
    omega
theorem mul_l {a b : Int} (h : a.natAbs < 2 ^ 63) : EV.MulOk a b := IntMulOk.of_left (bits_few h)
section
variable {P : Program} {w : World} {K : PySem.W.Frag} {mg : Str → Option Value} {base : Heap} {k : Nat} {N : List Str} {sc : Scope} {bk : Bool} {c : Ctx P w K mg base k N sc bk} {ρ : List Sl} {pos : Pos} {t : Expr} {A B : List Stmt} {nx : List Sl → Prop} {p : Pt}
theorem s_ifJ (I : List Sl → Prop) (h : EvT c t ρ (If2 (EvSs c A ρ I p) (EvSs c B ρ I p))) (hI : ∀ ρ', I ρ' → nx ρ') : EvS c (.If t A B pos) ρ nx p :=
  s_if (h.imp fun x hx => ⟨fun e σ H Hf D S o => hx.t e σ H Hf D S ⟨fun σ H Hf ρ S q => o.nx σ H Hf ρ S (hI _ q), o.rt, o.bk, o.ct⟩, fun e σ H Hf D S o => hx.f e σ H Hf D S ⟨fun σ H Hf ρ S q => o.nx σ H Hf ρ S (hI _ q), o.rt, o.bk, o.ct⟩⟩)
end
end EV

set_option Elab.async false
set_option linter.all false
set_option maxRecDepth 100000
namespace My
open PySem PySem.Spec PyProof.Rows L2 EV
abbrev top (i : Nat) : Stmt := PySem.Challenge.pw_everydraw_k03_whole_walks_of_fractions.main.body.getD i (.Pass ⟨0, 0, 0, 0⟩)
abbrev st_common_divisor := top 4
theorem sc_common_divisor : FnScope ["one", "other", "rest"] ["one", "other"] (defScope st_common_divisor) := ⟨rfl, rfl, rfl, by decide +kernel, rfl, by decide +kernel, by decide +kernel⟩
theorem vi_common_divisor : ∀ x ∈ (["one", "other", "rest"] : List Str), L2.Loc (defScope st_common_divisor) x := by unfold L2.Loc; decide +kernel
abbrev st_fraction_of := top 5
theorem sc_fraction_of : FnScope ["top", "bottom", "common"] ["top", "bottom"] (defScope st_fraction_of) := ⟨rfl, rfl, rfl, by decide +kernel, rfl, by decide +kernel, by decide +kernel⟩
theorem vi_fraction_of : ∀ x ∈ (["top", "bottom", "common"] : List Str), L2.Loc (defScope st_fraction_of) x := by unfold L2.Loc; decide +kernel
abbrev st_frac_sum := top 6
theorem sc_frac_sum : FnScope ["one", "other"] ["one", "other"] (defScope st_frac_sum) := ⟨rfl, rfl, rfl, by decide +kernel, rfl, by decide +kernel, by decide +kernel⟩
theorem vi_frac_sum : ∀ x ∈ (["one", "other"] : List Str), L2.Loc (defScope st_frac_sum) x := by unfold L2.Loc; decide +kernel
abbrev st_frac_less := top 7
theorem sc_frac_less : FnScope ["one", "other"] ["one", "other"] (defScope st_frac_less) := ⟨rfl, rfl, rfl, by decide +kernel, rfl, by decide +kernel, by decide +kernel⟩
theorem vi_frac_less : ∀ x ∈ (["one", "other"] : List Str), L2.Loc (defScope st_frac_less) x := by unfold L2.Loc; decide +kernel
abbrev st_frac_times := top 8
theorem sc_frac_times : FnScope ["one", "other"] ["one", "other"] (defScope st_frac_times) := ⟨rfl, rfl, rfl, by decide +kernel, rfl, by decide +kernel, by decide +kernel⟩
theorem vi_frac_times : ∀ x ∈ (["one", "other"] : List Str), L2.Loc (defScope st_frac_times) x := by unfold L2.Loc; decide +kernel
abbrev st_frac_by := top 9
theorem sc_frac_by : FnScope ["one", "other"] ["one", "other"] (defScope st_frac_by) := ⟨rfl, rfl, rfl, by decide +kernel, rfl, by decide +kernel, by decide +kernel⟩
theorem vi_frac_by : ∀ x ∈ (["one", "other"] : List Str), L2.Loc (defScope st_frac_by) x := by unfold L2.Loc; decide +kernel
abbrev st_frac_lesser := top 10
theorem sc_frac_lesser : FnScope ["one", "other"] ["one", "other"] (defScope st_frac_lesser) := ⟨rfl, rfl, rfl, by decide +kernel, rfl, by decide +kernel, by decide +kernel⟩
theorem vi_frac_lesser : ∀ x ∈ (["one", "other"] : List Str), L2.Loc (defScope st_frac_lesser) x := by unfold L2.Loc; decide +kernel
abbrev st_l_whole := top 12
theorem sc_l_whole : FnScope ["_law_found"] ["_law_found"] (defScope st_l_whole) := ⟨rfl, rfl, rfl, by decide +kernel, rfl, by decide +kernel, by decide +kernel⟩
theorem vi_l_whole : ∀ x ∈ (["_law_found"] : List Str), L2.Loc (defScope st_l_whole) x := by unfold L2.Loc; decide +kernel
abbrev st_l_fraction := top 13
theorem sc_l_fraction : FnScope ["_law_top", "_law_bottom", "_law_one", "_law_other"] ["_law_top", "_law_bottom"] (defScope st_l_fraction) := ⟨rfl, rfl, rfl, by decide +kernel, rfl, by decide +kernel, by decide +kernel⟩
theorem vi_l_fraction : ∀ x ∈ (["_law_top", "_law_bottom", "_law_one", "_law_other"] : List Str), L2.Loc (defScope st_l_fraction) x := by unfold L2.Loc; decide +kernel
abbrev st_l_same_fraction := top 14
theorem sc_l_same_fraction : FnScope ["_law_found", "_law_due"] ["_law_found", "_law_due"] (defScope st_l_same_fraction) := ⟨rfl, rfl, rfl, by decide +kernel, rfl, by decide +kernel, by decide +kernel⟩
theorem vi_l_same_fraction : ∀ x ∈ (["_law_found", "_law_due"] : List Str), L2.Loc (defScope st_l_same_fraction) x := by unfold L2.Loc; decide +kernel
abbrev st_l_drawn := top 15
theorem sc_l_drawn : FnScope ["_law_cell", "_law_rest"] ["_law_cell"] (defScope st_l_drawn) := ⟨rfl, rfl, rfl, by decide +kernel, rfl, by decide +kernel, by decide +kernel⟩
theorem vi_l_drawn : ∀ x ∈ (["_law_cell", "_law_rest"] : List Str), L2.Loc (defScope st_l_drawn) x := by unfold L2.Loc; decide +kernel
abbrev st_l_deed := top 16
theorem sc_l_deed : FnScope ["_law_here", "_law_kept", "_law_some", "_law_kind", "_law_top", "_law_bottom"] ["_law_here", "_law_kept", "_law_some", "_law_kind"] (defScope st_l_deed) := ⟨rfl, rfl, rfl, by decide +kernel, rfl, by decide +kernel, by decide +kernel⟩
theorem vi_l_deed : ∀ x ∈ (["_law_here", "_law_kept", "_law_some", "_law_kind", "_law_top", "_law_bottom"] : List Str), L2.Loc (defScope st_l_deed) x := by unfold L2.Loc; decide +kernel
abbrev st_l_back := top 17
theorem sc_l_back : FnScope ["_law_there", "_law_some", "_law_kind"] ["_law_there", "_law_some", "_law_kind"] (defScope st_l_back) := ⟨rfl, rfl, rfl, by decide +kernel, rfl, by decide +kernel, by decide +kernel⟩
theorem vi_l_back : ∀ x ∈ (["_law_there", "_law_some", "_law_kind"] : List Str), L2.Loc (defScope st_l_back) x := by unfold L2.Loc; decide +kernel
abbrev st_l_three := top 18
theorem sc_l_three : FnScope ["_law_one", "_law_two", "_law_third", "_law_less"] ["_law_one", "_law_two", "_law_third"] (defScope st_l_three) := ⟨rfl, rfl, rfl, by decide +kernel, rfl, by decide +kernel, by decide +kernel⟩
theorem vi_l_three : ∀ x ∈ (["_law_one", "_law_two", "_law_third", "_law_less"] : List Str), L2.Loc (defScope st_l_three) x := by unfold L2.Loc; decide +kernel
abbrev st_law := top 19
theorem sc_law : FnScope ["_law_script", "_law_here", "_law_kept", "_law_places", "_law_cell", "_law_some", "_law_kind", "_law_there"] ["_law_script"] (defScope st_law) := ⟨rfl, rfl, rfl, by decide +kernel, rfl, by decide +kernel, by decide +kernel⟩
theorem vi_law : ∀ x ∈ (["_law_script", "_law_here", "_law_kept", "_law_places", "_law_cell", "_law_some", "_law_kind", "_law_there"] : List Str), L2.Loc (defScope st_law) x := by unfold L2.Loc; decide +kernel


set_option Elab.async false
set_option linter.all false
set_option maxRecDepth 100000
set_option maxHeartbeats 0
local macro_rules | `(tactic| walk_at "side") => `(tactic| first | omega | assumption | exact sz_small (Nat.le_of_ble_eq_true rfl) | exact dv_small (by decide) (by decide +kernel) | (show CPow _ _; exact ⟨by decide, by decide, by decide +kernel⟩))
local macro_rules | `(tactic| walk_at "at") => `(tactic| with_reducible (repeat (first | exact At.z | apply At.s)))
local macro_rules | `(tactic| walk_at "sset") => `(tactic| with_reducible (repeat (first | exact SSet.z | apply SSet.s)))
local macro_rules | `(tactic| walk_at "own") => `(tactic| with_unfolding_all rfl)
local macro_rules | `(tactic| walk_at "evSs") => `(tactic| first
  | with_reducible refine ss_cons ?_
  | with_reducible refine ss_nil ?_)
local macro_rules | `(tactic| walk_at "evS") => `(tactic| first
  | ((with_reducible show EvS _ (Stmt.Assign [Expr.Name _ _] _ _) _ _ _); with_reducible refine s_set (by walk_at "at") ?_)
  | ((with_reducible show EvS _ (Stmt.If _ _ _ _) _ _ _); walk_at "evIf")
  | ((with_reducible show EvS _ (Stmt.Expr _ _) _ _ _); walk_at "evXp")
  | ((with_reducible show EvS _ (Stmt.Return (some (Expr.Name _ _)) _) _ _ _); with_reducible refine s_ret_ow (by walk_at "at") (by walk_at "at") rfl ?_)
  | ((with_reducible show EvS _ (Stmt.Return (some _) _) _ _ _); with_reducible refine s_ret ?_)
  | ((with_reducible show EvS _ (Stmt.Return none _) _ _ _); with_reducible refine s_retN ?_)
  | ((with_reducible show EvS _ (Stmt.AugAssign (Expr.Name _ _) Operator.Add _ _) _ _ _); with_reducible refine s_addq (by walk_at "at") (by walk_at "at") ?_)
  | ((with_reducible show EvS _ (Stmt.AugAssign (Expr.Name _ _) Operator.Sub _ _) _ _ _); with_reducible refine s_subq (by walk_at "at") (by walk_at "at") ?_)
  | ((with_reducible show EvS _ (Stmt.AugAssign (Expr.Subscript (Expr.Name _ _) _ _) Operator.Add _ _) _ _ _); with_reducible refine s_daddq (by walk_at "at") (by walk_at "at") ?_)
  | ((with_reducible show EvS _ (Stmt.Assign [Expr.Tuple [Expr.Name _ _, Expr.Name _ _] _ _] (Expr.Tuple [_, _] _ _) _) _ _ _); with_reducible refine s_par (by walk_at "at") (by walk_at "at") (by decide) ?_)
  | ((with_reducible show EvS _ (Stmt.Assign [Expr.Tuple _ _ _] _ _) _ _ _); with_reducible refine s_asg ?_)
  | ((with_reducible show EvS _ (Stmt.Assign [Expr.Subscript (Expr.Name _ _) _ _] _ _) _ _ _); walk_at "evPut")
  | with_reducible refine s_break ?_
  | with_reducible refine s_continue ?_
  | with_reducible refine s_pass ?_)
local macro_rules | `(tactic| walk_at "evIf") => `(tactic| with_reducible refine s_if ?_)
local macro_rules | `(tactic| walk_at "evXp") => `(tactic| with_reducible refine s_appG (by walk_at "at") (by walk_at "at") (by walk_at "own") ?_)
local macro_rules | `(tactic| walk_at "evPut") => `(tactic| with_reducible refine s_dput (by walk_at "at") (by walk_at "at") ?_)
local macro_rules | `(tactic| walk_at "evK") => `(tactic| first
  | with_reducible refine e_int ?_
  | with_reducible refine e_bl ?_
  | with_reducible refine e_non ?_
  | with_reducible refine e_str ?_)
local macro_rules | `(tactic| walk_at "evCm") => `(tactic| first
  | with_reducible refine e_isN ?_
  | with_reducible refine e_notN ?_
  | with_reducible refine e_lt ?_
  | with_reducible refine e_eq ?_
  | with_reducible refine e_ne ?_)
local macro_rules | `(tactic| walk_at "evIx") => `(tactic| first
  | ((with_reducible show EvE _ (Expr.Subscript _ (Expr.Slice _ _ _ _) _) _ _); with_reducible refine e_sliceA ?_)
  | ((with_reducible show EvE _ (Expr.Subscript (Expr.Name _ _) _ _) _ _); with_reducible refine e_ixO (by walk_at "at") (by walk_at "at") (by walk_at "own") (by walk_at "sset") ?_ (by walk_at "at"))
  | ((with_reducible show EvE _ (Expr.Subscript (Expr.Name _ _) _ _) _ _); with_reducible refine e_dix (by walk_at "at") (by walk_at "at") ?_)
  | with_reducible refine e_ixA ?_)
local macro_rules | `(tactic| walk_at "evBo") => `(tactic| first
  | with_reducible refine e_addA ?_
  | with_reducible refine e_sub ?_
  | with_reducible refine e_mul ?_
  | with_reducible refine e_mod ?_
  | with_reducible refine e_fdiv ?_
  | with_reducible refine e_pow ?_)
local macro_rules | `(tactic| walk_at "evCa") => `(tactic| first
  | ((with_reducible show EvE _ (Expr.Call (Expr.Attribute _ _ _) _ _ _) _ _); walk_at "evMt")
  | ((with_reducible show EvE _ (Expr.Call (Expr.Name (Str.ofString "isinstance") _) _ _ _) _ _); first
    | with_reducible refine e_isin (Txt.isin (by assumption)) (Txt.c_int (by assumption)) ?_
    | with_reducible refine e_isin (Txt.isin (by assumption)) (Txt.c_tuple (by assumption)) ?_
    | with_reducible refine e_isin (Txt.isin (by assumption)) (Txt.c_list (by assumption)) ?_
    | with_reducible refine e_isin (Txt.isin (by assumption)) (Txt.c_bool (by assumption)) ?_)
  | ((with_reducible show EvE _ (Expr.Call (Expr.Name (Str.ofString "len") _) _ _ _) _ _); first
    | ((with_reducible show EvE _ (Expr.Call _ [Expr.Name _ _] _ _) _ _); with_reducible refine e_lenO (Txt.len (by assumption)) (by walk_at "at") (by walk_at "at") (by walk_at "own") (by walk_at "sset") ?_)
    | with_reducible refine e_len (Txt.len (by assumption)) ?_)
  | ((with_reducible show EvE _ (Expr.Call (Expr.Name (Str.ofString "tuple") _) _ _ _) _ _); first
    | ((with_reducible show EvE _ (Expr.Call _ [Expr.Name _ _] _ _) _ _); with_reducible refine e_tupleO (Txt.tuple (by assumption)) (by walk_at "at") (by walk_at "at") (by walk_at "own") (by walk_at "sset") ?_)
    | with_reducible refine e_tuple (Txt.tuple (by assumption)) ?_)
  | ((with_reducible show EvE _ (Expr.Call (Expr.Name (Str.ofString "abs") _) _ _ _) _ _); with_reducible refine e_abs (Txt.abs (by assumption)) ?_)
  | ((with_reducible show EvE _ (Expr.Call (Expr.Name (Str.ofString "int") _) _ _ _) _ _); with_reducible refine e_intB (Txt.int (by assumption)) ?_))
local macro_rules | `(tactic| walk_at "evMt") => `(tactic| with_reducible refine e_dget (by walk_at "at") (by walk_at "at") ?_)
local macro_rules | `(tactic| walk_at "evE") => `(tactic| first
  | ((with_reducible show EvE _ (Expr.Name _ _) _ _); with_reducible refine e_var (by walk_at "at") (by walk_at "at") ?_)
  | ((with_reducible show EvE _ (Expr.Constant _ _ _) _ _); walk_at "evK")
  | ((with_reducible show EvE _ (Expr.Call _ _ _ _) _ _); walk_at "evCa")
  | ((with_reducible show EvE _ (Expr.Subscript _ _ _) _ _); walk_at "evIx")
  | ((with_reducible show EvE _ (Expr.BinOp _ _ _ _) _ _); walk_at "evBo")
  | ((with_reducible show EvE _ (Expr.Compare _ _ _ _) _ _); walk_at "evCm")
  | with_reducible refine e_tup ?_
  | with_reducible refine e_lstA ?_
  | with_reducible refine e_neg ?_
  | with_reducible refine e_not ?_
  | with_reducible refine e_and ?_
  | with_reducible refine e_or ?_
  | with_reducible refine e_one ?_
  | with_reducible refine e_ifExp ?_)
local macro_rules | `(tactic| walk_at "evX") => `(tactic| first
  | ((with_reducible show EvX _ (Expr.List _ _) _ _); with_reducible refine x_lst ?_)
  | ((with_reducible show EvX _ (Expr.Call _ _ _ _) _ _); walk_at "evXC")
  | ((with_reducible show EvX _ (Expr.BinOp _ Operator.Add _ _) _ _); with_reducible refine x_add ?_)
  | ((with_reducible show EvX _ (Expr.Subscript _ (Expr.Slice _ _ _ _) _) _ _); with_reducible refine x_slice ?_)
  | with_reducible refine x_e ?_)
local macro_rules | `(tactic| walk_at "evXC") => `(tactic| first
  | ((with_reducible show EvX _ (Expr.Call (Expr.Name (Str.ofString "list") _) _ _ _) _ _); first
    | ((with_reducible show EvX _ (Expr.Call _ [Expr.Name _ _] _ _) _ _); with_reducible refine x_listO (Txt.list (by assumption)) (by walk_at "at") (by walk_at "at") (by walk_at "own") (by walk_at "sset") ?_)
    | with_reducible refine x_list (Txt.list (by assumption)) ?_)
  | with_reducible refine x_e ?_)
local macro_rules | `(tactic| walk_at "evT") => `(tactic| first
  | ((with_reducible show EvT _ (Expr.Compare _ _ _ _) _ _); first
    | with_reducible refine t_isN ?_
    | with_reducible refine t_notN ?_
    | with_reducible refine t_ne ?_
    | with_reducible refine t_eq ?_
    | with_reducible refine t_lt ?_
    | with_reducible refine t_le ?_
    | with_reducible refine t_gt ?_
    | with_reducible refine t_ge ?_
    | with_reducible refine t_din (by walk_at "at") (by walk_at "at") ?_
    | with_reducible refine t_dnotin (by walk_at "at") (by walk_at "at") ?_)
  | with_reducible refine t_not ?_
  | with_reducible refine t_w (w_and ?_)
  | with_reducible refine t_w (w_or ?_)
  | with_reducible refine t_val ?_)
local macro_rules | `(tactic| walk_at "evW") => `(tactic| first
  | with_reducible refine w_and ?_
  | with_reducible refine w_or ?_
  | with_reducible refine w_and1 ?_
  | with_reducible refine w_or1 ?_)
local macro_rules | `(tactic| walk_at "evG") => `(tactic| first
  | ((with_reducible show EvG _ (Expr.Name _ _) _ _ _); with_reducible refine g_name (by walk_at "at") ?_)
  | with_reducible refine g_tup rfl (by with_unfolding_all rfl) ?_)
local macro_rules | `(tactic| walk_at "evGs") => `(tactic| first
  | with_reducible refine gs_nil ?_
  | ((with_reducible show EvGs _ (_ :: _) _ _ _); with_reducible refine gs_name (by walk_at "at") ?_))
local macro_rules | `(tactic| walk_at "evL") => `(tactic| first
  | ((with_reducible show Nx _ _ _ _); with_reducible refine nxt (by walk_at "sset") ?_)
  | ((with_reducible show Sd _ _); first | with_reducible refine Sd.mk (by walk_at "side") ?_ | with_reducible refine Sd.mk ?_ ?_)
  | ((with_reducible show If2 _ _ _); first
    | with_reducible refine if2_t ?_
    | with_reducible refine if2_f ?_
    | with_reducible refine if2_not ?_
    | with_reducible refine if2_dec (fun h => ?_) (fun h => ?_)
    | with_reducible refine if2 (fun h => ?_) (fun h => ?_))
  | with_reducible refine i2 ?_
  | with_reducible refine i1 ?_
  | with_reducible refine b1 ?_
  | ((with_reducible show EqP _ _ _); first
    | with_reducible refine eqp_int ?_
    | with_reducible refine eqp_bl ?_
    | with_reducible refine eqp_str ?_)
  | ((with_reducible show AddP _ _ _); first
    | with_reducible refine addp_int ?_
    | with_reducible refine addp_lst ?_
    | with_reducible refine addp_tup ?_)
  | ((with_reducible show FzP _ _); first
    | with_reducible refine fz_va ?_
    | with_reducible refine fz_ow ?_)
  | ((with_reducible show IsN _ _); first
    | with_reducible refine isn_t ?_
    | with_reducible refine isn_f (by intro q; cases q) ?_)
  | ((with_reducible show IxP _ _ _); first
    | refine ixp_t (by rfl) ?_
    | refine ixp_l (by rfl) ?_)
  | ((with_reducible show SlP _ _ _ _); first
    | with_reducible refine EV.SlP.lst ?_
    | with_reducible refine EV.SlP.tup ?_)
  | ((with_reducible show ∃ ys, D.row _ = some ys ∧ _); refine rowX (by rfl) ?_)
  | ((with_reducible show ∃ t b, TyD _ _ t ∧ _); first
    | with_reducible refine isd .int kit_ii ?_
    | with_reducible refine isd .int (Txt.ib (by assumption)) ?_
    | with_reducible refine isd .bl kit_bb ?_
    | with_reducible refine isd .lst kit_ll ?_
    | with_reducible refine isd .tup kit_tt ?_)
  | ((with_reducible show ∃ r, _ ∧ RsP _ _ _ r); walk_at "evR"))
local macro_rules | `(tactic| walk_at "ev1") => `(tactic| first
  | ((with_reducible show EvE _ _ _ _); walk_at "evE")
  | ((with_reducible show EvX _ _ _ _); walk_at "evX")
  | ((with_reducible show EvT _ _ _ _); walk_at "evT")
  | ((with_reducible show EvSs _ _ _ _ _); walk_at "evSs")
  | ((with_reducible show EvS _ _ _ _ _); walk_at "evS")
  | ((with_reducible show EvA _ _ _ _); first | with_reducible refine a_cons ?_ | with_reducible refine a_nil ?_)
  | ((with_reducible show EvW _ _ _ _); walk_at "evW")
  | ((with_reducible show EvG _ _ _ _ _); walk_at "evG")
  | ((with_reducible show EvGs _ _ _ _ _); walk_at "evGs")
  | ((with_reducible show EvP _ _ _ _); first | with_reducible refine p_none ?_ | with_reducible refine p_some ?_)
  | walk_at "evL")
local macro_rules | `(tactic| walk_at "ev") => `(tactic| repeat' (walk_at "ev1"))

section
variable {P : Program} {w : World} {K : PySem.W.Frag} {mg : Str → Option Value} {base : Heap}
def Fwhole : Fn := fun ds r => ∃ n : Int, ds = [.int n] ∧ r = .ok (.va (.bl true))
theorem f_whole (n : Int) : Fwhole [.int n] (.ok (.va (.bl true))) := ⟨n, rfl, rfl⟩
theorem ok_whole {f : Addr} {fd : FuncData} (Fu : Fun K "_law_whole" "_law_whole" st_l_whole f fd) (T : Txt K mg) : FnOk P w K mg base (CXE P w) 1 f fd ["_law_found"] (spF K Fwhole) := by
  refine fn_q Fu sc_l_whole vi_l_whole (by rintro ds r ⟨a, rfl, _⟩; rfl) (by rintro ds r ⟨a, _, rfl⟩; exact ⟨_, rfl⟩) fun c hq ds sl hF => ?_
  obtain ⟨a, rfl, e⟩ := hF
  injection e with e
  subst e
  show EvSs c _ [.va (.int a)] _ _
  conv in (defBody _) => whnf
  walk_at "ev"
  rfl

def Ffr : Fn := fun ds r => ∃ a b : Int, b ≠ 0 ∧ Pz b ∧ ds = [.int a, .int b] ∧ r = .ok (.va (fracD a b))
theorem f_fr {a b : Int} (hb : b ≠ 0) (h : Pz b) : Ffr [.int a, .int b] (.ok (.va (fracD a b))) := ⟨a, b, hb, h, rfl, rfl⟩
section
local macro_rules | `(tactic| walk_at "evBo") => `(tactic| with_reducible refine e_fdivF ?_)
theorem ok_fr {f : Addr} {fd : FuncData} (Fu : Fun K "_law_fraction" "_law_fraction" st_l_fraction f fd) (T : Txt K mg) : FnOk P w K mg base (CXE P w) 1 f fd ["_law_top", "_law_bottom"] (spF K Ffr) := by
  refine fn_q Fu sc_l_fraction vi_l_fraction (by rintro ds r ⟨a, b, _, _, rfl, _⟩; rfl) (by rintro ds r ⟨a, b, _, _, _, rfl⟩; exact ⟨_, rfl⟩) fun c hq ds sl hF => ?_
  obtain ⟨a, b, hb, hs, rfl, e⟩ := hF
  injection e with e
  subst e
  show EvSs c _ [.va (.int a), .va (.int b), .un, .un] _ _
  conv in (defBody _) => whnf
  walk_at "ev"
  with_reducible refine s_while hq (fun m ρ' => ∃ x y : Int, 0 ≤ x ∧ 0 ≤ y ∧ m = y.toNat ∧ Int.gcd x y = Int.gcd a b ∧ ρ' = [.va (.int a), .va (.int b), .va (.int x), .va (.int y)]) (m₀ := b.natAbs) ?_ ?_
  · refine ⟨_, _, ?_, ?_, ?_, ?_, rfl⟩
    · split <;> omega
    · split <;> omega
    · split <;> omega
    · split <;> split <;> simp
  · rintro m ρ' ⟨x, y, hx, hy, rfl, hg, rfl⟩
    have hG := gcd_log (a := a) hs hb
    have hp : 0 < Int.gcd a b := Int.gcd_pos_of_ne_zero_right a hb
    have done : ¬0 < y → x = Int.gcd a b := fun h => by
      have : y = 0 := by omega
      subst this
      simp at hg
      omega
    walk_at "ev"
    · show ∃ _, _
      refine ⟨_, ?_, _, _, hy, ?_, rfl, ?_, rfl⟩
      · have := Int.emod_lt_of_pos x (b := y) (by omega); have := Int.emod_nonneg x (b := y) (by omega); omega
      · exact Int.emod_nonneg _ (by omega)
      · rw [← hg, gcd_step]
    · have e := done (by assumption)
      subst e
      exact ⟨by omega, by rw [show (0 - (Int.gcd a b : Int)).natAbs = (Int.gcd a b : Int).natAbs by omega]; exact hG⟩
    · have e := done (by assumption)
      subst e
      exact ⟨by omega, by rw [show (0 - (Int.gcd a b : Int)).natAbs = (Int.gcd a b : Int).natAbs by omega]; exact hG⟩
    · have e := done (by assumption)
      subst e
      show Sl.va _ = Sl.va _
      unfold fracD nT nB gcdS
      rw [if_pos (by assumption)]
    · have e := done (by assumption)
      subst e
      exact ⟨by omega, hG⟩
    · have e := done (by assumption)
      subst e
      exact ⟨by omega, hG⟩
    · have e := done (by assumption)
      subst e
      show Sl.va _ = Sl.va _
      unfold fracD nT nB gcdS
      rw [if_neg (by assumption)]
end
def Fsame : Fn := fun ds r => ∃ a b : Int, ds = [.tup [.int a, .int b], .tup [.int a, .int b]] ∧ r = .ok (.va (.bl true))
theorem f_same (a b : Int) : Fsame [.tup [.int a, .int b], .tup [.int a, .int b]] (.ok (.va (.bl true))) := ⟨_, _, rfl, rfl⟩
theorem eq_it2 (a b a' b' : Int) : EqIt [D.int a, D.int b] [D.int a', D.int b'] := by
  intro i d e h1 h2
  rcases i with _ | _ | i
  · simp at h1 h2; subst h1 h2; exact .sc rfl
  · simp at h1 h2; subst h1 h2; exact .sc rfl
  · simp at h1
section
local macro_rules | `(tactic| walk_at "evCa") => `(tactic| with_reducible refine e_call (F := Fwhole) (by assumption) (by decide) ?_)
local macro_rules | `(tactic| walk_at "evR") => `(tactic| with_reducible refine rs_ok (f_whole _) ?_)
local macro_rules | `(tactic| walk_at "evL") => `(tactic| first | ((with_reducible show EqP _ _ _); refine eqp_tup (Sd.mk (eq_it2 _ _ _ _) ?_)))
theorem ok_same {f : Addr} {fd : FuncData} (Fu : Fun K "_law_same_fraction" "_law_same_fraction" st_l_same_fraction f fd) (T : Txt K mg) (hw : Cal P w K mg base 1 (Str.ofString "_law_whole") Fwhole) : FnOk P w K mg base (CXE P w) 2 f fd ["_law_found", "_law_due"] (spF K Fsame) := by
  refine fn_q Fu sc_l_same_fraction vi_l_same_fraction (by rintro ds r ⟨a, b, rfl, _⟩; rfl) (by rintro ds r ⟨a, b, _, rfl⟩; exact ⟨_, rfl⟩) fun c hq ds sl hF => ?_
  obtain ⟨a, b, rfl, e⟩ := hF
  injection e with e
  subst e
  show EvSs c _ [.va (.tup [.int a, .int b]), .va (.tup [.int a, .int b])] _ _
  conv in (defBody _) => whnf
  walk_at "ev"
  · show Sl.va _ = Sl.va _
    simp
  · rename_i h; exact absurd rfl h
end
/-! common_divisor, fraction_of -/
def Fgcd : Fn := fun ds r => ∃ a b : Int, ds = [.int a, .int b] ∧ r = .ok (.va (.int (Int.gcd a b)))
theorem f_gcd (a b : Int) : Fgcd [.int a, .int b] (.ok (.va (.int (Int.gcd a b)))) := ⟨a, b, rfl, rfl⟩
theorem ok_gcd {f : Addr} {fd : FuncData} (Fu : Fun K "common_divisor" "common_divisor" st_common_divisor f fd) (T : Txt K mg) : FnOk P w K mg base (CXE P w) 1 f fd ["one", "other"] (spF K Fgcd) := by
  refine fn_q Fu sc_common_divisor vi_common_divisor (by rintro ds r ⟨a, b, rfl, _⟩; rfl) (by rintro ds r ⟨a, b, _, rfl⟩; exact ⟨_, rfl⟩) fun c hq ds sl hF => ?_
  obtain ⟨a, b, rfl, e⟩ := hF
  injection e with e
  subst e
  show EvSs c _ [.va (.int a), .va (.int b), .un] _ _
  conv in (defBody _) => whnf
  walk_at "ev"
  with_reducible refine s_while hq (fun m ρ' => ∃ (x y : Int) (s : Sl), 0 ≤ x ∧ 0 ≤ y ∧ m = y.toNat ∧ Int.gcd x y = Int.gcd a b ∧ ρ' = [.va (.int x), .va (.int y), s]) (m₀ := b.natAbs) ?_ ?_
  · refine ⟨_, _, _, ?_, ?_, ?_, ?_, rfl⟩
    · split <;> omega
    · split <;> omega
    · split <;> omega
    · split <;> split <;> simp
  · rintro m ρ' ⟨x, y, s, hx, hy, rfl, hg, rfl⟩
    walk_at "ev"
    · show Sl.va _ = Sl.va _
      subst_vars
      simp at hg ⊢
      omega
    · show ∃ _, _
      refine ⟨_, ?_, _, _, _, hy, ?_, rfl, ?_, rfl⟩
      · have := Int.emod_lt_of_pos x (b := y) (by omega); have := Int.emod_nonneg x (b := y) (by omega); omega
      · exact Int.emod_nonneg _ (by omega)
      · rw [← hg, gcd_step]
section
local macro_rules | `(tactic| walk_at "evCa") => `(tactic| with_reducible refine e_call (F := Fgcd) (by assumption) (by decide) ?_)
local macro_rules | `(tactic| walk_at "evR") => `(tactic| with_reducible refine rs_ok (f_gcd _ _) ?_)
/-- where the bottom is not 0 -/
theorem ok_of {f : Addr} {fd : FuncData} (Fu : Fun K "fraction_of" "fraction_of" st_fraction_of f fd) (T : Txt K mg) (hg : Cal P w K mg base 1 (Str.ofString "common_divisor") Fgcd) : FnOk P w K mg base (CXE P w) 2 f fd ["top", "bottom"] (spF K Ffr) := by
  refine fn_q Fu sc_fraction_of vi_fraction_of (by rintro ds r ⟨a, b, _, _, rfl, _⟩; rfl) (by rintro ds r ⟨a, b, _, _, _, rfl⟩; exact ⟨_, rfl⟩) fun c hq ds sl hF => ?_
  obtain ⟨a, b, hb, hs, rfl, e⟩ := hF
  injection e with e
  subst e
  show EvSs c _ [.va (.int a), .va (.int b), .un] _ _
  conv in (defBody _) => whnf
  have hG := gcd_log (a := a) hs hb
  have hp : 0 < Int.gcd a b := Int.gcd_pos_of_ne_zero_right a hb
  walk_at "ev"
  · exact absurd (by assumption : b = 0) hb
  · exact ⟨by simp only [Int.gcd_neg, Int.neg_gcd]; omega, by simp only [Int.gcd_neg, Int.neg_gcd]; exact hG⟩
  · exact ⟨by simp only [Int.gcd_neg, Int.neg_gcd]; omega, by simp only [Int.gcd_neg, Int.neg_gcd]; exact hG⟩
  · show Sl.va _ = Sl.va _
    rw [frac_neg (by assumption)]
  · exact ⟨by omega, hG⟩
  · exact ⟨by omega, hG⟩
  · show Sl.va _ = Sl.va _
    rw [frac_pos (by omega)]
end

end


set_option Elab.async false
set_option linter.all false
set_option maxRecDepth 100000
set_option maxHeartbeats 0
local macro_rules | `(tactic| walk_at "side") => `(tactic| first | omega | assumption | exact sz_small (Nat.le_of_ble_eq_true rfl) | exact dv_small (by decide) (by decide +kernel) | (show CPow _ _; exact ⟨by decide, by decide, by decide +kernel⟩))
local macro_rules | `(tactic| walk_at "at") => `(tactic| with_reducible (repeat (first | exact At.z | apply At.s)))
local macro_rules | `(tactic| walk_at "sset") => `(tactic| with_reducible (repeat (first | exact SSet.z | apply SSet.s)))
local macro_rules | `(tactic| walk_at "own") => `(tactic| with_unfolding_all rfl)
local macro_rules | `(tactic| walk_at "evSs") => `(tactic| first
  | with_reducible refine ss_cons ?_
  | with_reducible refine ss_nil ?_)
local macro_rules | `(tactic| walk_at "evS") => `(tactic| first
  | ((with_reducible show EvS _ (Stmt.Assign [Expr.Name _ _] _ _) _ _ _); with_reducible refine s_set (by walk_at "at") ?_)
  | ((with_reducible show EvS _ (Stmt.If _ _ _ _) _ _ _); walk_at "evIf")
  | ((with_reducible show EvS _ (Stmt.Expr _ _) _ _ _); walk_at "evXp")
  | ((with_reducible show EvS _ (Stmt.Return (some (Expr.Name _ _)) _) _ _ _); with_reducible refine s_ret_ow (by walk_at "at") (by walk_at "at") rfl ?_)
  | ((with_reducible show EvS _ (Stmt.Return (some _) _) _ _ _); with_reducible refine s_ret ?_)
  | ((with_reducible show EvS _ (Stmt.Return none _) _ _ _); with_reducible refine s_retN ?_)
  | ((with_reducible show EvS _ (Stmt.AugAssign (Expr.Name _ _) Operator.Add _ _) _ _ _); with_reducible refine s_addq (by walk_at "at") (by walk_at "at") ?_)
  | ((with_reducible show EvS _ (Stmt.AugAssign (Expr.Name _ _) Operator.Sub _ _) _ _ _); with_reducible refine s_subq (by walk_at "at") (by walk_at "at") ?_)
  | ((with_reducible show EvS _ (Stmt.AugAssign (Expr.Subscript (Expr.Name _ _) _ _) Operator.Add _ _) _ _ _); with_reducible refine s_daddq (by walk_at "at") (by walk_at "at") ?_)
  | ((with_reducible show EvS _ (Stmt.Assign [Expr.Tuple [Expr.Name _ _, Expr.Name _ _] _ _] (Expr.Tuple [_, _] _ _) _) _ _ _); with_reducible refine s_par (by walk_at "at") (by walk_at "at") (by decide) ?_)
  | ((with_reducible show EvS _ (Stmt.Assign [Expr.Tuple _ _ _] _ _) _ _ _); with_reducible refine s_asg ?_)
  | ((with_reducible show EvS _ (Stmt.Assign [Expr.Subscript (Expr.Name _ _) _ _] _ _) _ _ _); walk_at "evPut")
  | with_reducible refine s_break ?_
  | with_reducible refine s_continue ?_
  | with_reducible refine s_pass ?_)
local macro_rules | `(tactic| walk_at "evIf") => `(tactic| with_reducible refine s_if ?_)
local macro_rules | `(tactic| walk_at "evXp") => `(tactic| with_reducible refine s_appG (by walk_at "at") (by walk_at "at") (by walk_at "own") ?_)
local macro_rules | `(tactic| walk_at "evPut") => `(tactic| with_reducible refine s_dput (by walk_at "at") (by walk_at "at") ?_)
local macro_rules | `(tactic| walk_at "evK") => `(tactic| first
  | with_reducible refine e_int ?_
  | with_reducible refine e_bl ?_
  | with_reducible refine e_non ?_
  | with_reducible refine e_str ?_)
local macro_rules | `(tactic| walk_at "evCm") => `(tactic| first
  | with_reducible refine e_isN ?_
  | with_reducible refine e_notN ?_
  | with_reducible refine e_lt ?_
  | with_reducible refine e_eq ?_
  | with_reducible refine e_ne ?_)
local macro_rules | `(tactic| walk_at "evIx") => `(tactic| first
  | ((with_reducible show EvE _ (Expr.Subscript _ (Expr.Slice _ _ _ _) _) _ _); with_reducible refine e_sliceA ?_)
  | ((with_reducible show EvE _ (Expr.Subscript (Expr.Name _ _) _ _) _ _); with_reducible refine e_ixO (by walk_at "at") (by walk_at "at") (by walk_at "own") (by walk_at "sset") ?_ (by walk_at "at"))
  | ((with_reducible show EvE _ (Expr.Subscript (Expr.Name _ _) _ _) _ _); with_reducible refine e_dix (by walk_at "at") (by walk_at "at") ?_)
  | with_reducible refine e_ixA ?_)
local macro_rules | `(tactic| walk_at "evBo") => `(tactic| first
  | with_reducible refine e_addA ?_
  | with_reducible refine e_sub ?_
  | with_reducible refine e_mul ?_
  | with_reducible refine e_mod ?_
  | with_reducible refine e_fdiv ?_
  | with_reducible refine e_pow ?_)
local macro_rules | `(tactic| walk_at "evCa") => `(tactic| first
  | ((with_reducible show EvE _ (Expr.Call (Expr.Attribute _ _ _) _ _ _) _ _); walk_at "evMt")
  | ((with_reducible show EvE _ (Expr.Call (Expr.Name (Str.ofString "isinstance") _) _ _ _) _ _); first
    | with_reducible refine e_isin (Txt.isin (by assumption)) (Txt.c_int (by assumption)) ?_
    | with_reducible refine e_isin (Txt.isin (by assumption)) (Txt.c_tuple (by assumption)) ?_
    | with_reducible refine e_isin (Txt.isin (by assumption)) (Txt.c_list (by assumption)) ?_
    | with_reducible refine e_isin (Txt.isin (by assumption)) (Txt.c_bool (by assumption)) ?_)
  | ((with_reducible show EvE _ (Expr.Call (Expr.Name (Str.ofString "len") _) _ _ _) _ _); first
    | ((with_reducible show EvE _ (Expr.Call _ [Expr.Name _ _] _ _) _ _); with_reducible refine e_lenO (Txt.len (by assumption)) (by walk_at "at") (by walk_at "at") (by walk_at "own") (by walk_at "sset") ?_)
    | with_reducible refine e_len (Txt.len (by assumption)) ?_)
  | ((with_reducible show EvE _ (Expr.Call (Expr.Name (Str.ofString "tuple") _) _ _ _) _ _); first
    | ((with_reducible show EvE _ (Expr.Call _ [Expr.Name _ _] _ _) _ _); with_reducible refine e_tupleO (Txt.tuple (by assumption)) (by walk_at "at") (by walk_at "at") (by walk_at "own") (by walk_at "sset") ?_)
    | with_reducible refine e_tuple (Txt.tuple (by assumption)) ?_)
  | ((with_reducible show EvE _ (Expr.Call (Expr.Name (Str.ofString "abs") _) _ _ _) _ _); with_reducible refine e_abs (Txt.abs (by assumption)) ?_)
  | ((with_reducible show EvE _ (Expr.Call (Expr.Name (Str.ofString "int") _) _ _ _) _ _); with_reducible refine e_intB (Txt.int (by assumption)) ?_))
local macro_rules | `(tactic| walk_at "evMt") => `(tactic| with_reducible refine e_dget (by walk_at "at") (by walk_at "at") ?_)
local macro_rules | `(tactic| walk_at "evE") => `(tactic| first
  | ((with_reducible show EvE _ (Expr.Name _ _) _ _); with_reducible refine e_var (by walk_at "at") (by walk_at "at") ?_)
  | ((with_reducible show EvE _ (Expr.Constant _ _ _) _ _); walk_at "evK")
  | ((with_reducible show EvE _ (Expr.Call _ _ _ _) _ _); walk_at "evCa")
  | ((with_reducible show EvE _ (Expr.Subscript _ _ _) _ _); walk_at "evIx")
  | ((with_reducible show EvE _ (Expr.BinOp _ _ _ _) _ _); walk_at "evBo")
  | ((with_reducible show EvE _ (Expr.Compare _ _ _ _) _ _); walk_at "evCm")
  | with_reducible refine e_tup ?_
  | with_reducible refine e_lstA ?_
  | with_reducible refine e_neg ?_
  | with_reducible refine e_not ?_
  | with_reducible refine e_and ?_
  | with_reducible refine e_or ?_
  | with_reducible refine e_one ?_
  | with_reducible refine e_ifExp ?_)
local macro_rules | `(tactic| walk_at "evX") => `(tactic| first
  | ((with_reducible show EvX _ (Expr.List _ _) _ _); with_reducible refine x_lst ?_)
  | ((with_reducible show EvX _ (Expr.Call _ _ _ _) _ _); walk_at "evXC")
  | ((with_reducible show EvX _ (Expr.BinOp _ Operator.Add _ _) _ _); with_reducible refine x_add ?_)
  | ((with_reducible show EvX _ (Expr.Subscript _ (Expr.Slice _ _ _ _) _) _ _); with_reducible refine x_slice ?_)
  | with_reducible refine x_e ?_)
local macro_rules | `(tactic| walk_at "evXC") => `(tactic| first
  | ((with_reducible show EvX _ (Expr.Call (Expr.Name (Str.ofString "list") _) _ _ _) _ _); first
    | ((with_reducible show EvX _ (Expr.Call _ [Expr.Name _ _] _ _) _ _); with_reducible refine x_listO (Txt.list (by assumption)) (by walk_at "at") (by walk_at "at") (by walk_at "own") (by walk_at "sset") ?_)
    | with_reducible refine x_list (Txt.list (by assumption)) ?_)
  | with_reducible refine x_e ?_)
local macro_rules | `(tactic| walk_at "evT") => `(tactic| first
  | ((with_reducible show EvT _ (Expr.Compare _ _ _ _) _ _); first
    | with_reducible refine t_isN ?_
    | with_reducible refine t_notN ?_
    | with_reducible refine t_ne ?_
    | with_reducible refine t_eq ?_
    | with_reducible refine t_lt ?_
    | with_reducible refine t_le ?_
    | with_reducible refine t_gt ?_
    | with_reducible refine t_ge ?_
    | with_reducible refine t_din (by walk_at "at") (by walk_at "at") ?_
    | with_reducible refine t_dnotin (by walk_at "at") (by walk_at "at") ?_)
  | with_reducible refine t_not ?_
  | with_reducible refine t_w (w_and ?_)
  | with_reducible refine t_w (w_or ?_)
  | with_reducible refine t_val ?_)
local macro_rules | `(tactic| walk_at "evW") => `(tactic| first
  | with_reducible refine w_and ?_
  | with_reducible refine w_or ?_
  | with_reducible refine w_and1 ?_
  | with_reducible refine w_or1 ?_)
local macro_rules | `(tactic| walk_at "evG") => `(tactic| first
  | ((with_reducible show EvG _ (Expr.Name _ _) _ _ _); with_reducible refine g_name (by walk_at "at") ?_)
  | with_reducible refine g_tup rfl (by with_unfolding_all rfl) ?_)
local macro_rules | `(tactic| walk_at "evGs") => `(tactic| first
  | with_reducible refine gs_nil ?_
  | ((with_reducible show EvGs _ (_ :: _) _ _ _); with_reducible refine gs_name (by walk_at "at") ?_))
local macro_rules | `(tactic| walk_at "evL") => `(tactic| first
  | ((with_reducible show Nx _ _ _ _); with_reducible refine nxt (by walk_at "sset") ?_)
  | ((with_reducible show Sd _ _); first | with_reducible refine Sd.mk (by walk_at "side") ?_ | with_reducible refine Sd.mk ?_ ?_)
  | ((with_reducible show If2 _ _ _); first
    | with_reducible refine if2_t ?_
    | with_reducible refine if2_f ?_
    | with_reducible refine if2_not ?_
    | with_reducible refine if2_dec (fun h => ?_) (fun h => ?_)
    | with_reducible refine if2 (fun h => ?_) (fun h => ?_))
  | with_reducible refine i2 ?_
  | with_reducible refine i1 ?_
  | with_reducible refine b1 ?_
  | ((with_reducible show EqP _ _ _); first
    | with_reducible refine eqp_int ?_
    | with_reducible refine eqp_bl ?_
    | with_reducible refine eqp_str ?_)
  | ((with_reducible show AddP _ _ _); first
    | with_reducible refine addp_int ?_
    | with_reducible refine addp_lst ?_
    | with_reducible refine addp_tup ?_)
  | ((with_reducible show FzP _ _); first
    | with_reducible refine fz_va ?_
    | with_reducible refine fz_ow ?_)
  | ((with_reducible show IsN _ _); first
    | with_reducible refine isn_t ?_
    | with_reducible refine isn_f (by intro q; cases q) ?_)
  | ((with_reducible show IxP _ _ _); first
    | refine ixp_t (by rfl) ?_
    | refine ixp_l (by rfl) ?_)
  | ((with_reducible show SlP _ _ _ _); first
    | with_reducible refine EV.SlP.lst ?_
    | with_reducible refine EV.SlP.tup ?_)
  | ((with_reducible show ∃ ys, D.row _ = some ys ∧ _); refine rowX (by rfl) ?_)
  | ((with_reducible show ∃ t b, TyD _ _ t ∧ _); first
    | with_reducible refine isd .int kit_ii ?_
    | with_reducible refine isd .int (Txt.ib (by assumption)) ?_
    | with_reducible refine isd .bl kit_bb ?_
    | with_reducible refine isd .lst kit_ll ?_
    | with_reducible refine isd .tup kit_tt ?_)
  | ((with_reducible show ∃ r, _ ∧ RsP _ _ _ r); walk_at "evR"))
local macro_rules | `(tactic| walk_at "ev1") => `(tactic| first
  | ((with_reducible show EvE _ _ _ _); walk_at "evE")
  | ((with_reducible show EvX _ _ _ _); walk_at "evX")
  | ((with_reducible show EvT _ _ _ _); walk_at "evT")
  | ((with_reducible show EvSs _ _ _ _ _); walk_at "evSs")
  | ((with_reducible show EvS _ _ _ _ _); walk_at "evS")
  | ((with_reducible show EvA _ _ _ _); first | with_reducible refine a_cons ?_ | with_reducible refine a_nil ?_)
  | ((with_reducible show EvW _ _ _ _); walk_at "evW")
  | ((with_reducible show EvG _ _ _ _ _); walk_at "evG")
  | ((with_reducible show EvGs _ _ _ _ _); walk_at "evGs")
  | ((with_reducible show EvP _ _ _ _); first | with_reducible refine p_none ?_ | with_reducible refine p_some ?_)
  | walk_at "evL")
local macro_rules | `(tactic| walk_at "ev") => `(tactic| repeat' (walk_at "ev1"))

section
variable {P : Program} {w : World} {K : PySem.W.Frag} {mg : Str → Option Value} {base : Heap}
/-! sizes -/
theorem zs_mul {m n : Nat} {a b : Int} (h : Zs m a) (g : Zs n b) : Zs (m + n) (a * b) := by
  rw [zs_iff] at *
  rw [Int.natAbs_mul, Nat.pow_add]
  exact Nat.mul_lt_mul'' h g
theorem zs_le {m n : Nat} {a : Int} (h : Zs m a) (l : m ≤ n) : Zs n a := zs_iff.mpr (Nat.lt_of_lt_of_le (zs_iff.mp h) (Nat.pow_le_pow_right (by decide) l))
theorem zs_add {m n : Nat} {a b : Int} (h : Zs m a) (g : Zs n b) : Zs (max m n + 1) (a + b) := by
  have h1 := zs_le h (Nat.le_max_left m n)
  have h2 := zs_le g (Nat.le_max_right m n)
  rw [zs_iff] at *
  rw [Nat.pow_succ]
  omega
theorem zs_neg {m : Nat} {a : Int} (h : Zs m a) : Zs m (-a) := by rw [zs_iff] at *; omega
theorem zs_sub {m n : Nat} {a b : Int} (h : Zs m a) (g : Zs n b) : Zs (max m n + 1) (a - b) := by
  rw [Int.sub_eq_add_neg]; exact zs_add h (zs_neg g)
theorem zs_T {m : Nat} {a b : Int} (hb : b ≠ 0) (h : Zs m a) : Zs m (nT a b) := zs_iff.mpr (Nat.lt_of_le_of_lt (n_abs_T hb) (zs_iff.mp h))
theorem zs_B {m : Nat} {a b : Int} (hb : b ≠ 0) (h : Zs m b) : Zs m (nB a b) := zs_iff.mpr (Nat.lt_of_le_of_lt (n_abs_B hb) (zs_iff.mp h))
theorem sz_of {n : Nat} {a : Int} (h : Zs n a) (l : n ≤ 1299) : Sz a := zs_le h l
theorem pz_of {n : Nat} {a : Int} (h : Zs n a) (l : n ≤ 2600) : Pz a := zs_le h l
theorem bits_lt {a : Int} (h : Pz a) : Builtin.Int.intBits a ≤ 9001 := by
  unfold Builtin.Int.intBits
  by_cases z : a = 0
  · subst z; decide
  · have e : (a == 0) = false := by simpa using z
    rw [e, if_neg Bool.false_ne_true]
    have := log_small (zs_iff.mp h) (by decide)
    omega
theorem sz_pz {a : Int} (h : Sz a) : Pz a := pz_of (n := 1299) h (by decide)
theorem mul_pz {a b : Int} (h : Pz a) (g : Pz b) : EV.MulOk a b := by
  have h1 := bits_lt h
  have h2 := bits_lt g
  unfold EV.MulOk IntMulOk Builtin.Int.intTooBig bitsLine
  have e : decide (((Builtin.Int.intBits a + Builtin.Int.intBits b : Nat) : Int) > ((2 ^ 27 : Nat) : Int)) = false := by
    apply decide_eq_false; omega
  simp only [Bool.and_eq_true]
  rintro ⟨_, z⟩
  have z' := of_decide_eq_true z
  omega
theorem mul_sz {a b : Int} (h : Sz a) (g : Sz b) : EV.MulOk a b := mul_pz (sz_pz h) (sz_pz g)
theorem prod_pz {a b : Int} (h : Sz a) (g : Sz b) : Pz (a * b) := pz_of (zs_mul (m := 1299) (n := 1299) h g) (by decide)
/-! the five -/
def F4 (f g : Int → Int → Int → Int → Int) : Fn := fun ds r => ∃ p q p' q' : Int, Sz p ∧ Sz q ∧ Sz p' ∧ Sz q' ∧ g p q p' q' ≠ 0 ∧ ds = [.tup [.int p, .int q], .tup [.int p', .int q']] ∧ r = .ok (.va (fracD (f p q p' q') (g p q p' q')))
def fSum (p q p' q' : Int) : Int := p * q' + p' * q
def fLess (p q p' q' : Int) : Int := p * q' - p' * q
def fTimes (p _q p' _q' : Int) : Int := p * p'
def gAll (_p q _p' q' : Int) : Int := q * q'
def fBy (p _q _p' q' : Int) : Int := p * q'
def gBy (_p q p' _q' : Int) : Int := q * p'
theorem f_sum {p q p' q' : Int} (hp : Sz p) (hq : Sz q) (hp' : Sz p') (hq' : Sz q') (z : q * q' ≠ 0) : F4 fSum gAll [.tup [.int p, .int q], .tup [.int p', .int q']] (.ok (.va (fracD (p * q' + p' * q) (q * q')))) := ⟨p, q, p', q', hp, hq, hp', hq', z, rfl, rfl⟩
theorem f_less {p q p' q' : Int} (hp : Sz p) (hq : Sz q) (hp' : Sz p') (hq' : Sz q') (z : q * q' ≠ 0) : F4 fLess gAll [.tup [.int p, .int q], .tup [.int p', .int q']] (.ok (.va (fracD (p * q' - p' * q) (q * q')))) := ⟨p, q, p', q', hp, hq, hp', hq', z, rfl, rfl⟩
theorem f_times {p q p' q' : Int} (hp : Sz p) (hq : Sz q) (hp' : Sz p') (hq' : Sz q') (z : q * q' ≠ 0) : F4 fTimes gAll [.tup [.int p, .int q], .tup [.int p', .int q']] (.ok (.va (fracD (p * p') (q * q')))) := ⟨p, q, p', q', hp, hq, hp', hq', z, rfl, rfl⟩
theorem f_by {p q p' q' : Int} (hp : Sz p) (hq : Sz q) (hp' : Sz p') (hq' : Sz q') (z : q * p' ≠ 0) : F4 fBy gBy [.tup [.int p, .int q], .tup [.int p', .int q']] (.ok (.va (fracD (p * q') (q * p')))) := ⟨p, q, p', q', hp, hq, hp', hq', z, rfl, rfl⟩
section
local macro_rules | `(tactic| walk_at "evCa") => `(tactic| with_reducible refine e_call (F := Ffr) (by assumption) (by decide) ?_)
local macro_rules | `(tactic| walk_at "evL") => `(tactic| first | ((with_reducible show Sd (EV.MulOk _ _) _); with_reducible refine Sd.mk (mul_sz (by assumption) (by assumption)) ?_))
theorem ok_sum {f : Addr} {fd : FuncData} (Fu : Fun K "frac_sum" "frac_sum" st_frac_sum f fd) (hof : Cal P w K mg base 2 (Str.ofString "fraction_of") Ffr) : FnOk P w K mg base (CXE P w) 3 f fd ["one", "other"] (spF K (F4 fSum gAll)) := by
  refine fn_q Fu sc_frac_sum vi_frac_sum (by rintro ds r ⟨p, q, p', q', _, _, _, _, _, rfl, _⟩; rfl) (by rintro ds r ⟨p, q, p', q', _, _, _, _, _, _, rfl⟩; exact ⟨_, rfl⟩) fun c hqq ds sl hF => ?_
  obtain ⟨p, q, p', q', hp, hq, hp', hq', hz, rfl, e⟩ := hF
  injection e with e
  subst e
  show EvSs c _ [.va (.tup [.int p, .int q]), .va (.tup [.int p', .int q'])] _ _
  conv in (defBody _) => whnf
  walk_at "ev"
  exact rs_ok (f_fr hz (prod_pz hq hq')) (fz_va rfl)
theorem ok_less {f : Addr} {fd : FuncData} (Fu : Fun K "frac_less" "frac_less" st_frac_less f fd) (hof : Cal P w K mg base 2 (Str.ofString "fraction_of") Ffr) : FnOk P w K mg base (CXE P w) 3 f fd ["one", "other"] (spF K (F4 fLess gAll)) := by
  refine fn_q Fu sc_frac_less vi_frac_less (by rintro ds r ⟨p, q, p', q', _, _, _, _, _, rfl, _⟩; rfl) (by rintro ds r ⟨p, q, p', q', _, _, _, _, _, _, rfl⟩; exact ⟨_, rfl⟩) fun c hqq ds sl hF => ?_
  obtain ⟨p, q, p', q', hp, hq, hp', hq', hz, rfl, e⟩ := hF
  injection e with e
  subst e
  show EvSs c _ [.va (.tup [.int p, .int q]), .va (.tup [.int p', .int q'])] _ _
  conv in (defBody _) => whnf
  walk_at "ev"
  exact rs_ok (f_fr hz (prod_pz hq hq')) (fz_va rfl)
theorem ok_times {f : Addr} {fd : FuncData} (Fu : Fun K "frac_times" "frac_times" st_frac_times f fd) (hof : Cal P w K mg base 2 (Str.ofString "fraction_of") Ffr) : FnOk P w K mg base (CXE P w) 3 f fd ["one", "other"] (spF K (F4 fTimes gAll)) := by
  refine fn_q Fu sc_frac_times vi_frac_times (by rintro ds r ⟨p, q, p', q', _, _, _, _, _, rfl, _⟩; rfl) (by rintro ds r ⟨p, q, p', q', _, _, _, _, _, _, rfl⟩; exact ⟨_, rfl⟩) fun c hqq ds sl hF => ?_
  obtain ⟨p, q, p', q', hp, hq, hp', hq', hz, rfl, e⟩ := hF
  injection e with e
  subst e
  show EvSs c _ [.va (.tup [.int p, .int q]), .va (.tup [.int p', .int q'])] _ _
  conv in (defBody _) => whnf
  walk_at "ev"
  exact rs_ok (f_fr hz (prod_pz hq hq')) (fz_va rfl)
theorem ok_by {f : Addr} {fd : FuncData} (Fu : Fun K "frac_by" "frac_by" st_frac_by f fd) (hof : Cal P w K mg base 2 (Str.ofString "fraction_of") Ffr) : FnOk P w K mg base (CXE P w) 3 f fd ["one", "other"] (spF K (F4 fBy gBy)) := by
  refine fn_q Fu sc_frac_by vi_frac_by (by rintro ds r ⟨p, q, p', q', _, _, _, _, _, rfl, _⟩; rfl) (by rintro ds r ⟨p, q, p', q', _, _, _, _, _, _, rfl⟩; exact ⟨_, rfl⟩) fun c hqq ds sl hF => ?_
  obtain ⟨p, q, p', q', hp, hq, hp', hq', hz, rfl, e⟩ := hF
  injection e with e
  subst e
  show EvSs c _ [.va (.tup [.int p, .int q]), .va (.tup [.int p', .int q'])] _ _
  conv in (defBody _) => whnf
  walk_at "ev"
  exact rs_ok (f_fr hz (prod_pz hq hp')) (fz_va rfl)
def Flesser : Fn := fun ds r => ∃ p q p' q' : Int, Sz p ∧ Sz q ∧ Sz p' ∧ Sz q' ∧ ds = [.tup [.int p, .int q], .tup [.int p', .int q']] ∧ r = .ok (.va (.bl (decide (p * q' < p' * q))))
theorem f_lesser {p q p' q' : Int} (hp : Sz p) (hq : Sz q) (hp' : Sz p') (hq' : Sz q') : Flesser [.tup [.int p, .int q], .tup [.int p', .int q']] (.ok (.va (.bl (decide (p * q' < p' * q))))) := ⟨p, q, p', q', hp, hq, hp', hq', rfl, rfl⟩
theorem ok_lesser {f : Addr} {fd : FuncData} (Fu : Fun K "frac_lesser" "frac_lesser" st_frac_lesser f fd) : FnOk P w K mg base (CXE P w) 1 f fd ["one", "other"] (spF K Flesser) := by
  refine fn_q Fu sc_frac_lesser vi_frac_lesser (by rintro ds r ⟨p, q, p', q', _, _, _, _, rfl, _⟩; rfl) (by rintro ds r ⟨p, q, p', q', _, _, _, _, _, rfl⟩; exact ⟨_, rfl⟩) fun c hq0 ds sl hF => ?_
  obtain ⟨p, q, p', q', hp, hq, hp', hq', rfl, e⟩ := hF
  injection e with e
  subst e
  show EvSs c _ [.va (.tup [.int p, .int q]), .va (.tup [.int p', .int q'])] _ _
  conv in (defBody _) => whnf
  walk_at "ev"
  rfl
end

end


set_option Elab.async false
set_option linter.all false
set_option maxRecDepth 100000
set_option maxHeartbeats 0
local macro_rules | `(tactic| walk_at "side") => `(tactic| first | omega | assumption | exact sz_small (Nat.le_of_ble_eq_true rfl) | exact dv_small (by decide) (by decide +kernel) | (show CPow _ _; exact ⟨by decide, by decide, by decide +kernel⟩))
local macro_rules | `(tactic| walk_at "at") => `(tactic| with_reducible (repeat (first | exact At.z | apply At.s)))
local macro_rules | `(tactic| walk_at "sset") => `(tactic| with_reducible (repeat (first | exact SSet.z | apply SSet.s)))
local macro_rules | `(tactic| walk_at "own") => `(tactic| with_unfolding_all rfl)
local macro_rules | `(tactic| walk_at "evSs") => `(tactic| first
  | with_reducible refine ss_cons ?_
  | with_reducible refine ss_nil ?_)
local macro_rules | `(tactic| walk_at "evS") => `(tactic| first
  | ((with_reducible show EvS _ (Stmt.Assign [Expr.Name _ _] _ _) _ _ _); with_reducible refine s_set (by walk_at "at") ?_)
  | ((with_reducible show EvS _ (Stmt.If _ _ _ _) _ _ _); walk_at "evIf")
  | ((with_reducible show EvS _ (Stmt.Expr _ _) _ _ _); walk_at "evXp")
  | ((with_reducible show EvS _ (Stmt.Return (some (Expr.Name _ _)) _) _ _ _); with_reducible refine s_ret_ow (by walk_at "at") (by walk_at "at") rfl ?_)
  | ((with_reducible show EvS _ (Stmt.Return (some _) _) _ _ _); with_reducible refine s_ret ?_)
  | ((with_reducible show EvS _ (Stmt.Return none _) _ _ _); with_reducible refine s_retN ?_)
  | ((with_reducible show EvS _ (Stmt.AugAssign (Expr.Name _ _) Operator.Add _ _) _ _ _); with_reducible refine s_addq (by walk_at "at") (by walk_at "at") ?_)
  | ((with_reducible show EvS _ (Stmt.AugAssign (Expr.Name _ _) Operator.Sub _ _) _ _ _); with_reducible refine s_subq (by walk_at "at") (by walk_at "at") ?_)
  | ((with_reducible show EvS _ (Stmt.AugAssign (Expr.Subscript (Expr.Name _ _) _ _) Operator.Add _ _) _ _ _); with_reducible refine s_daddq (by walk_at "at") (by walk_at "at") ?_)
  | ((with_reducible show EvS _ (Stmt.Assign [Expr.Tuple [Expr.Name _ _, Expr.Name _ _] _ _] (Expr.Tuple [_, _] _ _) _) _ _ _); with_reducible refine s_par (by walk_at "at") (by walk_at "at") (by decide) ?_)
  | ((with_reducible show EvS _ (Stmt.Assign [Expr.Tuple _ _ _] _ _) _ _ _); with_reducible refine s_asg ?_)
  | ((with_reducible show EvS _ (Stmt.Assign [Expr.Subscript (Expr.Name _ _) _ _] _ _) _ _ _); walk_at "evPut")
  | with_reducible refine s_break ?_
  | with_reducible refine s_continue ?_
  | with_reducible refine s_pass ?_)
local macro_rules | `(tactic| walk_at "evIf") => `(tactic| with_reducible refine s_if ?_)
local macro_rules | `(tactic| walk_at "evXp") => `(tactic| with_reducible refine s_appG (by walk_at "at") (by walk_at "at") (by walk_at "own") ?_)
local macro_rules | `(tactic| walk_at "evPut") => `(tactic| with_reducible refine s_dput (by walk_at "at") (by walk_at "at") ?_)
local macro_rules | `(tactic| walk_at "evK") => `(tactic| first
  | with_reducible refine e_int ?_
  | with_reducible refine e_bl ?_
  | with_reducible refine e_non ?_
  | with_reducible refine e_str ?_)
local macro_rules | `(tactic| walk_at "evCm") => `(tactic| first
  | with_reducible refine e_isN ?_
  | with_reducible refine e_notN ?_
  | with_reducible refine e_lt ?_
  | with_reducible refine e_eq ?_
  | with_reducible refine e_ne ?_)
local macro_rules | `(tactic| walk_at "evIx") => `(tactic| first
  | ((with_reducible show EvE _ (Expr.Subscript _ (Expr.Slice _ _ _ _) _) _ _); with_reducible refine e_sliceA ?_)
  | ((with_reducible show EvE _ (Expr.Subscript (Expr.Name _ _) _ _) _ _); with_reducible refine e_ixO (by walk_at "at") (by walk_at "at") (by walk_at "own") (by walk_at "sset") ?_ (by walk_at "at"))
  | ((with_reducible show EvE _ (Expr.Subscript (Expr.Name _ _) _ _) _ _); with_reducible refine e_dix (by walk_at "at") (by walk_at "at") ?_)
  | with_reducible refine e_ixA ?_)
local macro_rules | `(tactic| walk_at "evBo") => `(tactic| first
  | with_reducible refine e_addA ?_
  | with_reducible refine e_sub ?_
  | with_reducible refine e_mul ?_
  | with_reducible refine e_mod ?_
  | with_reducible refine e_fdiv ?_
  | with_reducible refine e_pow ?_)
local macro_rules | `(tactic| walk_at "evCa") => `(tactic| first
  | ((with_reducible show EvE _ (Expr.Call (Expr.Attribute _ _ _) _ _ _) _ _); walk_at "evMt")
  | ((with_reducible show EvE _ (Expr.Call (Expr.Name (Str.ofString "isinstance") _) _ _ _) _ _); first
    | with_reducible refine e_isin (Txt.isin (by assumption)) (Txt.c_int (by assumption)) ?_
    | with_reducible refine e_isin (Txt.isin (by assumption)) (Txt.c_tuple (by assumption)) ?_
    | with_reducible refine e_isin (Txt.isin (by assumption)) (Txt.c_list (by assumption)) ?_
    | with_reducible refine e_isin (Txt.isin (by assumption)) (Txt.c_bool (by assumption)) ?_)
  | ((with_reducible show EvE _ (Expr.Call (Expr.Name (Str.ofString "len") _) _ _ _) _ _); first
    | ((with_reducible show EvE _ (Expr.Call _ [Expr.Name _ _] _ _) _ _); with_reducible refine e_lenO (Txt.len (by assumption)) (by walk_at "at") (by walk_at "at") (by walk_at "own") (by walk_at "sset") ?_)
    | with_reducible refine e_len (Txt.len (by assumption)) ?_)
  | ((with_reducible show EvE _ (Expr.Call (Expr.Name (Str.ofString "tuple") _) _ _ _) _ _); first
    | ((with_reducible show EvE _ (Expr.Call _ [Expr.Name _ _] _ _) _ _); with_reducible refine e_tupleO (Txt.tuple (by assumption)) (by walk_at "at") (by walk_at "at") (by walk_at "own") (by walk_at "sset") ?_)
    | with_reducible refine e_tuple (Txt.tuple (by assumption)) ?_)
  | ((with_reducible show EvE _ (Expr.Call (Expr.Name (Str.ofString "abs") _) _ _ _) _ _); with_reducible refine e_abs (Txt.abs (by assumption)) ?_)
  | ((with_reducible show EvE _ (Expr.Call (Expr.Name (Str.ofString "int") _) _ _ _) _ _); with_reducible refine e_intB (Txt.int (by assumption)) ?_))
local macro_rules | `(tactic| walk_at "evMt") => `(tactic| with_reducible refine e_dget (by walk_at "at") (by walk_at "at") ?_)
local macro_rules | `(tactic| walk_at "evE") => `(tactic| first
  | ((with_reducible show EvE _ (Expr.Name _ _) _ _); with_reducible refine e_var (by walk_at "at") (by walk_at "at") ?_)
  | ((with_reducible show EvE _ (Expr.Constant _ _ _) _ _); walk_at "evK")
  | ((with_reducible show EvE _ (Expr.Call _ _ _ _) _ _); walk_at "evCa")
  | ((with_reducible show EvE _ (Expr.Subscript _ _ _) _ _); walk_at "evIx")
  | ((with_reducible show EvE _ (Expr.BinOp _ _ _ _) _ _); walk_at "evBo")
  | ((with_reducible show EvE _ (Expr.Compare _ _ _ _) _ _); walk_at "evCm")
  | with_reducible refine e_tup ?_
  | with_reducible refine e_lstA ?_
  | with_reducible refine e_neg ?_
  | with_reducible refine e_not ?_
  | with_reducible refine e_and ?_
  | with_reducible refine e_or ?_
  | with_reducible refine e_one ?_
  | with_reducible refine e_ifExp ?_)
local macro_rules | `(tactic| walk_at "evX") => `(tactic| first
  | ((with_reducible show EvX _ (Expr.List _ _) _ _); with_reducible refine x_lst ?_)
  | ((with_reducible show EvX _ (Expr.Call _ _ _ _) _ _); walk_at "evXC")
  | ((with_reducible show EvX _ (Expr.BinOp _ Operator.Add _ _) _ _); with_reducible refine x_add ?_)
  | ((with_reducible show EvX _ (Expr.Subscript _ (Expr.Slice _ _ _ _) _) _ _); with_reducible refine x_slice ?_)
  | with_reducible refine x_e ?_)
local macro_rules | `(tactic| walk_at "evXC") => `(tactic| first
  | ((with_reducible show EvX _ (Expr.Call (Expr.Name (Str.ofString "list") _) _ _ _) _ _); first
    | ((with_reducible show EvX _ (Expr.Call _ [Expr.Name _ _] _ _) _ _); with_reducible refine x_listO (Txt.list (by assumption)) (by walk_at "at") (by walk_at "at") (by walk_at "own") (by walk_at "sset") ?_)
    | with_reducible refine x_list (Txt.list (by assumption)) ?_)
  | with_reducible refine x_e ?_)
local macro_rules | `(tactic| walk_at "evT") => `(tactic| first
  | ((with_reducible show EvT _ (Expr.Compare _ _ _ _) _ _); first
    | with_reducible refine t_isN ?_
    | with_reducible refine t_notN ?_
    | with_reducible refine t_ne ?_
    | with_reducible refine t_eq ?_
    | with_reducible refine t_lt ?_
    | with_reducible refine t_le ?_
    | with_reducible refine t_gt ?_
    | with_reducible refine t_ge ?_
    | with_reducible refine t_din (by walk_at "at") (by walk_at "at") ?_
    | with_reducible refine t_dnotin (by walk_at "at") (by walk_at "at") ?_)
  | with_reducible refine t_not ?_
  | with_reducible refine t_w (w_and ?_)
  | with_reducible refine t_w (w_or ?_)
  | with_reducible refine t_val ?_)
local macro_rules | `(tactic| walk_at "evW") => `(tactic| first
  | with_reducible refine w_and ?_
  | with_reducible refine w_or ?_
  | with_reducible refine w_and1 ?_
  | with_reducible refine w_or1 ?_)
local macro_rules | `(tactic| walk_at "evG") => `(tactic| first
  | ((with_reducible show EvG _ (Expr.Name _ _) _ _ _); with_reducible refine g_name (by walk_at "at") ?_)
  | with_reducible refine g_tup rfl (by with_unfolding_all rfl) ?_)
local macro_rules | `(tactic| walk_at "evGs") => `(tactic| first
  | with_reducible refine gs_nil ?_
  | ((with_reducible show EvGs _ (_ :: _) _ _ _); with_reducible refine gs_name (by walk_at "at") ?_))
local macro_rules | `(tactic| walk_at "evL") => `(tactic| first
  | ((with_reducible show Nx _ _ _ _); with_reducible refine nxt (by walk_at "sset") ?_)
  | ((with_reducible show Sd _ _); first | with_reducible refine Sd.mk (by walk_at "side") ?_ | with_reducible refine Sd.mk ?_ ?_)
  | ((with_reducible show If2 _ _ _); first
    | with_reducible refine if2_t ?_
    | with_reducible refine if2_f ?_
    | with_reducible refine if2_not ?_
    | with_reducible refine if2_dec (fun h => ?_) (fun h => ?_)
    | with_reducible refine if2 (fun h => ?_) (fun h => ?_))
  | with_reducible refine i2 ?_
  | with_reducible refine i1 ?_
  | with_reducible refine b1 ?_
  | ((with_reducible show EqP _ _ _); first
    | with_reducible refine eqp_int ?_
    | with_reducible refine eqp_bl ?_
    | with_reducible refine eqp_str ?_)
  | ((with_reducible show AddP _ _ _); first
    | with_reducible refine addp_int ?_
    | with_reducible refine addp_lst ?_
    | with_reducible refine addp_tup ?_)
  | ((with_reducible show FzP _ _); first
    | with_reducible refine fz_va ?_
    | with_reducible refine fz_ow ?_)
  | ((with_reducible show IsN _ _); first
    | with_reducible refine isn_t ?_
    | with_reducible refine isn_f (by intro q; cases q) ?_)
  | ((with_reducible show IxP _ _ _); first
    | refine ixp_t (by rfl) ?_
    | refine ixp_l (by rfl) ?_)
  | ((with_reducible show SlP _ _ _ _); first
    | with_reducible refine EV.SlP.lst ?_
    | with_reducible refine EV.SlP.tup ?_)
  | ((with_reducible show ∃ ys, D.row _ = some ys ∧ _); refine rowX (by rfl) ?_)
  | ((with_reducible show ∃ t b, TyD _ _ t ∧ _); first
    | with_reducible refine isd .int kit_ii ?_
    | with_reducible refine isd .int (Txt.ib (by assumption)) ?_
    | with_reducible refine isd .bl kit_bb ?_
    | with_reducible refine isd .lst kit_ll ?_
    | with_reducible refine isd .tup kit_tt ?_)
  | ((with_reducible show ∃ r, _ ∧ RsP _ _ _ r); walk_at "evR"))
local macro_rules | `(tactic| walk_at "ev1") => `(tactic| first
  | ((with_reducible show EvE _ _ _ _); walk_at "evE")
  | ((with_reducible show EvX _ _ _ _); walk_at "evX")
  | ((with_reducible show EvT _ _ _ _); walk_at "evT")
  | ((with_reducible show EvSs _ _ _ _ _); walk_at "evSs")
  | ((with_reducible show EvS _ _ _ _ _); walk_at "evS")
  | ((with_reducible show EvA _ _ _ _); first | with_reducible refine a_cons ?_ | with_reducible refine a_nil ?_)
  | ((with_reducible show EvW _ _ _ _); walk_at "evW")
  | ((with_reducible show EvG _ _ _ _ _); walk_at "evG")
  | ((with_reducible show EvGs _ _ _ _ _); walk_at "evGs")
  | ((with_reducible show EvP _ _ _ _); first | with_reducible refine p_none ?_ | with_reducible refine p_some ?_)
  | walk_at "evL")
local macro_rules | `(tactic| walk_at "ev") => `(tactic| repeat' (walk_at "ev1"))

section
variable {P : Program} {w : World} {K : PySem.W.Frag} {mg : Str → Option Value} {base : Heap}
def drT (n : Int) : Int := n / 4 % (2 * 10 ^ Int.toNat 9 + 1) - 10 ^ Int.toNat 9
def drB (n : Int) : Int := 1 + n / 4 / (2 * 10 ^ Int.toNat 9 + 1) % 10 ^ Int.toNat 9
theorem e109 : (10 : Int) ^ Int.toNat 9 = 1000000000 := by decide +kernel
theorem drT_ok (n : Int) : -1000000000 ≤ drT n ∧ drT n ≤ 1000000000 := by unfold drT; rw [e109]; omega
theorem drB_ok (n : Int) : 1 ≤ drB n ∧ drB n ≤ 1000000000 := by unfold drB; rw [e109]; omega
def Fdrawn : Fn := fun ds r => ∃ n : Int, ds = [.int n] ∧ r = .ok (.va (fracD (drT n) (drB n)))
theorem f_drawn (n : Int) : Fdrawn [.int n] (.ok (.va (fracD (drT n) (drB n)))) := ⟨n, rfl, rfl⟩
section
local macro_rules | `(tactic| walk_at "evCa") => `(tactic| with_reducible refine e_call (F := Ffr) (by assumption) (by decide) ?_)
local macro_rules | `(tactic| walk_at "evL") => `(tactic| first | ((with_reducible show Sd (EV.MulOk _ _) _); with_reducible refine Sd.mk (mul_l (by decide)) ?_))
theorem ok_drawn {f : Addr} {fd : FuncData} (Fu : Fun K "_law_drawn" "_law_drawn" st_l_drawn f fd) (hfr : Cal P w K mg base 1 (Str.ofString "_law_fraction") Ffr) : FnOk P w K mg base (CXE P w) 2 f fd ["_law_cell"] (spF K Fdrawn) := by
  refine fn_q Fu sc_l_drawn vi_l_drawn (by rintro ds r ⟨p, rfl, _⟩; rfl) (by rintro ds r ⟨p, _, rfl⟩; exact ⟨_, rfl⟩) fun c hqq ds sl hF => ?_
  obtain ⟨n, rfl, e⟩ := hF
  injection e with e
  subst e
  show EvSs c _ [.va (.int n), .un] _ _
  conv in (defBody _) => whnf
  walk_at "ev"
  all_goals first
    | exact ⟨by decide, by decide, by decide +kernel⟩
    | (rw [e109]; decide)
    | skip
  refine rs_ok (f_fr (show drB n ≠ 0 by have := drB_ok n; omega) (pz_of (n := 10) (zs_iff.mpr (show (drB n).natAbs < 10 ^ 10 by have := drB_ok n; omega)) (by decide))) (fz_va ?_)
  rfl
end
/-- the deed -/
def dN (k p q a b : Int) : Int := if k = 0 then p * b + a * q else if k = 1 then p * b - a * q else if k = 2 then p * a else p * b
def dD (k _p q a b : Int) : Int := if k = 0 then q * b else if k = 1 then q * b else if k = 2 then q * b else q * a
def Fdeed : Fn := fun ds r => ∃ k p q a b : Int, Sz p ∧ Sz q ∧ Sz a ∧ Sz b ∧ dD k p q a b ≠ 0 ∧ ds = [.tup [.int p, .int q], .tup [.int p, .int q], .tup [.int a, .int b], .int k] ∧
  r = .ok (.va (.tup [fracD (dN k p q a b) (dD k p q a b), .tup [.int (dN k p q a b), .int (dD k p q a b)]]))
theorem f_deed {k p q a b : Int} (hp : Sz p) (hq : Sz q) (ha : Sz a) (hb : Sz b) (z : dD k p q a b ≠ 0) : Fdeed [.tup [.int p, .int q], .tup [.int p, .int q], .tup [.int a, .int b], .int k] (.ok (.va (.tup [fracD (dN k p q a b) (dD k p q a b), .tup [.int (dN k p q a b), .int (dD k p q a b)]]))) := ⟨k, p, q, a, b, hp, hq, ha, hb, z, rfl, rfl⟩
def bN (k p q a b : Int) : Int := if k = 0 then p * b - a * q else if k = 1 then p * b + a * q else if k = 2 then p * b else p * a
def bD (k _p q a b : Int) : Int := if k = 0 then q * b else if k = 1 then q * b else if k = 2 then q * a else q * b
def Fback : Fn := fun ds r => ∃ k p q a b : Int, Sz p ∧ Sz q ∧ Sz a ∧ Sz b ∧ bD k p q a b ≠ 0 ∧ ds = [.tup [.int p, .int q], .tup [.int a, .int b], .int k] ∧ r = .ok (.va (fracD (bN k p q a b) (bD k p q a b)))
theorem f_back {k p q a b : Int} (hp : Sz p) (hq : Sz q) (ha : Sz a) (hb : Sz b) (z : bD k p q a b ≠ 0) : Fback [.tup [.int p, .int q], .tup [.int a, .int b], .int k] (.ok (.va (fracD (bN k p q a b) (bD k p q a b)))) := ⟨k, p, q, a, b, hp, hq, ha, hb, z, rfl, rfl⟩
section
local macro_rules | `(tactic| walk_at "evCa") => `(tactic| first
  | with_reducible refine e_call (F := F4 fSum gAll) (by assumption) (by decide) ?_
  | with_reducible refine e_call (F := F4 fLess gAll) (by assumption) (by decide) ?_
  | with_reducible refine e_call (F := F4 fTimes gAll) (by assumption) (by decide) ?_
  | with_reducible refine e_call (F := F4 fBy gBy) (by assumption) (by decide) ?_)
local macro_rules | `(tactic| walk_at "evL") => `(tactic| first | ((with_reducible show Sd (EV.MulOk _ _) _); with_reducible refine Sd.mk (mul_sz (by assumption) (by assumption)) ?_))
local macro_rules | `(tactic| walk_at "evR") => `(tactic| first
  | with_reducible refine rs_ok (f_sum (by assumption) (by assumption) (by assumption) (by assumption) ?_) ?_
  | with_reducible refine rs_ok (f_less (by assumption) (by assumption) (by assumption) (by assumption) ?_) ?_
  | with_reducible refine rs_ok (f_times (by assumption) (by assumption) (by assumption) (by assumption) ?_) ?_
  | with_reducible refine rs_ok (f_by (by assumption) (by assumption) (by assumption) (by assumption) ?_) ?_)
theorem ok_deed {f : Addr} {fd : FuncData} (Fu : Fun K "_law_deed" "_law_deed" st_l_deed f fd) (h1 : Cal P w K mg base 3 (Str.ofString "frac_sum") (F4 fSum gAll)) (h2 : Cal P w K mg base 3 (Str.ofString "frac_less") (F4 fLess gAll)) (h3 : Cal P w K mg base 3 (Str.ofString "frac_times") (F4 fTimes gAll)) (h4 : Cal P w K mg base 3 (Str.ofString "frac_by") (F4 fBy gBy)) :
    FnOk P w K mg base (CXE P w) 4 f fd ["_law_here", "_law_kept", "_law_some", "_law_kind"] (spF K Fdeed) := by
  refine fn_q Fu sc_l_deed vi_l_deed (by rintro ds r ⟨_, p, q, p', q', _, _, _, _, _, rfl, _⟩; rfl) (by rintro ds r ⟨_, p, q, p', q', _, _, _, _, _, _, rfl⟩; exact ⟨_, rfl⟩) fun c hqq ds sl hF => ?_
  obtain ⟨k, p, q, a, b, hp, hq, ha, hb, hz, rfl, e⟩ := hF
  injection e with e
  subst e
  show EvSs c _ [.va (.tup [.int p, .int q]), .va (.tup [.int p, .int q]), .va (.tup [.int a, .int b]), .va (.int k), .un, .un] _ _
  conv in (defBody _) => whnf
  walk_at "ev"
  all_goals first
    | (show _ ≠ (0 : Int); simpa [dD, *] using hz)
    | (show Sl.va _ = Sl.va _; simp [dN, dD, *])
theorem ok_back {f : Addr} {fd : FuncData} (Fu : Fun K "_law_back" "_law_back" st_l_back f fd) (h1 : Cal P w K mg base 3 (Str.ofString "frac_sum") (F4 fSum gAll)) (h2 : Cal P w K mg base 3 (Str.ofString "frac_less") (F4 fLess gAll)) (h3 : Cal P w K mg base 3 (Str.ofString "frac_times") (F4 fTimes gAll)) (h4 : Cal P w K mg base 3 (Str.ofString "frac_by") (F4 fBy gBy)) :
    FnOk P w K mg base (CXE P w) 4 f fd ["_law_there", "_law_some", "_law_kind"] (spF K Fback) := by
  refine fn_q Fu sc_l_back vi_l_back (by rintro ds r ⟨_, p, q, p', q', _, _, _, _, _, rfl, _⟩; rfl) (by rintro ds r ⟨_, p, q, p', q', _, _, _, _, _, _, rfl⟩; exact ⟨_, rfl⟩) fun c hqq ds sl hF => ?_
  obtain ⟨k, p, q, a, b, hp, hq, ha, hb, hz, rfl, e⟩ := hF
  injection e with e
  subst e
  show EvSs c _ [.va (.tup [.int p, .int q]), .va (.tup [.int a, .int b]), .va (.int k)] _ _
  conv in (defBody _) => whnf
  walk_at "ev"
  all_goals first
    | (show _ ≠ (0 : Int); simpa [bD, *] using hz)
    | (show Sl.va _ = Sl.va _; simp [bN, bD, *])
end
end


set_option Elab.async false
set_option linter.all false
set_option maxRecDepth 100000
set_option maxHeartbeats 0
local macro_rules | `(tactic| walk_at "side") => `(tactic| first | omega | assumption | exact sz_small (Nat.le_of_ble_eq_true rfl) | exact dv_small (by decide) (by decide +kernel) | (show CPow _ _; exact ⟨by decide, by decide, by decide +kernel⟩))
local macro_rules | `(tactic| walk_at "at") => `(tactic| with_reducible (repeat (first | exact At.z | apply At.s)))
local macro_rules | `(tactic| walk_at "sset") => `(tactic| with_reducible (repeat (first | exact SSet.z | apply SSet.s)))
local macro_rules | `(tactic| walk_at "own") => `(tactic| with_unfolding_all rfl)
local macro_rules | `(tactic| walk_at "evSs") => `(tactic| first
  | with_reducible refine ss_cons ?_
  | with_reducible refine ss_nil ?_)
local macro_rules | `(tactic| walk_at "evS") => `(tactic| first
  | ((with_reducible show EvS _ (Stmt.Assign [Expr.Name _ _] _ _) _ _ _); with_reducible refine s_set (by walk_at "at") ?_)
  | ((with_reducible show EvS _ (Stmt.If _ _ _ _) _ _ _); walk_at "evIf")
  | ((with_reducible show EvS _ (Stmt.Expr _ _) _ _ _); walk_at "evXp")
  | ((with_reducible show EvS _ (Stmt.Return (some (Expr.Name _ _)) _) _ _ _); with_reducible refine s_ret_ow (by walk_at "at") (by walk_at "at") rfl ?_)
  | ((with_reducible show EvS _ (Stmt.Return (some _) _) _ _ _); with_reducible refine s_ret ?_)
  | ((with_reducible show EvS _ (Stmt.Return none _) _ _ _); with_reducible refine s_retN ?_)
  | ((with_reducible show EvS _ (Stmt.AugAssign (Expr.Name _ _) Operator.Add _ _) _ _ _); with_reducible refine s_addq (by walk_at "at") (by walk_at "at") ?_)
  | ((with_reducible show EvS _ (Stmt.AugAssign (Expr.Name _ _) Operator.Sub _ _) _ _ _); with_reducible refine s_subq (by walk_at "at") (by walk_at "at") ?_)
  | ((with_reducible show EvS _ (Stmt.AugAssign (Expr.Subscript (Expr.Name _ _) _ _) Operator.Add _ _) _ _ _); with_reducible refine s_daddq (by walk_at "at") (by walk_at "at") ?_)
  | ((with_reducible show EvS _ (Stmt.Assign [Expr.Tuple [Expr.Name _ _, Expr.Name _ _] _ _] (Expr.Tuple [_, _] _ _) _) _ _ _); with_reducible refine s_par (by walk_at "at") (by walk_at "at") (by decide) ?_)
  | ((with_reducible show EvS _ (Stmt.Assign [Expr.Tuple _ _ _] _ _) _ _ _); with_reducible refine s_asg ?_)
  | ((with_reducible show EvS _ (Stmt.Assign [Expr.Subscript (Expr.Name _ _) _ _] _ _) _ _ _); walk_at "evPut")
  | with_reducible refine s_break ?_
  | with_reducible refine s_continue ?_
  | with_reducible refine s_pass ?_)
local macro_rules | `(tactic| walk_at "evIf") => `(tactic| with_reducible refine s_if ?_)
local macro_rules | `(tactic| walk_at "evXp") => `(tactic| with_reducible refine s_appG (by walk_at "at") (by walk_at "at") (by walk_at "own") ?_)
local macro_rules | `(tactic| walk_at "evPut") => `(tactic| with_reducible refine s_dput (by walk_at "at") (by walk_at "at") ?_)
local macro_rules | `(tactic| walk_at "evK") => `(tactic| first
  | with_reducible refine e_int ?_
  | with_reducible refine e_bl ?_
  | with_reducible refine e_non ?_
  | with_reducible refine e_str ?_)
local macro_rules | `(tactic| walk_at "evCm") => `(tactic| first
  | with_reducible refine e_isN ?_
  | with_reducible refine e_notN ?_
  | with_reducible refine e_lt ?_
  | with_reducible refine e_eq ?_
  | with_reducible refine e_ne ?_)
local macro_rules | `(tactic| walk_at "evIx") => `(tactic| first
  | ((with_reducible show EvE _ (Expr.Subscript _ (Expr.Slice _ _ _ _) _) _ _); with_reducible refine e_sliceA ?_)
  | ((with_reducible show EvE _ (Expr.Subscript (Expr.Name _ _) _ _) _ _); with_reducible refine e_ixO (by walk_at "at") (by walk_at "at") (by walk_at "own") (by walk_at "sset") ?_ (by walk_at "at"))
  | ((with_reducible show EvE _ (Expr.Subscript (Expr.Name _ _) _ _) _ _); with_reducible refine e_dix (by walk_at "at") (by walk_at "at") ?_)
  | with_reducible refine e_ixA ?_)
local macro_rules | `(tactic| walk_at "evBo") => `(tactic| first
  | with_reducible refine e_addA ?_
  | with_reducible refine e_sub ?_
  | with_reducible refine e_mul ?_
  | with_reducible refine e_mod ?_
  | with_reducible refine e_fdiv ?_
  | with_reducible refine e_pow ?_)
local macro_rules | `(tactic| walk_at "evCa") => `(tactic| first
  | ((with_reducible show EvE _ (Expr.Call (Expr.Attribute _ _ _) _ _ _) _ _); walk_at "evMt")
  | ((with_reducible show EvE _ (Expr.Call (Expr.Name (Str.ofString "isinstance") _) _ _ _) _ _); first
    | with_reducible refine e_isin (Txt.isin (by assumption)) (Txt.c_int (by assumption)) ?_
    | with_reducible refine e_isin (Txt.isin (by assumption)) (Txt.c_tuple (by assumption)) ?_
    | with_reducible refine e_isin (Txt.isin (by assumption)) (Txt.c_list (by assumption)) ?_
    | with_reducible refine e_isin (Txt.isin (by assumption)) (Txt.c_bool (by assumption)) ?_)
  | ((with_reducible show EvE _ (Expr.Call (Expr.Name (Str.ofString "len") _) _ _ _) _ _); first
    | ((with_reducible show EvE _ (Expr.Call _ [Expr.Name _ _] _ _) _ _); with_reducible refine e_lenO (Txt.len (by assumption)) (by walk_at "at") (by walk_at "at") (by walk_at "own") (by walk_at "sset") ?_)
    | with_reducible refine e_len (Txt.len (by assumption)) ?_)
  | ((with_reducible show EvE _ (Expr.Call (Expr.Name (Str.ofString "tuple") _) _ _ _) _ _); first
    | ((with_reducible show EvE _ (Expr.Call _ [Expr.Name _ _] _ _) _ _); with_reducible refine e_tupleO (Txt.tuple (by assumption)) (by walk_at "at") (by walk_at "at") (by walk_at "own") (by walk_at "sset") ?_)
    | with_reducible refine e_tuple (Txt.tuple (by assumption)) ?_)
  | ((with_reducible show EvE _ (Expr.Call (Expr.Name (Str.ofString "abs") _) _ _ _) _ _); with_reducible refine e_abs (Txt.abs (by assumption)) ?_)
  | ((with_reducible show EvE _ (Expr.Call (Expr.Name (Str.ofString "int") _) _ _ _) _ _); with_reducible refine e_intB (Txt.int (by assumption)) ?_))
local macro_rules | `(tactic| walk_at "evMt") => `(tactic| with_reducible refine e_dget (by walk_at "at") (by walk_at "at") ?_)
local macro_rules | `(tactic| walk_at "evE") => `(tactic| first
  | ((with_reducible show EvE _ (Expr.Name _ _) _ _); with_reducible refine e_var (by walk_at "at") (by walk_at "at") ?_)
  | ((with_reducible show EvE _ (Expr.Constant _ _ _) _ _); walk_at "evK")
  | ((with_reducible show EvE _ (Expr.Call _ _ _ _) _ _); walk_at "evCa")
  | ((with_reducible show EvE _ (Expr.Subscript _ _ _) _ _); walk_at "evIx")
  | ((with_reducible show EvE _ (Expr.BinOp _ _ _ _) _ _); walk_at "evBo")
  | ((with_reducible show EvE _ (Expr.Compare _ _ _ _) _ _); walk_at "evCm")
  | with_reducible refine e_tup ?_
  | with_reducible refine e_lstA ?_
  | with_reducible refine e_neg ?_
  | with_reducible refine e_not ?_
  | with_reducible refine e_and ?_
  | with_reducible refine e_or ?_
  | with_reducible refine e_one ?_
  | with_reducible refine e_ifExp ?_)
local macro_rules | `(tactic| walk_at "evX") => `(tactic| first
  | ((with_reducible show EvX _ (Expr.List _ _) _ _); with_reducible refine x_lst ?_)
  | ((with_reducible show EvX _ (Expr.Call _ _ _ _) _ _); walk_at "evXC")
  | ((with_reducible show EvX _ (Expr.BinOp _ Operator.Add _ _) _ _); with_reducible refine x_add ?_)
  | ((with_reducible show EvX _ (Expr.Subscript _ (Expr.Slice _ _ _ _) _) _ _); with_reducible refine x_slice ?_)
  | with_reducible refine x_e ?_)
local macro_rules | `(tactic| walk_at "evXC") => `(tactic| first
  | ((with_reducible show EvX _ (Expr.Call (Expr.Name (Str.ofString "list") _) _ _ _) _ _); first
    | ((with_reducible show EvX _ (Expr.Call _ [Expr.Name _ _] _ _) _ _); with_reducible refine x_listO (Txt.list (by assumption)) (by walk_at "at") (by walk_at "at") (by walk_at "own") (by walk_at "sset") ?_)
    | with_reducible refine x_list (Txt.list (by assumption)) ?_)
  | with_reducible refine x_e ?_)
local macro_rules | `(tactic| walk_at "evT") => `(tactic| first
  | ((with_reducible show EvT _ (Expr.Compare _ _ _ _) _ _); first
    | with_reducible refine t_isN ?_
    | with_reducible refine t_notN ?_
    | with_reducible refine t_ne ?_
    | with_reducible refine t_eq ?_
    | with_reducible refine t_lt ?_
    | with_reducible refine t_le ?_
    | with_reducible refine t_gt ?_
    | with_reducible refine t_ge ?_
    | with_reducible refine t_din (by walk_at "at") (by walk_at "at") ?_
    | with_reducible refine t_dnotin (by walk_at "at") (by walk_at "at") ?_)
  | with_reducible refine t_not ?_
  | with_reducible refine t_w (w_and ?_)
  | with_reducible refine t_w (w_or ?_)
  | with_reducible refine t_val ?_)
local macro_rules | `(tactic| walk_at "evW") => `(tactic| first
  | with_reducible refine w_and ?_
  | with_reducible refine w_or ?_
  | with_reducible refine w_and1 ?_
  | with_reducible refine w_or1 ?_)
local macro_rules | `(tactic| walk_at "evG") => `(tactic| first
  | ((with_reducible show EvG _ (Expr.Name _ _) _ _ _); with_reducible refine g_name (by walk_at "at") ?_)
  | with_reducible refine g_tup rfl (by with_unfolding_all rfl) ?_)
local macro_rules | `(tactic| walk_at "evGs") => `(tactic| first
  | with_reducible refine gs_nil ?_
  | ((with_reducible show EvGs _ (_ :: _) _ _ _); with_reducible refine gs_name (by walk_at "at") ?_))
local macro_rules | `(tactic| walk_at "evL") => `(tactic| first
  | ((with_reducible show Nx _ _ _ _); with_reducible refine nxt (by walk_at "sset") ?_)
  | ((with_reducible show Sd _ _); first | with_reducible refine Sd.mk (by walk_at "side") ?_ | with_reducible refine Sd.mk ?_ ?_)
  | ((with_reducible show If2 _ _ _); first
    | with_reducible refine if2_t ?_
    | with_reducible refine if2_f ?_
    | with_reducible refine if2_not ?_
    | with_reducible refine if2_dec (fun h => ?_) (fun h => ?_)
    | with_reducible refine if2 (fun h => ?_) (fun h => ?_))
  | with_reducible refine i2 ?_
  | with_reducible refine i1 ?_
  | with_reducible refine b1 ?_
  | ((with_reducible show EqP _ _ _); first
    | with_reducible refine eqp_int ?_
    | with_reducible refine eqp_bl ?_
    | with_reducible refine eqp_str ?_)
  | ((with_reducible show AddP _ _ _); first
    | with_reducible refine addp_int ?_
    | with_reducible refine addp_lst ?_
    | with_reducible refine addp_tup ?_)
  | ((with_reducible show FzP _ _); first
    | with_reducible refine fz_va ?_
    | with_reducible refine fz_ow ?_)
  | ((with_reducible show IsN _ _); first
    | with_reducible refine isn_t ?_
    | with_reducible refine isn_f (by intro q; cases q) ?_)
  | ((with_reducible show IxP _ _ _); first
    | refine ixp_t (by rfl) ?_
    | refine ixp_l (by rfl) ?_)
  | ((with_reducible show SlP _ _ _ _); first
    | with_reducible refine EV.SlP.lst ?_
    | with_reducible refine EV.SlP.tup ?_)
  | ((with_reducible show ∃ ys, D.row _ = some ys ∧ _); refine rowX (by rfl) ?_)
  | ((with_reducible show ∃ t b, TyD _ _ t ∧ _); first
    | with_reducible refine isd .int kit_ii ?_
    | with_reducible refine isd .int (Txt.ib (by assumption)) ?_
    | with_reducible refine isd .bl kit_bb ?_
    | with_reducible refine isd .lst kit_ll ?_
    | with_reducible refine isd .tup kit_tt ?_)
  | ((with_reducible show ∃ r, _ ∧ RsP _ _ _ r); walk_at "evR"))
local macro_rules | `(tactic| walk_at "ev1") => `(tactic| first
  | ((with_reducible show EvE _ _ _ _); walk_at "evE")
  | ((with_reducible show EvX _ _ _ _); walk_at "evX")
  | ((with_reducible show EvT _ _ _ _); walk_at "evT")
  | ((with_reducible show EvSs _ _ _ _ _); walk_at "evSs")
  | ((with_reducible show EvS _ _ _ _ _); walk_at "evS")
  | ((with_reducible show EvA _ _ _ _); first | with_reducible refine a_cons ?_ | with_reducible refine a_nil ?_)
  | ((with_reducible show EvW _ _ _ _); walk_at "evW")
  | ((with_reducible show EvG _ _ _ _ _); walk_at "evG")
  | ((with_reducible show EvGs _ _ _ _ _); walk_at "evGs")
  | ((with_reducible show EvP _ _ _ _); first | with_reducible refine p_none ?_ | with_reducible refine p_some ?_)
  | walk_at "evL")
local macro_rules | `(tactic| walk_at "ev") => `(tactic| repeat' (walk_at "ev1"))

section
variable {P : Program} {w : World} {K : PySem.W.Frag} {mg : Str → Option Value} {base : Heap}
local macro_rules | `(tactic| walk_at "nz") => `(tactic| first
  | assumption
  | (refine Int.mul_ne_zero ?_ ?_ <;> walk_at "nz")
  | (refine nB_ne ?_ <;> walk_at "nz"))
section
variable {a b c d x : Int}
theorem s_1 (h : Zs 645 a) : Sz a := sz_of h (by decide)
theorem s_Ts (hx : x ≠ 0) (ha : Zs 645 a) (hb : Zs 645 b) (hc : Zs 645 c) (hd : Zs 645 d) : Sz (nT (a * b + c * d) x) := sz_of (zs_T hx (zs_add (zs_mul ha hb) (zs_mul hc hd))) (by decide)
theorem s_Tl (hx : x ≠ 0) (ha : Zs 645 a) (hb : Zs 645 b) (hc : Zs 645 c) (hd : Zs 645 d) : Sz (nT (a * b - c * d) x) := sz_of (zs_T hx (zs_sub (zs_mul ha hb) (zs_mul hc hd))) (by decide)
theorem s_Tt (hx : x ≠ 0) (ha : Zs 645 a) (hb : Zs 645 b) : Sz (nT (a * b) x) := sz_of (zs_T hx (zs_mul ha hb)) (by decide)
theorem s_B (hx : a * b ≠ 0) (ha : Zs 645 a) (hb : Zs 645 b) : Sz (nB x (a * b)) := sz_of (zs_B hx (zs_mul ha hb)) (by decide)
end
local macro_rules | `(tactic| walk_at "szz") => `(tactic| first
  | exact s_1 (by assumption)
  | exact s_Ts (by walk_at "nz") (by assumption) (by assumption) (by assumption) (by assumption)
  | exact s_Tl (by walk_at "nz") (by assumption) (by assumption) (by assumption) (by assumption)
  | exact s_Tt (by walk_at "nz") (by assumption) (by assumption)
  | exact s_B (by walk_at "nz") (by assumption) (by assumption))
/-- a place of the walk -/
structure Plc (p q : Int) : Prop where
  zp : Zs 645 p
  zq : Zs 645 q
  pos : 0 < q
  co : Int.gcd p q = 1
def Fthree : Fn := fun ds r => ∃ a b c d e f : Int, Plc a b ∧ Plc c d ∧ Plc e f ∧ ds = [.tup [.int a, .int b], .tup [.int c, .int d], .tup [.int e, .int f]] ∧ r = .ok (.va (.bl true))
theorem f_three {a b c d e f : Int} (h1 : Plc a b) (h2 : Plc c d) (h3 : Plc e f) : Fthree [.tup [.int a, .int b], .tup [.int c, .int d], .tup [.int e, .int f]] (.ok (.va (.bl true))) := ⟨a, b, c, d, e, f, h1, h2, h3, rfl, rfl⟩
theorem eqp_frac {a b a' b' : Int} {T : Bool → Prop} (h : T (decide (D.tup [.int a, .int b] = D.tup [.int a', .int b']))) : EqP (.tup [.int a, .int b]) (.tup [.int a', .int b']) T := by
  refine eqp_tup ⟨eq_it2 _ _ _ _, ?_⟩
  rw [show decide ([D.int a, D.int b] = [D.int a', D.int b']) = decide (D.tup [.int a, .int b] = D.tup [.int a', .int b']) by simp]
  exact h
theorem eqp_yes {a b a' b' : Int} {T : Bool → Prop} (e : D.tup [.int a, .int b] = D.tup [.int a', .int b']) (h : T true) : EqP (.tup [.int a, .int b]) (.tup [.int a', .int b']) T := by
  refine eqp_frac ?_
  rw [decide_eq_true e]; exact h
/-- how two fractions stand -/
theorem tri {a b c d : Int} (hb : 0 < b) (hd : 0 < d) (g : Int.gcd a b = 1) (g' : Int.gcd c d = 1) :
    b2 (decide (a * d < c * b)) + b2 (decide (c * b < a * d)) + b2 (decide (D.tup [.int a, .int b] = D.tup [.int c, .int d])) = 1 := by
  by_cases h : a * d = c * b
  · obtain ⟨rfl, rfl⟩ := low_one hb hd g g' h
    simp [b2]
  · have n : ¬ D.tup [.int a, .int b] = D.tup [.int c, .int d] := by
      intro z
      simp only [D.tup.injEq, List.cons.injEq, D.int.injEq, and_true] at z
      obtain ⟨rfl, rfl⟩ := z
      exact h rfl
    rw [decide_eq_false n]
    rcases Int.lt_trichotomy (a * d) (c * b) with z | z | z
    · rw [decide_eq_true z, decide_eq_false (by omega)]; rfl
    · exact absurd z h
    · rw [decide_eq_true z, decide_eq_false (by omega)]; rfl
/-- kept by adding a third -/
theorem less_add {a b c d e f : Int} (hb : 0 < b) (hd : 0 < d) (hf : 0 < f) :
    decide (nT (a * f + e * b) (b * f) * nB (c * f + e * d) (d * f) < nT (c * f + e * d) (d * f) * nB (a * f + e * b) (b * f)) = decide (a * d < c * b) := by
  have hbf : 0 < b * f := Int.mul_pos hb hf
  have hdf : 0 < d * f := Int.mul_pos hd hf
  have c1 := n_cross (a := a * f + e * b) (b := b * f) (by omega)
  have c2 := n_cross (a := c * f + e * d) (b := d * f) (by omega)
  have p1 := nB_pos (a := a * f + e * b) (b := b * f) (by omega)
  have p2 := nB_pos (a := c * f + e * d) (b := d * f) (by omega)
  generalize nT (a * f + e * b) (b * f) = t1 at *
  generalize nB (a * f + e * b) (b * f) = u1 at *
  generalize nT (c * f + e * d) (d * f) = t2 at *
  generalize nB (c * f + e * d) (d * f) = u2 at *
  -- (t1 u2 - t2 u1) (b f) (d f) = (a d - c b) f f u1 u2
  have key : (t1 * u2 - t2 * u1) * ((b * f) * (d * f)) = (a * d - c * b) * ((f * f) * (u1 * u2)) := by grind
  have q1 : 0 < (b * f) * (d * f) := Int.mul_pos hbf hdf
  have q2 : 0 < (f * f) * (u1 * u2) := Int.mul_pos (Int.mul_pos hf hf) (Int.mul_pos p1 p2)
  have sgn : t1 * u2 - t2 * u1 < 0 ↔ a * d - c * b < 0 := by
    constructor
    · intro h
      have := Int.mul_neg_of_neg_of_pos h q1
      rw [key] at this
      by_cases z : a * d - c * b < 0
      · exact z
      · exfalso; have := Int.mul_nonneg (show 0 ≤ a * d - c * b by omega) (Int.le_of_lt q2); omega
    · intro h
      have := Int.mul_neg_of_neg_of_pos h q2
      rw [← key] at this
      by_cases z : t1 * u2 - t2 * u1 < 0
      · exact z
      · exfalso; have := Int.mul_nonneg (show 0 ≤ t1 * u2 - t2 * u1 by omega) (Int.le_of_lt q1); omega
  have : (t1 * u2 < t2 * u1) ↔ (a * d < c * b) := by omega
  by_cases z : a * d < c * b
  · rw [decide_eq_true z, decide_eq_true (this.mpr z)]
  · rw [decide_eq_false z, decide_eq_false (fun y => z (this.mp y))]
section
variable {a b c d e f : Int}
theorem dist3 (hb : b ≠ 0) (hd : d ≠ 0) (hf : f ≠ 0) : fracD (a * nT (c * f + e * d) (d * f)) (b * nB (c * f + e * d) (d * f)) = fracD (nT (a * c) (b * d) * nB (a * e) (b * f) + nT (a * e) (b * f) * nB (a * c) (b * d)) (nB (a * c) (b * d) * nB (a * e) (b * f)) := by
  have h1 : b * d ≠ 0 := Int.mul_ne_zero hb hd
  have h2 : b * f ≠ 0 := Int.mul_ne_zero hb hf
  have h3 : d * f ≠ 0 := Int.mul_ne_zero hd hf
  rw [times_r h3 hb, sum_l h1 (nB_ne h2), sum_r h2 h1]
  exact frac_eq (Int.mul_ne_zero hb h3) (Int.mul_ne_zero h1 h2) (by grind)
theorem asso3 (hb : b ≠ 0) (hd : d ≠ 0) (hf : f ≠ 0) : fracD (nT (a * d + c * b) (b * d) * f + e * nB (a * d + c * b) (b * d)) (nB (a * d + c * b) (b * d) * f) = fracD (a * nB (c * f + e * d) (d * f) + nT (c * f + e * d) (d * f) * b) (b * nB (c * f + e * d) (d * f)) := by
  have h1 : b * d ≠ 0 := Int.mul_ne_zero hb hd
  have h3 : d * f ≠ 0 := Int.mul_ne_zero hd hf
  rw [sum_l h1 hf, sum_r h3 hb]
  exact frac_eq (Int.mul_ne_zero h1 hf) (Int.mul_ne_zero hb h3) (by grind)
theorem sub3 (hb : b ≠ 0) (hd : d ≠ 0) (hf : f ≠ 0) : fracD (a * nB (c * f - e * d) (d * f) - nT (c * f - e * d) (d * f) * b) (b * nB (c * f - e * d) (d * f)) = fracD (nT (a * d - c * b) (b * d) * f + e * nB (a * d - c * b) (b * d)) (nB (a * d - c * b) (b * d) * f) := by
  have h1 : b * d ≠ 0 := Int.mul_ne_zero hb hd
  have h3 : d * f ≠ 0 := Int.mul_ne_zero hd hf
  rw [less_r h3 hb, sum_l h1 hf]
  exact frac_eq (Int.mul_ne_zero hb h3) (Int.mul_ne_zero h1 hf) (by grind)
end
section
local macro_rules | `(tactic| walk_at "evCa") => `(tactic| first
  | with_reducible refine e_call (F := F4 fSum gAll) (by assumption) (by decide) ?_
  | with_reducible refine e_call (F := F4 fLess gAll) (by assumption) (by decide) ?_
  | with_reducible refine e_call (F := F4 fTimes gAll) (by assumption) (by decide) ?_
  | with_reducible refine e_call (F := Flesser) (by assumption) (by decide) ?_)
local macro_rules | `(tactic| walk_at "evL") => `(tactic| first
  | with_reducible refine eqp_yes (by first | exact dist3 (by assumption) (by assumption) (by assumption) | exact asso3 (by assumption) (by assumption) (by assumption) | exact sub3 (by assumption) (by assumption) (by assumption)) ?_
  | with_reducible refine eqp_frac ?_)
local macro_rules | `(tactic| walk_at "evR") => `(tactic| first
  | with_reducible refine rs_ok (f_lesser (by walk_at "szz") (by walk_at "szz") (by walk_at "szz") (by walk_at "szz")) ?_
  | with_reducible refine rs_ok (f_sum (by walk_at "szz") (by walk_at "szz") (by walk_at "szz") (by walk_at "szz") (by walk_at "nz")) ?_
  | with_reducible refine rs_ok (f_less (by walk_at "szz") (by walk_at "szz") (by walk_at "szz") (by walk_at "szz") (by walk_at "nz")) ?_
  | with_reducible refine rs_ok (f_times (by walk_at "szz") (by walk_at "szz") (by walk_at "szz") (by walk_at "szz") (by walk_at "nz")) ?_)
theorem ok_three {fn : Addr} {fd : FuncData} (Fu : Fun K "_law_three" "_law_three" st_l_three fn fd) (T : Txt K mg) (h1 : Cal P w K mg base 3 (Str.ofString "frac_sum") (F4 fSum gAll)) (h2 : Cal P w K mg base 3 (Str.ofString "frac_less") (F4 fLess gAll)) (h3 : Cal P w K mg base 3 (Str.ofString "frac_times") (F4 fTimes gAll)) (h4 : Cal P w K mg base 1 (Str.ofString "frac_lesser") Flesser) :
    FnOk P w K mg base (CXE P w) 4 fn fd ["_law_one", "_law_two", "_law_third"] (spF K Fthree) := by
  refine fn_q Fu sc_l_three vi_l_three (by rintro ds r ⟨_, _, _, _, _, _, _, _, _, rfl, _⟩; rfl) (by rintro ds r ⟨_, _, _, _, _, _, _, _, _, _, rfl⟩; exact ⟨_, rfl⟩) fun cx hqq ds sl hF => ?_
  obtain ⟨a, b, c, d, e, f, ⟨ha, hb, pb, gb⟩, ⟨hc, hd, pd, gd⟩, ⟨he, hf, pf, gf⟩, rfl, ee⟩ := hF
  injection ee with ee
  subst ee
  have nb : b ≠ 0 := by omega
  have nd : d ≠ 0 := by omega
  have nf : f ≠ 0 := by omega
  show EvSs cx _ [.va (.tup [.int a, .int b]), .va (.tup [.int c, .int d]), .va (.tup [.int e, .int f]), .un] _ _
  conv in (defBody _) => whnf
  walk_at "ev"
  · show Sl.va _ = Sl.va _
    rw [less_add pb pd pf]; simp
  · exact absurd (tri pb pd gb gd) (by assumption)
end
end


set_option Elab.async false
set_option linter.all false
set_option maxRecDepth 100000
set_option maxHeartbeats 0
local macro_rules | `(tactic| walk_at "side") => `(tactic| first | omega | assumption | exact nl_int | exact sz_small (Nat.le_of_ble_eq_true rfl) | exact dv_small (by decide) (by decide +kernel) | (show CPow _ _; exact ⟨by decide, by decide, by decide +kernel⟩))
local macro_rules | `(tactic| walk_at "at") => `(tactic| with_reducible (repeat (first | exact At.z | apply At.s)))
local macro_rules | `(tactic| walk_at "sset") => `(tactic| with_reducible (repeat (first | exact SSet.z | apply SSet.s)))
local macro_rules | `(tactic| walk_at "atI") => `(tactic| first | assumption | rfl)
local macro_rules | `(tactic| walk_at "own") => `(tactic| with_unfolding_all rfl)
local macro_rules | `(tactic| walk_at "evSs") => `(tactic| first
  | with_reducible refine ss_cons ?_
  | with_reducible refine ss_nil ?_)
local macro_rules | `(tactic| walk_at "evS") => `(tactic| first
  | ((with_reducible show EvS _ (Stmt.Assign [Expr.Name _ _] _ _) _ _ _); with_reducible refine s_set (by walk_at "at") ?_)
  | ((with_reducible show EvS _ (Stmt.If _ _ _ _) _ _ _); walk_at "evIf")
  | ((with_reducible show EvS _ (Stmt.Expr _ _) _ _ _); walk_at "evXp")
  | ((with_reducible show EvS _ (Stmt.Return (some (Expr.Name _ _)) _) _ _ _); with_reducible refine s_ret_ow (by walk_at "at") (by walk_at "at") rfl ?_)
  | ((with_reducible show EvS _ (Stmt.Return (some _) _) _ _ _); with_reducible refine s_ret ?_)
  | ((with_reducible show EvS _ (Stmt.Return none _) _ _ _); with_reducible refine s_retN ?_)
  | ((with_reducible show EvS _ (Stmt.AugAssign (Expr.Name _ _) Operator.Add _ _) _ _ _); with_reducible refine s_addq (by walk_at "at") (by walk_at "at") ?_)
  | ((with_reducible show EvS _ (Stmt.AugAssign (Expr.Name _ _) Operator.Sub _ _) _ _ _); with_reducible refine s_subq (by walk_at "at") (by walk_at "at") ?_)
  | ((with_reducible show EvS _ (Stmt.AugAssign (Expr.Subscript (Expr.Name _ _) _ _) Operator.Add _ _) _ _ _); with_reducible refine s_daddq (by walk_at "at") (by walk_at "at") ?_)
  | ((with_reducible show EvS _ (Stmt.Assign [Expr.Tuple [Expr.Name _ _, Expr.Name _ _] _ _] (Expr.Tuple [_, _] _ _) _) _ _ _); with_reducible refine s_par (by walk_at "at") (by walk_at "at") (by decide) ?_)
  | ((with_reducible show EvS _ (Stmt.Assign [Expr.Tuple _ _ _] _ _) _ _ _); with_reducible refine s_asg ?_)
  | ((with_reducible show EvS _ (Stmt.Assign [Expr.Subscript (Expr.Name _ _) _ _] _ _) _ _ _); walk_at "evPut")
  | with_reducible refine s_break ?_
  | with_reducible refine s_continue ?_
  | with_reducible refine s_pass ?_)
local macro_rules | `(tactic| walk_at "evIf") => `(tactic| with_reducible refine s_if ?_)
local macro_rules | `(tactic| walk_at "evXp") => `(tactic| with_reducible refine s_appG (by walk_at "at") (by walk_at "at") (by walk_at "own") ?_)
local macro_rules | `(tactic| walk_at "evPut") => `(tactic| with_reducible refine s_dput (by walk_at "at") (by walk_at "at") ?_)
local macro_rules | `(tactic| walk_at "evK") => `(tactic| first
  | with_reducible refine e_int ?_
  | with_reducible refine e_bl ?_
  | with_reducible refine e_non ?_
  | with_reducible refine e_str ?_)
local macro_rules | `(tactic| walk_at "evCm") => `(tactic| first
  | with_reducible refine e_isN ?_
  | with_reducible refine e_notN ?_
  | with_reducible refine e_lt ?_
  | with_reducible refine e_eq ?_
  | with_reducible refine e_ne ?_)
local macro_rules | `(tactic| walk_at "evIx") => `(tactic| first
  | ((with_reducible show EvE _ (Expr.Subscript _ (Expr.Slice _ _ _ _) _) _ _); with_reducible refine e_sliceA ?_)
  | ((with_reducible show EvE _ (Expr.Subscript (Expr.Name _ _) _ _) _ _); with_reducible refine e_ixO (by walk_at "at") (by walk_at "at") (by walk_at "own") (by walk_at "sset") ?_ (by walk_at "at"))
  | ((with_reducible show EvE _ (Expr.Subscript (Expr.Name _ _) _ _) _ _); with_reducible refine e_dix (by walk_at "at") (by walk_at "at") ?_)
  | with_reducible refine e_ixA ?_)
local macro_rules | `(tactic| walk_at "evBo") => `(tactic| first
  | with_reducible refine e_addA ?_
  | with_reducible refine e_sub ?_
  | with_reducible refine e_mul ?_
  | with_reducible refine e_mod ?_
  | with_reducible refine e_fdiv ?_
  | with_reducible refine e_pow ?_)
local macro_rules | `(tactic| walk_at "evCa") => `(tactic| first
  | ((with_reducible show EvE _ (Expr.Call (Expr.Attribute _ _ _) _ _ _) _ _); walk_at "evMt")
  | ((with_reducible show EvE _ (Expr.Call (Expr.Name (Str.ofString "isinstance") _) _ _ _) _ _); first
    | with_reducible refine e_isin (Txt.isin (by assumption)) (Txt.c_int (by assumption)) ?_
    | with_reducible refine e_isin (Txt.isin (by assumption)) (Txt.c_tuple (by assumption)) ?_
    | with_reducible refine e_isin (Txt.isin (by assumption)) (Txt.c_list (by assumption)) ?_
    | with_reducible refine e_isin (Txt.isin (by assumption)) (Txt.c_bool (by assumption)) ?_)
  | ((with_reducible show EvE _ (Expr.Call (Expr.Name (Str.ofString "len") _) _ _ _) _ _); first
    | ((with_reducible show EvE _ (Expr.Call _ [Expr.Name _ _] _ _) _ _); with_reducible refine e_lenO (Txt.len (by assumption)) (by walk_at "at") (by walk_at "at") (by walk_at "own") (by walk_at "sset") ?_)
    | with_reducible refine e_len (Txt.len (by assumption)) ?_)
  | ((with_reducible show EvE _ (Expr.Call (Expr.Name (Str.ofString "tuple") _) _ _ _) _ _); first
    | ((with_reducible show EvE _ (Expr.Call _ [Expr.Name _ _] _ _) _ _); with_reducible refine e_tupleO (Txt.tuple (by assumption)) (by walk_at "at") (by walk_at "at") (by walk_at "own") (by walk_at "sset") ?_)
    | with_reducible refine e_tuple (Txt.tuple (by assumption)) ?_)
  | ((with_reducible show EvE _ (Expr.Call (Expr.Name (Str.ofString "abs") _) _ _ _) _ _); with_reducible refine e_abs (Txt.abs (by assumption)) ?_)
  | ((with_reducible show EvE _ (Expr.Call (Expr.Name (Str.ofString "int") _) _ _ _) _ _); with_reducible refine e_intB (Txt.int (by assumption)) ?_))
local macro_rules | `(tactic| walk_at "evMt") => `(tactic| with_reducible refine e_dget (by walk_at "at") (by walk_at "at") ?_)
local macro_rules | `(tactic| walk_at "evE") => `(tactic| first
  | ((with_reducible show EvE _ (Expr.Name _ _) _ _); with_reducible refine e_var (by walk_at "at") (by walk_at "at") ?_)
  | ((with_reducible show EvE _ (Expr.Constant _ _ _) _ _); walk_at "evK")
  | ((with_reducible show EvE _ (Expr.Call _ _ _ _) _ _); walk_at "evCa")
  | ((with_reducible show EvE _ (Expr.Subscript _ _ _) _ _); walk_at "evIx")
  | ((with_reducible show EvE _ (Expr.BinOp _ _ _ _) _ _); walk_at "evBo")
  | ((with_reducible show EvE _ (Expr.Compare _ _ _ _) _ _); walk_at "evCm")
  | with_reducible refine e_tup ?_
  | with_reducible refine e_lstA ?_
  | with_reducible refine e_neg ?_
  | with_reducible refine e_not ?_
  | with_reducible refine e_and ?_
  | with_reducible refine e_or ?_
  | with_reducible refine e_one ?_
  | with_reducible refine e_ifExp ?_)
local macro_rules | `(tactic| walk_at "evX") => `(tactic| first
  | ((with_reducible show EvX _ (Expr.List _ _) _ _); with_reducible refine x_lst ?_)
  | ((with_reducible show EvX _ (Expr.Call _ _ _ _) _ _); walk_at "evXC")
  | ((with_reducible show EvX _ (Expr.BinOp _ Operator.Add _ _) _ _); with_reducible refine x_add ?_)
  | ((with_reducible show EvX _ (Expr.Subscript _ (Expr.Slice _ _ _ _) _) _ _); with_reducible refine x_slice ?_)
  | with_reducible refine x_e ?_)
local macro_rules | `(tactic| walk_at "evXC") => `(tactic| first
  | ((with_reducible show EvX _ (Expr.Call (Expr.Name (Str.ofString "list") _) _ _ _) _ _); first
    | ((with_reducible show EvX _ (Expr.Call _ [Expr.Name _ _] _ _) _ _); with_reducible refine x_listO (Txt.list (by assumption)) (by walk_at "at") (by walk_at "at") (by walk_at "own") (by walk_at "sset") ?_)
    | with_reducible refine x_list (Txt.list (by assumption)) ?_)
  | with_reducible refine x_e ?_)
local macro_rules | `(tactic| walk_at "evT") => `(tactic| first
  | ((with_reducible show EvT _ (Expr.Compare _ _ _ _) _ _); first
    | with_reducible refine t_isN ?_
    | with_reducible refine t_notN ?_
    | with_reducible refine t_ne ?_
    | with_reducible refine t_eq ?_
    | with_reducible refine t_lt ?_
    | with_reducible refine t_le ?_
    | with_reducible refine t_gt ?_
    | with_reducible refine t_ge ?_
    | with_reducible refine t_din (by walk_at "at") (by walk_at "at") ?_
    | with_reducible refine t_dnotin (by walk_at "at") (by walk_at "at") ?_)
  | with_reducible refine t_not ?_
  | with_reducible refine t_w (w_and ?_)
  | with_reducible refine t_w (w_or ?_)
  | with_reducible refine t_val ?_)
local macro_rules | `(tactic| walk_at "evW") => `(tactic| first
  | with_reducible refine w_and ?_
  | with_reducible refine w_or ?_
  | with_reducible refine w_and1 ?_
  | with_reducible refine w_or1 ?_)
local macro_rules | `(tactic| walk_at "evG") => `(tactic| first
  | ((with_reducible show EvG _ (Expr.Name _ _) _ _ _); with_reducible refine g_name (by walk_at "at") ?_)
  | with_reducible refine g_tup rfl (by with_unfolding_all rfl) ?_)
local macro_rules | `(tactic| walk_at "evGs") => `(tactic| first
  | with_reducible refine gs_nil ?_
  | ((with_reducible show EvGs _ (_ :: _) _ _ _); with_reducible refine gs_name (by walk_at "at") ?_))
local macro_rules | `(tactic| walk_at "evL") => `(tactic| first
  | ((with_reducible show Nx _ _ _ _); with_reducible refine nxt (by walk_at "sset") ?_)
  | ((with_reducible show Sd _ _); first | with_reducible refine Sd.mk (by walk_at "side") ?_ | with_reducible refine Sd.mk ?_ ?_)
  | ((with_reducible show If2 _ _ _); first
    | with_reducible refine if2_t ?_
    | with_reducible refine if2_f ?_
    | with_reducible refine if2_not ?_
    | with_reducible refine if2_dec (fun h => ?_) (fun h => ?_)
    | with_reducible refine if2 (fun h => ?_) (fun h => ?_))
  | with_reducible refine i2 ?_
  | with_reducible refine i1 ?_
  | with_reducible refine b1 ?_
  | ((with_reducible show EqP _ _ _); first
    | with_reducible refine eqp_int ?_
    | with_reducible refine eqp_bl ?_
    | with_reducible refine eqp_str ?_)
  | ((with_reducible show AddP _ _ _); first
    | with_reducible refine addp_int ?_
    | with_reducible refine addp_lst ?_
    | with_reducible refine addp_tup ?_)
  | ((with_reducible show FzP _ _); first
    | with_reducible refine fz_va ?_
    | with_reducible refine fz_ow ?_)
  | ((with_reducible show IsN _ _); first
    | with_reducible refine isn_t ?_
    | with_reducible refine isn_f (by intro q; cases q) ?_)
  | ((with_reducible show IxP _ _ _); first
    | refine ixp_t (by rfl) ?_
    | refine ixp_l (by rfl) ?_)
  | ((with_reducible show SlP _ _ _ _); first
    | with_reducible refine EV.SlP.lst ?_
    | with_reducible refine EV.SlP.tup ?_)
  | ((with_reducible show ∃ ys, D.row _ = some ys ∧ _); refine rowX (by rfl) ?_)
  | ((with_reducible show ∃ t b, TyD _ _ t ∧ _); first
    | with_reducible refine isd .int kit_ii ?_
    | with_reducible refine isd .int (Txt.ib (by assumption)) ?_
    | with_reducible refine isd .bl kit_bb ?_
    | with_reducible refine isd .lst kit_ll ?_
    | with_reducible refine isd .tup kit_tt ?_)
  | ((with_reducible show ∃ j d, D.int _ = D.int j ∧ _); refine ⟨_, _, rfl, (by walk_at "atI"), ?_⟩)
  | ((with_reducible show ∃ r, _ ∧ RsP _ _ _ r); walk_at "evR"))
local macro_rules | `(tactic| walk_at "ev1") => `(tactic| first
  | ((with_reducible show EvE _ _ _ _); walk_at "evE")
  | ((with_reducible show EvX _ _ _ _); walk_at "evX")
  | ((with_reducible show EvT _ _ _ _); walk_at "evT")
  | ((with_reducible show EvSs _ _ _ _ _); walk_at "evSs")
  | ((with_reducible show EvS _ _ _ _ _); walk_at "evS")
  | ((with_reducible show EvA _ _ _ _); first | with_reducible refine a_cons ?_ | with_reducible refine a_nil ?_)
  | ((with_reducible show EvW _ _ _ _); walk_at "evW")
  | ((with_reducible show EvG _ _ _ _ _); walk_at "evG")
  | ((with_reducible show EvGs _ _ _ _ _); walk_at "evGs")
  | ((with_reducible show EvP _ _ _ _); first | with_reducible refine p_none ?_ | with_reducible refine p_some ?_)
  | walk_at "evL")
local macro_rules | `(tactic| walk_at "ev") => `(tactic| repeat' (walk_at "ev1"))

section
variable {P : Program} {w : World} {K : PySem.W.Frag} {mg : Str → Option Value} {base : Heap}
theorem n_self {p q : Int} (hq : 0 < q) (g : Int.gcd p q = 1) : fracD p q = D.tup [.int p, .int q] := by
  have e : gcdS p q = 1 := by unfold gcdS; rw [if_neg (by omega), g]; rfl
  unfold fracD nT nB
  rw [e]; simp
theorem back_ok {k p q a b : Int} (h0 : 0 ≤ k) (h4 : k < 4) (hq : 0 < q) (g : Int.gcd p q = 1) (hb : 0 < b) (hk : a = 0 → k < 2) :
    dD k p q a b ≠ 0 ∧ bD k (nT (dN k p q a b) (dD k p q a b)) (nB (dN k p q a b) (dD k p q a b)) a b ≠ 0 ∧
    fracD (bN k (nT (dN k p q a b) (dD k p q a b)) (nB (dN k p q a b) (dD k p q a b)) a b) (bD k (nT (dN k p q a b) (dD k p q a b)) (nB (dN k p q a b) (dD k p q a b)) a b) = D.tup [.int p, .int q] := by
  have nq : q ≠ 0 := by omega
  have nb : b ≠ 0 := by omega
  have nqb : q * b ≠ 0 := Int.mul_ne_zero nq nb
  rw [← n_self hq g]
  have hk' : k = 0 ∨ k = 1 ∨ k = 2 ∨ k = 3 := by omega
  rcases hk' with rfl | rfl | rfl | rfl
  · simp only [dN, dD, bN, bD, if_true]
    refine ⟨nqb, Int.mul_ne_zero (nB_ne nqb) nb, ?_⟩
    rw [less_l nqb nb]
    exact frac_eq (Int.mul_ne_zero nqb nb) nq (by grind)
  · simp only [dN, dD, bN, bD, if_true, show ¬ (1 : Int) = 0 by decide, if_false]
    refine ⟨nqb, Int.mul_ne_zero (nB_ne nqb) nb, ?_⟩
    rw [sum_l nqb nb]
    exact frac_eq (Int.mul_ne_zero nqb nb) nq (by grind)
  · have na : a ≠ 0 := fun z => by have := hk z; omega
    simp only [dN, dD, bN, bD, if_true, show ¬ (2 : Int) = 0 by decide, show ¬ (2 : Int) = 1 by decide, if_false]
    refine ⟨nqb, Int.mul_ne_zero (nB_ne nqb) na, ?_⟩
    rw [times_l nqb na]
    exact frac_eq (Int.mul_ne_zero nqb na) nq (by grind)
  · have na : a ≠ 0 := fun z => by have := hk z; omega
    have nqa : q * a ≠ 0 := Int.mul_ne_zero nq na
    simp only [dN, dD, bN, bD, show ¬ (3 : Int) = 0 by decide, show ¬ (3 : Int) = 1 by decide, show ¬ (3 : Int) = 2 by decide, if_false]
    refine ⟨nqa, Int.mul_ne_zero (nB_ne nqa) nb, ?_⟩
    rw [times_l nqa nb]
    exact frac_eq (Int.mul_ne_zero nqa nb) nq (by grind)
theorem deed_sz {m : Nat} {k p q a b : Int} (hp : Zs m p) (hq : Zs m q) (ha : a.natAbs ≤ 10 ^ 9) (hb : b.natAbs ≤ 10 ^ 9) : Zs (m + 10) (dN k p q a b) ∧ Zs (m + 10) (dD k p q a b) := by
  have key : ∀ x y : Int, Zs m x → y.natAbs ≤ 10 ^ 9 → (x * y).natAbs ≤ 10 ^ m * 10 ^ 9 := fun x y hx hy => by
    rw [Int.natAbs_mul]; exact Nat.mul_le_mul (Nat.le_of_lt (zs_iff.mp hx)) hy
  have e : (10 : Nat) ^ (m + 10) = 10 ^ m * 10 ^ 9 * 10 := by rw [Nat.pow_add, show (10 : Nat) ^ 10 = 10 ^ 9 * 10 by decide, Nat.mul_assoc]
  have pos : 0 < 10 ^ m * 10 ^ 9 := Nat.mul_pos (Nat.pow_pos (by decide)) (by decide)
  have h1 := key p b hp hb
  have h2 := key q a hq ha
  have h3 := key p a hp ha
  have h4 := key q b hq hb
  rw [Int.mul_comm q a] at h2
  have h2' : (q * a).natAbs ≤ 10 ^ m * 10 ^ 9 := by rw [Int.mul_comm]; exact h2
  rw [zs_iff, zs_iff]
  unfold dN dD
  rw [e]
  generalize 10 ^ m * 10 ^ 9 = M at *
  constructor
  · split
    · omega
    · split
      · omega
      · split <;> omega
  · split
    · omega
    · split
      · omega
      · split <;> omega
/-- a place in the list -/
abbrev plD (x : Int × Int) : D := .tup [.int x.1, .int x.2]
theorem plc_nl (x : Int × Int) : (plD x).nl := nl_tup (by simp [D.nls, D.nl])
theorem last3 {l : List (Int × Int)} {x : Int × Int} (h : 2 ≤ l.length) : ∃ u v, u ∈ l ∧ v ∈ l ∧ atI ((l ++ [x]).map plD) (-3) = some (plD u) ∧ atI ((l ++ [x]).map plD) (-2) = some (plD v) ∧ atI ((l ++ [x]).map plD) (-1) = some (plD x) := by
  refine ⟨l[l.length - 2], l[l.length - 1], List.getElem_mem _, List.getElem_mem _, ?_, ?_, ?_⟩
  · rw [atI_neg (by decide) (by simp; omega)]
    have e : (-3 + (((l ++ [x]).map plD).length : Int)).toNat = l.length - 2 := by simp; omega
    rw [e]; simp [List.getElem?_append, show l.length - 2 < l.length by omega]
  · rw [atI_neg (by decide) (by simp; omega)]
    have e : (-2 + (((l ++ [x]).map plD).length : Int)).toNat = l.length - 1 := by simp; omega
    rw [e]; simp [List.getElem?_append, show l.length - 1 < l.length by omega]
  · rw [atI_neg (by decide) (by simp; omega)]
    have e : (-1 + (((l ++ [x]).map plD).length : Int)).toNat = l.length := by simp; omega
    rw [e]; simp
section
local macro_rules | `(tactic| walk_at "evCa") => `(tactic| first
  | with_reducible refine e_call (F := Fdrawn) (by assumption) (by decide) ?_
  | with_reducible refine e_call (F := Fdeed) (by assumption) (by decide) ?_
  | with_reducible refine e_call (F := Ffr) (by assumption) (by decide) ?_
  | with_reducible refine e_call (F := Fsame) (by assumption) (by decide) ?_
  | with_reducible refine e_call (F := Fback) (by assumption) (by decide) ?_
  | with_reducible refine e_call (F := Fthree) (by assumption) (by decide) ?_)
local macro_rules | `(tactic| walk_at "evL") => `(tactic| first | ((with_reducible show EqP _ _ _); with_reducible refine eqp_yes (by assumption) ?_))
local macro_rules | `(tactic| walk_at "evR") => `(tactic| first
  | with_reducible refine rs_ok (f_drawn _) ?_
  | with_reducible refine rs_ok (f_deed (by assumption) (by assumption) (by assumption) (by assumption) (by assumption)) ?_
  | with_reducible refine rs_ok (f_fr (by assumption) (by assumption)) ?_
  | with_reducible refine rs_ok (f_same _ _) ?_
  | with_reducible refine rs_ok (f_back (by assumption) (by assumption) (by assumption) (by assumption) (by assumption)) ?_
  | with_reducible refine rs_ok (f_three (by assumption) (by assumption) (by assumption)) ?_)
theorem ok_law {f : Addr} {fd : FuncData} (Fu : Fun K "law" "law" st_law f fd) (T : Txt K mg) (h1 : Cal P w K mg base 2 (Str.ofString "_law_drawn") Fdrawn) (h2 : Cal P w K mg base 4 (Str.ofString "_law_deed") Fdeed) (h3 : Cal P w K mg base 1 (Str.ofString "_law_fraction") Ffr)
    (h4 : Cal P w K mg base 2 (Str.ofString "_law_same_fraction") Fsame) (h5 : Cal P w K mg base 4 (Str.ofString "_law_back") Fback) (h6 : Cal P w K mg base 4 (Str.ofString "_law_three") Fthree) : FnOk P w K mg base (CXE P w) 5 f fd ["_law_script"] (spF K Flaw) := by
  refine fn_q Fu sc_law vi_law (by rintro ds r ⟨ns, _, rfl, _⟩; rfl) (by rintro ds r ⟨ns, _, _, rfl⟩; exact ⟨_, rfl⟩) fun c hq ds sl hF => ?_
  obtain ⟨ns, hl, rfl, e⟩ := hF
  injection e with e
  subst e
  show EvSs c _ [.va (.lst (ns.map D.int)), .un, .un, .un, .un, .un, .un, .un] _ _
  conv in (defBody _) => whnf
  walk_at "ev"
  with_reducible refine s_for hq (i_seq ?_)
  walk_at "ev"
  · have := cutD_len (ns.map D.int) none (some 62)
    simp only [List.length_map] at this
    exact sz_small (by simp only [List.length_cons, List.length_nil]; omega)
  have ecl : (EV.cutD (ns.map D.int) none (some 62) ++ [D.int 4, D.int 7]) = (EV.cutD ns none (some 62) ++ [4, 7]).map D.int := by rw [cutD_map]; simp
  rw [ecl]
  have hcl := cutD_len ns none (some 62)
  have hcl2 : (EV.cutD ns none (some 62)).length ≤ 62 := by
    unfold EV.cutD HT.sIx
    simp only [List.length_take, List.length_drop, show ¬ (62 : Int) < 0 by decide, if_false]
    omega
  have hlen : (EV.cutD ns none (some 62) ++ [4, 7]).length ≤ 64 := by simp only [List.length_append, List.length_cons, List.length_nil]; omega
  generalize EV.cutD ns none (some 62) ++ [4, 7] = cl at hlen ⊢
  refine ⟨fun i ρ' => ∃ (p q : Int) (l : List (Int × Int)) (s4 s5 s6 s7 : Sl), Zs (10 * i + 1) p ∧ Zs (10 * i + 1) q ∧ 0 < q ∧ Int.gcd p q = 1 ∧ l.length = i + 2 ∧ (∀ x ∈ l, Plc x.1 x.2) ∧
    ρ' = [.va (.lst (ns.map D.int)), .va (.tup [.int p, .int q]), .va (.tup [.int p, .int q]), .ow (l.map plD), s4, s5, s6, s7], ?_, ?_, ?_⟩
  · refine ⟨0, 1, [(0, 1), (1, 1)], .un, .un, .un, .un, zs_iff.mpr (by decide), zs_iff.mpr (by decide), by decide, by decide, rfl, ?_, rfl⟩
    intro x hx
    simp only [List.mem_cons, List.not_mem_nil, or_false] at hx
    rcases hx with rfl | rfl
    · exact ⟨zs_le (m := 1) (zs_iff.mpr (by decide)) (by decide), zs_le (m := 1) (zs_iff.mpr (by decide)) (by decide), by decide, by decide⟩
    · exact ⟨zs_le (m := 1) (zs_iff.mpr (by decide)) (by decide), zs_le (m := 1) (zs_iff.mpr (by decide)) (by decide), by decide, by decide⟩
  · rintro c' hcX hcR hcM i d ρ' hd ⟨p, q, l, s4, s5, s6, s7, hp, hq', qpos, hg, hll, hpl, rfl⟩
    simp only [List.getElem?_map, Option.map_eq_some_iff] at hd
    obtain ⟨n, hn, rfl⟩ := hd
    have hi : i < cl.length := (List.getElem?_eq_some_iff.mp hn).1
    refine g_name (by walk_at "at") (nxt (by walk_at "sset") ?_)
    with_reducible refine ss_cons ?_
    with_reducible refine s_set (by walk_at "at") ?_
    iterate 9 walk_at "ev1"
    have hdb : drB n ≠ 0 := by have := drB_ok n; omega
    have hb0 : 0 < nB (drT n) (drB n) := nB_pos hdb
    have ha9 : (nT (drT n) (drB n)).natAbs ≤ 10 ^ 9 := Nat.le_trans (n_abs_T hdb) (by have := drT_ok n; omega)
    have hb9 : (nB (drT n) (drB n)).natAbs ≤ 10 ^ 9 := Nat.le_trans (n_abs_B hdb) (by have := drB_ok n; omega)
    dsimp only [fracD]
    generalize nT (drT n) (drB n) = a at *
    generalize nB (drT n) (drB n) = b at *
    iterate 9 walk_at "ev1"
    with_reducible refine s_ifJ (fun ρ' => ∃ k : Int, 0 ≤ k ∧ k < 4 ∧ (a = 0 → k < 2) ∧ ρ' = [.va (.lst (ns.map D.int)), .va (.tup [.int p, .int q]), .va (.tup [.int p, .int q]), .ow (l.map plD), .va (.int n), .va (.tup [.int a, .int b]), .va (.int k), s7]) ?_ ?_
    · walk_at "ev"
      · exact ⟨_, by omega, by omega, fun _ => by omega, rfl⟩
      · exact ⟨_, by omega, by omega, fun z => absurd z (by assumption), rfl⟩
    · rintro ρ' ⟨k, hk0, hk4, hka, rfl⟩
      obtain ⟨n1, n2, e3⟩ := back_ok (k := k) hk0 hk4 qpos hg hb0 hka
      have zp : Sz p := sz_of (n := 10 * i + 1) hp (by omega)
      have zq : Sz q := sz_of (n := 10 * i + 1) hq' (by omega)
      have za : Sz a := sz_of (n := 10) (zs_iff.mpr (show a.natAbs < 10 ^ 10 by omega)) (by decide)
      have zb : Sz b := sz_of (n := 10) (zs_iff.mpr (show b.natAbs < 10 ^ 10 by omega)) (by decide)
      obtain ⟨z1, z2⟩ := deed_sz (k := k) hp hq' ha9 hb9
      have pz : Pz (dD k p q a b) := pz_of z2 (by omega)
      have zT : Sz (nT (dN k p q a b) (dD k p q a b)) := sz_of (zs_T n1 z1) (by omega)
      have zB : Sz (nB (dN k p q a b) (dD k p q a b)) := sz_of (zs_B n1 z2) (by omega)
      have pc : Plc (nT (dN k p q a b) (dD k p q a b)) (nB (dN k p q a b) (dD k p q a b)) := ⟨zs_le (zs_T n1 z1) (by omega), zs_le (zs_B n1 z2) (by omega), nB_pos n1, n_gcd n1⟩
      obtain ⟨u, v, hu, hv, e1, e2, e4⟩ := last3 (l := l) (x := (nT (dN k p q a b) (dD k p q a b), nB (dN k p q a b) (dD k p q a b))) (by omega)
      have pu := hpl u hu
      have pv := hpl v hv
      have ea : List.map plD l ++ [fracD (dN k p q a b) (dD k p q a b)] = (l ++ [(nT (dN k p q a b) (dD k p q a b), nB (dN k p q a b) (dD k p q a b))]).map plD := by simp [plD]
      rw [← ea] at e1 e2 e4
      have hsz : (List.map plD l).length < sizeLine := small1000 (by simp; omega)
      walk_at "ev"
      · exact plc_nl u
      · exact plc_nl v
      · exact plc_nl _
      · refine ⟨_, _, l ++ [(nT (dN k p q a b) (dD k p q a b), nB (dN k p q a b) (dD k p q a b))], .va (.int n), .va (.tup [.int a, .int b]), .va (.int k), .va (fracD (dN k p q a b) (dD k p q a b)), zs_le (zs_T n1 z1) (by omega), zs_le (zs_B n1 z2) (by omega), nB_pos n1, n_gcd n1, by simp; omega, ?_, ?_⟩
        rotate_right
        · rw [← ea]; rfl
        · intro x hx
          rcases List.mem_append.mp hx with h | h
          · exact hpl x h
          · rw [List.mem_singleton.mp h]; exact pc
  · rintro ρ' ⟨p, q, l, s4, s5, s6, s7, _, _, _, _, _, _, rfl⟩
    walk_at "ev"
    rfl
end
end


set_option Elab.async false
set_option linter.all false
set_option maxRecDepth 100000
set_option maxHeartbeats 0
section
variable {P : Program} {w : World} {K : PySem.W.Frag} {mg : Str → Option Value} {base h : Heap}
theorem main_mk {fa : Addr} (hfa : mg (Str.ofString "law") = some (.ref fa)) (T : Txt K mg)
    (D4 : DefIn K mg (Str.ofString "common_divisor") (top 4))
    (D5 : DefIn K mg (Str.ofString "fraction_of") (top 5))
    (D6 : DefIn K mg (Str.ofString "frac_sum") (top 6))
    (D7 : DefIn K mg (Str.ofString "frac_less") (top 7))
    (D8 : DefIn K mg (Str.ofString "frac_times") (top 8))
    (D9 : DefIn K mg (Str.ofString "frac_by") (top 9))
    (D10 : DefIn K mg (Str.ofString "frac_lesser") (top 10))
    (D12 : DefIn K mg (Str.ofString "_law_whole") (top 12))
    (D13 : DefIn K mg (Str.ofString "_law_fraction") (top 13))
    (D14 : DefIn K mg (Str.ofString "_law_same_fraction") (top 14))
    (D15 : DefIn K mg (Str.ofString "_law_drawn") (top 15))
    (D16 : DefIn K mg (Str.ofString "_law_deed") (top 16))
    (D17 : DefIn K mg (Str.ofString "_law_back") (top 17))
    (D18 : DefIn K mg (Str.ofString "_law_three") (top 18))
    (D19 : DefIn K mg (Str.ofString "law") (top 19))
    : ∃ fd : FuncData, (∀ (s : Shared) (u : Value), BindsTo s fd ⟨[u], []⟩ [("_law_script", u)]) ∧ ∀ base : Heap, K.In base → base.Ns mainGlobals mg → FnOk P w K mg base (CXE P w) 20 fa fd ["_law_script"] (spF K Flaw) := by
  obtain ⟨f4, fd4, m4, Fu4⟩ := D4
  obtain ⟨f5, fd5, m5, Fu5⟩ := D5
  obtain ⟨f6, fd6, m6, Fu6⟩ := D6
  obtain ⟨f7, fd7, m7, Fu7⟩ := D7
  obtain ⟨f8, fd8, m8, Fu8⟩ := D8
  obtain ⟨f9, fd9, m9, Fu9⟩ := D9
  obtain ⟨f10, fd10, m10, Fu10⟩ := D10
  obtain ⟨f12, fd12, m12, Fu12⟩ := D12
  obtain ⟨f13, fd13, m13, Fu13⟩ := D13
  obtain ⟨f14, fd14, m14, Fu14⟩ := D14
  obtain ⟨f15, fd15, m15, Fu15⟩ := D15
  obtain ⟨f16, fd16, m16, Fu16⟩ := D16
  obtain ⟨f17, fd17, m17, Fu17⟩ := D17
  obtain ⟨f18, fd18, m18, Fu18⟩ := D18
  obtain ⟨f19, fd19, m19, Fu19⟩ := D19
  have e := hfa.symm.trans m19
  cases e
  refine ⟨fd19, ?_, fun base _ _ => ?_⟩
  · obtain ⟨oc, od, kV, doc, pm, an, cdv, ct, osl, rfl, lk, hcd⟩ := Fu19.ex
    exact fun s u => .of_eq rfl
  have C4 : Cal P w K mg base 1 (Str.ofString "common_divisor") (Fgcd) := cal_mk (ps := ["one", "other"]) m4 Fu4 (ok_gcd Fu4 T) (fun _ _ _ _ _ _ us hl => by obtain ⟨a, b, rfl⟩ := len2 us hl; rfl)
  have C5 : Cal P w K mg base 2 (Str.ofString "fraction_of") (Ffr) := cal_mk (ps := ["top", "bottom"]) m5 Fu5 (ok_of Fu5 T C4) (fun _ _ _ _ _ _ us hl => by obtain ⟨a, b, rfl⟩ := len2 us hl; rfl)
  have C6 : Cal P w K mg base 3 (Str.ofString "frac_sum") (F4 fSum gAll) := cal_mk (ps := ["one", "other"]) m6 Fu6 (ok_sum Fu6 C5) (fun _ _ _ _ _ _ us hl => by obtain ⟨a, b, rfl⟩ := len2 us hl; rfl)
  have C7 : Cal P w K mg base 3 (Str.ofString "frac_less") (F4 fLess gAll) := cal_mk (ps := ["one", "other"]) m7 Fu7 (ok_less Fu7 C5) (fun _ _ _ _ _ _ us hl => by obtain ⟨a, b, rfl⟩ := len2 us hl; rfl)
  have C8 : Cal P w K mg base 3 (Str.ofString "frac_times") (F4 fTimes gAll) := cal_mk (ps := ["one", "other"]) m8 Fu8 (ok_times Fu8 C5) (fun _ _ _ _ _ _ us hl => by obtain ⟨a, b, rfl⟩ := len2 us hl; rfl)
  have C9 : Cal P w K mg base 3 (Str.ofString "frac_by") (F4 fBy gBy) := cal_mk (ps := ["one", "other"]) m9 Fu9 (ok_by Fu9 C5) (fun _ _ _ _ _ _ us hl => by obtain ⟨a, b, rfl⟩ := len2 us hl; rfl)
  have C10 : Cal P w K mg base 1 (Str.ofString "frac_lesser") (Flesser) := cal_mk (ps := ["one", "other"]) m10 Fu10 (ok_lesser Fu10) (fun _ _ _ _ _ _ us hl => by obtain ⟨a, b, rfl⟩ := len2 us hl; rfl)
  have C12 : Cal P w K mg base 1 (Str.ofString "_law_whole") (Fwhole) := cal_mk (ps := ["_law_found"]) m12 Fu12 (ok_whole Fu12 T) (fun _ _ _ _ _ _ us hl => by obtain ⟨a, rfl⟩ := len1 us hl; rfl)
  have C13 : Cal P w K mg base 1 (Str.ofString "_law_fraction") (Ffr) := cal_mk (ps := ["_law_top", "_law_bottom"]) m13 Fu13 (ok_fr Fu13 T) (fun _ _ _ _ _ _ us hl => by obtain ⟨a, b, rfl⟩ := len2 us hl; rfl)
  have C14 : Cal P w K mg base 2 (Str.ofString "_law_same_fraction") (Fsame) := cal_mk (ps := ["_law_found", "_law_due"]) m14 Fu14 (ok_same Fu14 T C12) (fun _ _ _ _ _ _ us hl => by obtain ⟨a, b, rfl⟩ := len2 us hl; rfl)
  have C15 : Cal P w K mg base 2 (Str.ofString "_law_drawn") (Fdrawn) := cal_mk (ps := ["_law_cell"]) m15 Fu15 (ok_drawn Fu15 C13) (fun _ _ _ _ _ _ us hl => by obtain ⟨a, rfl⟩ := len1 us hl; rfl)
  have C16 : Cal P w K mg base 4 (Str.ofString "_law_deed") (Fdeed) := cal_mk (ps := ["_law_here", "_law_kept", "_law_some", "_law_kind"]) m16 Fu16 (ok_deed Fu16 C6 C7 C8 C9) (fun _ _ _ _ _ _ us hl => by obtain ⟨a, b, c, d, rfl⟩ := len4 us hl; rfl)
  have C17 : Cal P w K mg base 4 (Str.ofString "_law_back") (Fback) := cal_mk (ps := ["_law_there", "_law_some", "_law_kind"]) m17 Fu17 (ok_back Fu17 C6 C7 C8 C9) (fun _ _ _ _ _ _ us hl => by obtain ⟨a, b, c, rfl⟩ := len3 us hl; rfl)
  have C18 : Cal P w K mg base 4 (Str.ofString "_law_three") (Fthree) := cal_mk (ps := ["_law_one", "_law_two", "_law_third"]) m18 Fu18 (ok_three Fu18 T C6 C7 C8 C10) (fun _ _ _ _ _ _ us hl => by obtain ⟨a, b, c, rfl⟩ := len3 us hl; rfl)
  exact (ok_law Fu19 T C15 C16 C13 C14 C17 C18).mono (by decide)
end
end My


open PySem PySem.W PyProof.Rows
set_option maxRecDepth 100000 in
set_option maxHeartbeats 0 in
theorem PySem.Challenge.cw_everydraw_k03_whole_walks_of_fractions_holds : PySem.Challenge.rw_everydraw_k03_whole_walks_of_fractions.Holds := by
  w_on; o_law; k_head; (case hw => w_witness2)
  k_fill
  refine EV.walk (k := 20) (l := PySem.Challenge.rw_everydraw_k03_whole_walks_of_fractions) (by decide) rfl rfl (fun w h Y => PySem.W.kIn_of Y) ?F
  case F =>
    intro w mg fa h KX G hmg
    have D4 : EV.DefIn (L2.KOf KX) mg (Str.ofString "common_divisor") (My.top 4) := by
      dsimp only [L2.KOf]
      refine' EV.def_mk KX G ?a ?l ?c ?k
      (case a => k_is); (case l => k_is); (case c => k_is); (case k => k_is)
    have D5 : EV.DefIn (L2.KOf KX) mg (Str.ofString "fraction_of") (My.top 5) := by
      dsimp only [L2.KOf]
      refine' EV.def_mk KX G ?a ?l ?c ?k
      (case a => k_is); (case l => k_is); (case c => k_is); (case k => k_is)
    have D6 : EV.DefIn (L2.KOf KX) mg (Str.ofString "frac_sum") (My.top 6) := by
      dsimp only [L2.KOf]
      refine' EV.def_mk KX G ?a ?l ?c ?k
      (case a => k_is); (case l => k_is); (case c => k_is); (case k => k_is)
    have D7 : EV.DefIn (L2.KOf KX) mg (Str.ofString "frac_less") (My.top 7) := by
      dsimp only [L2.KOf]
      refine' EV.def_mk KX G ?a ?l ?c ?k
      (case a => k_is); (case l => k_is); (case c => k_is); (case k => k_is)
    have D8 : EV.DefIn (L2.KOf KX) mg (Str.ofString "frac_times") (My.top 8) := by
      dsimp only [L2.KOf]
      refine' EV.def_mk KX G ?a ?l ?c ?k
      (case a => k_is); (case l => k_is); (case c => k_is); (case k => k_is)
    have D9 : EV.DefIn (L2.KOf KX) mg (Str.ofString "frac_by") (My.top 9) := by
      dsimp only [L2.KOf]
      refine' EV.def_mk KX G ?a ?l ?c ?k
      (case a => k_is); (case l => k_is); (case c => k_is); (case k => k_is)
    have D10 : EV.DefIn (L2.KOf KX) mg (Str.ofString "frac_lesser") (My.top 10) := by
      dsimp only [L2.KOf]
      refine' EV.def_mk KX G ?a ?l ?c ?k
      (case a => k_is); (case l => k_is); (case c => k_is); (case k => k_is)
    have D12 : EV.DefIn (L2.KOf KX) mg (Str.ofString "_law_whole") (My.top 12) := by
      dsimp only [L2.KOf]
      refine' EV.def_mk KX G ?a ?l ?c ?k
      (case a => k_is); (case l => k_is); (case c => k_is); (case k => k_is)
    have D13 : EV.DefIn (L2.KOf KX) mg (Str.ofString "_law_fraction") (My.top 13) := by
      dsimp only [L2.KOf]
      refine' EV.def_mk KX G ?a ?l ?c ?k
      (case a => k_is); (case l => k_is); (case c => k_is); (case k => k_is)
    have D14 : EV.DefIn (L2.KOf KX) mg (Str.ofString "_law_same_fraction") (My.top 14) := by
      dsimp only [L2.KOf]
      refine' EV.def_mk KX G ?a ?l ?c ?k
      (case a => k_is); (case l => k_is); (case c => k_is); (case k => k_is)
    have D15 : EV.DefIn (L2.KOf KX) mg (Str.ofString "_law_drawn") (My.top 15) := by
      dsimp only [L2.KOf]
      refine' EV.def_mk KX G ?a ?l ?c ?k
      (case a => k_is); (case l => k_is); (case c => k_is); (case k => k_is)
    have D16 : EV.DefIn (L2.KOf KX) mg (Str.ofString "_law_deed") (My.top 16) := by
      dsimp only [L2.KOf]
      refine' EV.def_mk KX G ?a ?l ?c ?k
      (case a => k_is); (case l => k_is); (case c => k_is); (case k => k_is)
    have D17 : EV.DefIn (L2.KOf KX) mg (Str.ofString "_law_back") (My.top 17) := by
      dsimp only [L2.KOf]
      refine' EV.def_mk KX G ?a ?l ?c ?k
      (case a => k_is); (case l => k_is); (case c => k_is); (case k => k_is)
    have D18 : EV.DefIn (L2.KOf KX) mg (Str.ofString "_law_three") (My.top 18) := by
      dsimp only [L2.KOf]
      refine' EV.def_mk KX G ?a ?l ?c ?k
      (case a => k_is); (case l => k_is); (case c => k_is); (case k => k_is)
    have D19 : EV.DefIn (L2.KOf KX) mg (Str.ofString "law") (My.top 19) := by
      dsimp only [L2.KOf]
      refine' EV.def_mk KX G ?a ?l ?c ?k
      (case a => k_is); (case l => k_is); (case c => k_is); (case k => k_is)
    have T : EV.Txt (L2.KOf KX) mg := by
      dsimp only [L2.KOf]
      refine' EV.txt_mk KX G ?z1 ?z2 ?z3 ?z4 ?z5 ?z6 ?z7 ?z8 ?z9 ?z10 ?z11 ?z12 ?z13 ?z14 ?z15 ?z16 ?z17 ?sib
      (case z1 => k_is)
      (case z2 => k_is)
      (case z3 => k_is)
      (case z4 => k_is)
      (case z5 => k_is)
      (case z6 => k_is)
      (case z7 => k_is)
      (case z8 => k_is)
      (case z9 => k_is)
      (case z10 => k_is)
      (case z11 => k_is)
      (case z12 => k_is)
      (case z13 => k_is)
      (case z14 => k_is)
      (case z15 => k_is)
      (case z16 => k_is)
      (case z17 => k_is)
      (case sib => k_is)
    exact My.main_mk hmg T  D4 D5 D6 D7 D8 D9 D10 D12 D13 D14 D15 D16 D17 D18 D19
#print axioms PySem.Challenge.cw_everydraw_k03_whole_walks_of_fractions_holds

