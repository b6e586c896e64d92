import PyProof.Rows.All
import Wide.All
import OpenK.AllK
import Wide.FinOn
import Lean
import PyProof.EqAt
import PyProof.EqKinds
import PyProof.TupleCall
import KE.KTryMore
import PyProof.NeKinds
import PyProof.DictItemsLoops
import PyProof.Rows.SortRunsK
import PyProof.Rows.SortRev
import PyProof.CollectIter
import PyProof.WalkInts
import PyProof.SumWalkG
import PyProof.SeqI3
import PyProof.EnumFor
import PyProof.EnumMake
import PyProof.Draws
import PyProof.Rows.Range3
import PySem.Challenge.RW_everydraw_k06_polynomials_reckoned
def PySem.W.Fast.tw5411868123206687381 : Unit := ()
def PySem.W.Fast.tw14759205686102419172 : Unit := ()
def PySem.W.Fast.tw13396407546329902228 : Unit := ()
def PySem.W.Fast.tw10560499785583455013 : Unit := ()
def PySem.W.Fast.tw2336091259163498806 : Unit := ()
def PySem.W.Fast.tw4786063520559772352 : Unit := ()
def PySem.W.Fast.tw1685418304698143714 : Unit := ()
def PySem.W.Fast.tw17477556417133057374 : Unit := ()
def PySem.W.Fast.tw8146280640703893891 : Unit := ()
def PySem.W.Fast.tw2735735989533136222 : Unit := ()
def PySem.W.Fast.tw9975668240771921684 : Unit := ()
def PySem.W.Fast.tw7162487465688476389 : Unit := ()
def PySem.W.Fast.tw13311971552243219761 : Unit := ()
def PySem.W.Fast.tw1319919467329260387 : Unit := ()
def PySem.W.Fast.tw1573362820397878952 : Unit := ()
def PySem.W.Fast.tw16413639400809986696 : Unit := ()
def PySem.W.Fast.tw79715080432827218 : Unit := ()
def PySem.W.Fast.tw17084003253580736433 : Unit := ()
def PySem.W.Fast.tw15861247448739796924 : Unit := ()
def PySem.W.Fast.tw14233845495101184554 : Unit := ()
def PySem.W.Fast.tw263328249051194845 : Unit := ()
def PySem.W.Fast.tw4812627381213734766 : Unit := ()
def PySem.W.Fast.tw15016299036179107863 : Unit := ()
def PySem.W.Fast.tw15773686263417509896 : Unit := ()
def PySem.W.Fast.tw4951511343648244466 : Unit := ()
def PySem.W.Fast.tw12101607078491924300 : Unit := ()
def PySem.W.Fast.tw5797698216468731332 : Unit := ()
def PySem.W.Fast.tw16044286625645334772 : Unit := ()
def PySem.W.Fast.tw10814943391416235761 : Unit := ()
def PySem.W.Fast.tw12800008053601826567 : Unit := ()
def PySem.W.Fast.tw10099631836059999678 : Unit := ()
def PySem.W.Fast.tw15194128359437094199 : Unit := ()
def PySem.W.Fast.tw8085141130358978300 : Unit := ()
def PySem.W.Fast.tw1199383097376549909 : Unit := ()
def PySem.W.Fast.tw2813133650008308609 : Unit := ()
def PySem.W.Fast.tw10903590936964317120 : Unit := ()
def PySem.W.Fast.tw10401978653631392225 : Unit := ()
def PySem.W.Fast.tw7304308111520123033 : Unit := ()
def PySem.W.Fast.tw14209432465583912692 : Unit := ()
def PySem.W.Fast.tw6635005189928279689 : Unit := ()
def PySem.W.Fast.tw6467163929996096567 : Unit := ()
def PySem.W.Fast.tw2721595341589181649 : Unit := ()
def PySem.W.Fast.tw2934230675738175162 : Unit := ()
def PySem.W.Fast.tw10494646773634082047 : Unit := ()
def PySem.W.Fast.tw12653670817595307883 : Unit := ()
def PySem.W.Fast.tw17007897749510026151 : Unit := ()
def PySem.W.Fast.tw5369004018043185223 : Unit := ()
def PySem.W.Fast.tw12672821200618814293 : Unit := ()
def PySem.W.Fast.tw13123821487754883417 : Unit := ()
def PySem.W.Fast.tw16718274362496039620 : Unit := ()
def PySem.W.Fast.tw9603146599306608016 : Unit := ()
def PySem.W.Fast.tw5756371168756677285 : Unit := ()
def PySem.W.Fast.tw13193498928454535918 : Unit := ()
def PySem.W.Fast.tw16090764152967225881 : Unit := ()
def PySem.W.Fast.tw10860790418419801713 : Unit := ()
def PySem.W.Fast.tw1957464579345127095 : Unit := ()
def PySem.W.Fast.tw2311439736480439799 : Unit := ()
def PySem.W.Fast.tw14936233796160046761 : Unit := ()
def PySem.W.Fast.tw8306609536933037078 : Unit := ()
def PySem.W.Fast.tw1163577959623212648 : Unit := ()
def PySem.W.Fast.tw7013254030556497196 : Unit := ()
def PySem.W.Fast.tw15318739589775771721 : Unit := ()
def PySem.W.Fast.tw1943256420767588204 : Unit := ()
def PySem.W.Fast.tw6500770585052930921 : Unit := ()
def PySem.W.Fast.tw13962751847350579059 : Unit := ()
def PySem.W.Fast.tw4518566098690981251 : Unit := ()
def PySem.W.Fast.tw17863912078425098393 : Unit := ()
def PySem.W.Fast.tw5501102871729067626 : Unit := ()
def PySem.W.Fast.tw6109253881661064866 : Unit := ()
def PySem.W.Fast.tw13453743917351239208 : Unit := ()
def PySem.W.Fast.tw11060154006096633255 : Unit := ()
def PySem.W.Fast.tw1949775270193691010 : Unit := ()
def PySem.W.Fast.tw3041441956304789092 : Unit := ()
def PySem.W.Fast.tw2468128848386516816 : Unit := ()
def PySem.W.Fast.tw1236368443256546730 : Unit := ()
def PySem.W.Fast.tw14795452011711132687 : Unit := ()
def PySem.W.Fast.tw16997342753273243850 : Unit := ()
def PySem.W.Fast.tw1806450382680899959 : Unit := ()
def PySem.W.Fast.tw288469697199496852 : Unit := ()
def PySem.W.Fast.tw10598880073412847750 : Unit := ()
def PySem.W.Fast.tw14275109798753260995 : Unit := ()
def PySem.W.Fast.tw14644646234605464850 : Unit := ()
def PySem.W.Fast.tw2887642834301534435 : Unit := ()
def PySem.W.Fast.tw9736102338638607609 : Unit := ()
def PySem.W.Fast.tw3694273507892121997 : Unit := ()
def PySem.W.Fast.tw17695558231261674743 : Unit := ()
def PySem.W.Fast.tw7638787171389978250 : Unit := ()
def PySem.W.Fast.tw5675375676635334505 : Unit := ()
def PySem.W.Fast.tw9213677043647079229 : Unit := ()
def PySem.W.Fast.tw14686672958698345724 : Unit := ()
def PySem.W.Fast.tw5447698420035399905 : Unit := ()
def PySem.W.Fast.tw5284944354573110013 : Unit := ()
def PySem.W.Fast.tw10914597843334498968 : Unit := ()
def PySem.W.Fast.tw2345190243751424553 : Unit := ()
def PySem.W.Fast.tw3150932531853002176 : Unit := ()
def PySem.W.Fast.tw15347373307660922228 : Unit := ()
def PySem.W.Fast.tw11706321467419123754 : Unit := ()
def PySem.W.Fast.tw9418282942947881017 : Unit := ()
def PySem.W.Fast.tw3646748398642990961 : Unit := ()
def PySem.W.Fast.tw387615715221544144 : Unit := ()
def PySem.W.Fast.tw7137039268744226168 : Unit := ()
def PySem.W.Fast.tw10494690353909857228 : Unit := ()
def PySem.W.Fast.tw13984013536892731326 : Unit := ()
def PySem.W.Fast.tw6925252920835294088 : Unit := ()
def PySem.W.Fast.tw10720891592529474670 : Unit := ()
def PySem.W.Fast.tw15834097343708261266 : Unit := ()
def PySem.W.Fast.tw288866628445839791 : Unit := ()
def PySem.W.Fast.tw5527291578181800572 : Unit := ()
def PySem.W.Fast.tw15160658587253606764 : Unit := ()
def PySem.W.Fast.tw15221979246276713340 : Unit := ()
def PySem.W.Fast.tw6111394691563320623 : Unit := ()
def PySem.W.Fast.tw1752189817738926659 : Unit := ()
def PySem.W.Fast.tw14060615265477752705 : Unit := ()
def PySem.W.Fast.tw1447353105557087538 : Unit := ()
def PySem.W.Fast.tw8330038036215845639 : Unit := ()
def PySem.W.Fast.tw15633544728613694991 : Unit := ()
def PySem.W.Fast.tw7787106114482824651 : Unit := ()
def PySem.W.Fast.tw17536970779455936876 : Unit := ()
def PySem.W.Fast.tw10000007443308191932 : Unit := ()
def PySem.W.Fast.tw9836043022046865419 : Unit := ()
def PySem.W.Fast.tw1209089902778054131 : Unit := ()
def PySem.W.Fast.tw4507815477789521821 : Unit := ()
def PySem.W.Fast.tw14667784327219690555 : Unit := ()
set_option Elab.async false
set_option linter.all false
set_option maxRecDepth 100000
namespace L2
open PySem PySem.Spec PyProof.Rows
abbrev Key := Sum Int Str
def iC : Key → Value → Bool
 | .inl k, v => Value.isInt k v
 | .inr x, v => Value.isStrOf x v
def keyH (w : World) : Key → Int
 | .inl k => hashInt k
 | .inr x => hashStr w x
theorem aM : ∀ {k : Key} {v : Value}, iC k v = true → (∃ i t, k = Sum.inl i ∧ v = Value.int i t) ∨ (∃ x t, k = Sum.inr x ∧ v = Value.str x t)
 | .inl i, v, h => by
  obtain ⟨t, e⟩ := Value.isInt_shape (k := i) (v := v) h
  exact .inl ⟨i, t, rfl, e⟩
 | .inr x, v, h => by
  obtain ⟨t, e⟩ := Value.isStrOf_shape (x := x) (v := v) h
  exact .inr ⟨x, t, rfl, e⟩
theorem rf (i : Int) (t : Tok) : iC (.inl i) (.int i t) = true := by simp [iC, Value.isInt]
theorem rg (x : Str) (t : Tok) : iC (.inr x) (.str x t) = true := by simp [iC, Value.isStrOf]
theorem zF (a b : Int) : decide ((Sum.inl a : Key) = Sum.inl b) = (a == b) := by
 by_cases e : a = b
 ·subst e; simp
 ·have h : ¬ (Sum.inl a : Key) = Sum.inl b := fun q => e (Sum.inl.inj q)
  rw [decide_eq_false h]
  exact (beq_eq_false_iff_ne.mpr e).symm
theorem zG (a b : Str) : decide ((Sum.inr a : Key) = Sum.inr b) = decide (a = b) := by
 by_cases e : a = b
 ·subst e; simp
 ·have h : ¬ (Sum.inr a : Key) = Sum.inr b := fun q => e (Sum.inr.inj q)
  rw [decide_eq_false h, decide_eq_false e]
theorem zH (a : Int) (b : Str) : decide ((Sum.inl a : Key) = Sum.inr b) = false := decide_eq_false (fun q => nomatch q)
theorem zI (a : Str) (b : Int) : decide ((Sum.inr a : Key) = Sum.inl b) = false := decide_eq_false (fun q => nomatch q)
def aY (prog : Program) (w : World) : PySem.KeyKind prog w Key where
 is := iC
 hash := keyH w
 inj := fun v a b ha hb => by
  rcases aM ha with ⟨i, t, rfl, rfl⟩ | ⟨x, t, rfl, rfl⟩
  ·rcases aM hb with ⟨j, u, rfl, e⟩ | ⟨y, u, rfl, e⟩
   ·injection e with e1 _; rw [e1]
   ·exact nomatch e
  ·rcases aM hb with ⟨j, u, rfl, e⟩ | ⟨y, u, rfl, e⟩
   ·exact nomatch e
   ·injection e with e1 _; rw [e1]
 byValue := fun k v h => by
  rcases aM h with ⟨i, t, rfl, rfl⟩ | ⟨x, t, rfl, rfl⟩ <;> rfl
 pyHash := fun hv h => by
  rcases aM hv with ⟨i, t, rfl, rfl⟩ | ⟨x, t, rfl, rfl⟩
  ·exact wpAny_pyHash_int h
  ·exact wpAny_pyHash_str h
 eqBool := fun hu hv h => by
  rcases aM hu with ⟨i, t, rfl, rfl⟩ | ⟨x, t, rfl, rfl⟩
  ·rcases aM hv with ⟨j, u, rfl, rfl⟩ | ⟨y, u, rfl, rfl⟩
   ·rw [zF] at h; exact wpAny_eqBool_int h
   ·rw [zH] at h; exact SeqAt.EqAt.int_str i t y u _ _ _ _ h
  ·rcases aM hv with ⟨j, u, rfl, rfl⟩ | ⟨y, u, rfl, rfl⟩
   ·rw [zI] at h; exact SeqAt.EqAt.str_int x t j u _ _ _ _ h
   ·rw [zG] at h; exact wpAny_eqBool_str h
 «strs» := fun k x t v h => by
  rcases aM h with ⟨i, u, rfl, e⟩ | ⟨y, u, rfl, e⟩
  ·exact nomatch e
  ·injection e with e1 _
   subst e1
   cases v <;> rfl
theorem lP (prog : Program) (w : World) (i : Int) (t : Tok) : (aY prog w).is (.inl i) (.int i t) = true := rf i t
theorem lQ (prog : Program) (w : World) (x : Str) (t : Tok) : (aY prog w).is (.inr x) (.str x t) = true := rg x t
end L2
namespace L2
open PySem PySem.Spec PyProof.Rows
inductive V where
 | non | bl (b : Bool) | int (i : Int) | str (x : Str) | byt (b : Array UInt8) | flt (b : UInt64) | ref (a : Addr) | ty (n : String)
 deriving DecidableEq
def RelV : V → Value → Prop
 | .non, u => u = Value.none
 | .bl b, u => u = Value.bool b
 | .int i, u => ∃ t, u = Value.int i t
 | .str x, u => ∃ t, u = Value.str x t
 | .byt b, u => ∃ t, u = Value.bytes b t
 | .flt b, u => ∃ t, u = Value.float b t
 | .ref a, u => u = Value.ref a
 | .ty n, u => u = Value.type n
abbrev Vals : List V → List Value → Prop := Paired RelV
theorem Vals.length {xs : List V} {us : List Value} (r : Vals xs us) : xs.length = us.length := Paired.length r
theorem Vals.get : ∀ {xs : List V} {us : List Value} {i : Nat} {x : V}, Vals xs us → xs[i]? = some x → ∃ u, us[i]? = some u ∧ RelV x u
 | _, _, _, _, .nil, e => by simp at e
 | _, _, 0, _, .cons r _, e => by simp at e; subst e; exact ⟨_, rfl, r⟩
 | _, _, i + 1, x, .cons _ t, e => by
  obtain ⟨u, h1, h2⟩ := Vals.get (i := i) (x := x) t (by simpa using e)
  exact ⟨u, by simpa using h1, h2⟩
theorem Vals.set {x : V} {u : Value} (r : RelV x u) : ∀ {xs : List V} {us : List Value} (i : Nat), Vals xs us → Vals (xs.set i x) (us.set i u)
 | _, _, _, .nil => .nil
 | _, _, 0, .cons _ t => .cons r t
 | _, _, i + 1, .cons q t => .cons q (Vals.set r i t)
theorem Vals.append : ∀ {xs ys : List V} {us ws : List Value}, Vals xs us → Vals ys ws → Vals (xs ++ ys) (us ++ ws)
 | _, _, _, _, .nil, s => s
 | _, _, _, _, .cons r t, s => .cons r (Vals.append t s)
theorem Vals.take : ∀ {xs : List V} {us : List Value} (n : Nat), Vals xs us → Vals (xs.take n) (us.take n)
 | _, _, 0, _ => .nil
 | _, _, _ + 1, .nil => .nil
 | _, _, n + 1, .cons r t => .cons r (Vals.take n t)
theorem Vals.drop : ∀ {xs : List V} {us : List Value} (n : Nat), Vals xs us → Vals (xs.drop n) (us.drop n)
 | _, _, 0, r => r
 | _, _, _ + 1, .nil => .nil
 | _, _, n + 1, .cons _ t => Vals.drop n t
def gP : Option V → Option Value → Prop
 | some v, some u => RelV v u
 | none, none => True
 | _, _ => False
def KV {κ : Type} : List (κ × V) → List (κ × Value) → Prop := Paired fun (p : κ × V) (q : κ × Value) => p.1 = q.1 ∧ RelV p.2 q.2
def kV : Key → V
 | .inl i => .int i
 | .inr x => .str x
inductive HO where
 | lst (xs : List V)
 | tup (xs : List V)
 | dK (kvs : List (Key × V)) | dT (kvs : List (List Key × Addr × V))
 | set (S : Int → Bool) (n : Nat)
 | ins (C dx : Addr) (fs : List (Str × V))
 | own (x : Addr)
 | xd (fs : List (Str × V))
 | met (f x : Addr)
 | rng (lo hi : Int)
 | frz (o : Obj) (u : HO)
 | tbl (ps : Array Value)
 | ext (φ : Heap → Prop)
abbrev Hp := Addr → Option HO
def upd (H : Hp) (a : Addr) (o : HO) : Hp := fun b => if b = a then some o else H b
theorem ai {H : Hp} {a : Addr} {o : HO} : upd H a o a = some o := by unfold upd; rw [if_pos rfl]
theorem ah {H : Hp} {a b : Addr} {o : HO} (h : b ≠ a) : upd H a o b = H b := by unfold upd; rw [if_neg h]
theorem pV {H : Hp} {a : Addr} {o u : HO} : upd (upd H a o) a u = upd H a u := by
 funext b; unfold upd; split <;> rfl
theorem au {H : Hp} {a b : Addr} {o : HO} (h : H a = some o) (h' : H b = none) : a ≠ b := by
 intro e; subst e; rw [h] at h'; cases h'
section
variable (P : Program) (w : World)
def aJ (H : Hp) (h : Heap) (a : Addr) : HO → Prop
 | .lst xs => xs.length ≤ sizeLine ∧ ∃ (its : List Value) (n : Nat), Vals xs its ∧ h.get? a = some { cls := .type "list", data := .seq its.toArray n }
 | .tup xs => xs.length ≤ sizeLine ∧ ∃ its : List Value, Vals xs its ∧ IsTup h a its.toArray
 | .dK kvs => kvs.length ≤ sizeLine ∧ (a == sysModules) = false ∧ ∃ vs, KV kvs vs ∧ h.DictOf (aY P w) a vs
 | .dT kvs => kvs.length ≤ sizeLine ∧ (a == sysModules) = false ∧ ∃ xs : List (List Key × Addr × Value),
  Paired (fun (p : List Key × Addr × V) (q : List Key × Addr × Value) => p.1 = q.1 ∧ p.2.1 = q.2.1 ∧ RelV p.2.2 q.2.2) kvs xs ∧
  ∃ o es ep, h.get? a = some o ∧ o.ExactDict ∧ o.data = .dict es ep ∧ es.toList = xs.map (entryOfKey (tupleKind (aY P w))) ∧ (xs.map (·.1)).Nodup
 | .set S n => h.SetOf (intKind P w) a S n
 | .ins C dx fs => H dx = some (.own a) ∧ fs.length ≤ 1000 ∧ dx ≠ a ∧ h.get? a = some (PySem.W.instObj C dx) ∧
  ∃ mA, h.Ns1 dx mA ∧ (∀ f, gP (fs.lookup f) (mA f)) ∧ PySem.Within mA (fs.map (·.1))
 | .own _ => ∃ o, h.get? a = some o
 | .xd fs => ∃ mA, h.Ns1 a mA ∧ ∀ f, gP (fs.lookup f) (mA f)
 | .rng lo hi => ∃ t u v, h.get? a = some { cls := .type "range", data := .fields #[.int lo t, .int hi u, .int 1 v] }
 | .frz o u => h.get? a = some o ∧ aJ H h a u
 | .tbl ps => h.get? a = some { cls := .none, data := .fields ps }
 | .met f x => h.get? a = some (PySem.W.methodObj (.ref f) (.ref x))
 | .ext φ => φ h ∧ (∃ o, h.get? a = some o) ∧ ∀ h1 h2 : Heap, φ h1 → (∀ o, h1.get? a = some o → h2.get? a = some o) → φ h2
def HOk (H : Hp) (h : Heap) : Prop := ∀ a o, H a = some o → aJ P w H h a o
end
section
variable {P : Program} {w : World} {H H' : Hp} {h h' : Heap} {a : Addr} {o : HO}
theorem aJ.lt (x : aJ P w H h a o) : a < h.objs.size := by
 cases o with
 | lst xs => obtain ⟨_, _, _, _, e⟩ := x; exact Heap.lt_size e
 | tup xs => obtain ⟨_, _, _, p⟩ := x; exact p.lt
 | dK kvs => obtain ⟨_, _, _, _, o, _, _, e, _⟩ := x; exact Heap.lt_size e
 | dT kvs => obtain ⟨_, _, _, _, o, _, _, e, _⟩ := x; exact Heap.lt_size e
 | set S n => obtain ⟨o, _, _, _, e, _⟩ := x; exact Heap.lt_size e
 | ins C dx fs => obtain ⟨_, _, _, e, _⟩ := x; exact Heap.lt_size e
 | own y => obtain ⟨_, e⟩ := x; exact Heap.lt_size e
 | xd fs => obtain ⟨_, ⟨_, _, _, e, _⟩, _⟩ := x; exact Heap.lt_size e
 | rng lo hi => obtain ⟨_, _, _, e⟩ := x; exact Heap.lt_size e
 | frz ob u => obtain ⟨e, _⟩ := x; exact Heap.lt_size e
 | tbl ps => exact Heap.lt_size (show h.get? a = some _ from x)
 | met f y => exact Heap.lt_size (show h.get? a = some _ from x)
 | ext φ => obtain ⟨_, ⟨_, e⟩, _⟩ := x; exact Heap.lt_size e
theorem Paired.mapP {α β : Type} {F G : α → β → Prop} : ∀ {l₁ : List α} {l₂ : List β}, Paired F l₁ l₂ → (∀ a b, F a b → G a b) → Paired G l₁ l₂
 | _, _, .nil, _ => .nil
 | _, _, .cons r t, f => .cons (f _ _ r) (Paired.mapP t f)
theorem aJ.stay (x : aJ P w H h a o) (k : ∀ b u, (b = a ∨ H b = some (.own a)) → h.get? b = some u → h'.get? b = some u)
 (ho : ∀ b, H b = some (.own a) → H' b = some (.own a)) (ht : ∀ b xs, H b = some (.tup xs) → H' b = some (.tup xs)) : aJ P w H' h' a o := by
 induction o with
 | lst xs => obtain ⟨z, its, n, r, e⟩ := x; exact ⟨z, its, n, r, k _ _ (.inl rfl) e⟩
 | tup xs => obtain ⟨z, its, r, ob, e, c⟩ := x; exact ⟨z, its, r, ob, k _ _ (.inl rfl) e, c⟩
 | dK kvs => obtain ⟨z, y, vs, r, ob, es, ep, e, c⟩ := x; exact ⟨z, y, vs, r, ob, es, ep, k _ _ (.inl rfl) e, c⟩
 | dT kvs =>
  obtain ⟨z, y, xs, r, ob, es, ep, e, c⟩ := x
  exact ⟨z, y, xs, r, ob, es, ep, k _ _ (.inl rfl) e, c⟩
 | set S n => obtain ⟨ob, es, ep, t, e, c⟩ := x; exact ⟨ob, es, ep, t, k _ _ (.inl rfl) e, c⟩
 | ins C dx fs =>
  obtain ⟨d, z, ne, e, mA, ⟨od, es, ep, e2, c⟩, r⟩ := x
  exact ⟨ho _ d, z, ne, k _ _ (.inl rfl) e, mA, ⟨od, es, ep, k _ _ (.inr d) e2, c⟩, r⟩
 | own y => obtain ⟨ob, e⟩ := x; exact ⟨ob, k _ _ (.inl rfl) e⟩
 | xd fs => obtain ⟨mA, ⟨od, es, ep, e, c⟩, r⟩ := x; exact ⟨mA, ⟨od, es, ep, k _ _ (.inl rfl) e, c⟩, r⟩
 | rng lo hi => obtain ⟨t, u, v, e⟩ := x; exact ⟨t, u, v, k _ _ (.inl rfl) e⟩
 | frz ob u ih => obtain ⟨e, q⟩ := x; exact ⟨k _ _ (.inl rfl) e, ih q⟩
 | tbl ps =>
  have e : h.get? a = some { cls := .none, data := .fields ps } := x
  show h'.get? a = some { cls := .none, data := .fields ps }
  exact k a _ (.inl rfl) e
 | met f y =>
  have e : h.get? a = some (PySem.W.methodObj (.ref f) (.ref y)) := x
  show h'.get? a = some (PySem.W.methodObj (.ref f) (.ref y))
  exact k a _ (.inl rfl) e
 | ext φ => obtain ⟨p, ⟨o, e⟩, st⟩ := x; exact ⟨st _ _ p fun o q => k _ _ (.inl rfl) q, ⟨o, k _ _ (.inl rfl) e⟩, st⟩
theorem HOk.lt (x : HOk P w H h) (e : H a = some o) : a < h.objs.size := (x a o e).lt
theorem HOk.fresh (x : HOk P w H h) (e : h.objs.size ≤ a) : H a = none := by
 cases q : H a with
 | none => rfl
 | some u => exact absurd (Nat.lt_of_lt_of_le (x.lt q) e) (Nat.lt_irrefl _)
theorem HOk.kept (x : HOk P w H h) (k : ∀ b u, h.get? b = some u → h'.get? b = some u) : HOk P w H h' := fun a o e =>
 (x a o e).stay (fun b u _ q => k b u q) (fun _ q => q) fun _ _ q => q
theorem HOk.laid (x : HOk P w H h) (k : ∀ b u, h.get? b = some u → h'.get? b = some u) (hp : h.objs.size ≤ a) (new : aJ P w (upd H a o) h' a o) : HOk P w (upd H a o) h' := fun b u e => by
 have hn := x.fresh hp
 by_cases hb : b = a
 ·subst hb; rw [ai] at e; cases e; exact new
 ·rw [ah hb] at e
  exact (x b u e).stay (fun c v _ q => k c v q) (fun c q => by rw [ah (au q hn)]; exact q) fun c xs q => by rw [ah (au q hn)]; exact q
end
def Rd (H : Hp) (a : Addr) (u : HO) : Prop := H a = some u ∨ ∃ o, H a = some (.frz o u)
theorem Rd.of {H : Hp} {a : Addr} {u : HO} (h : H a = some u) : Rd H a u := .inl h
theorem Rd.ok {P : Program} {w : World} {H : Hp} {h : Heap} {a : Addr} {u : HO} (r : Rd H a u) (x : HOk P w H h) : aJ P w H h a u := by
 rcases r with r | ⟨o, r⟩
 ·exact x a u r
 ·obtain ⟨_, q⟩ := x a _ r
  exact q
def Mut : Option HO → Prop
 | some (.lst _) => True
 | some (.dK _) => True
 | some (.dT _) => True
 | some (.set _ _) => True
 | some (.ins _ _ _) => True
 | some (.ext _) => True
 | _ => False
section
variable {P : Program} {w : World} {H : Hp} {h h' : Heap} {x e : Addr} {o' : HO}
theorem HOk.write (ok : HOk P w H h) (mu : Mut (H x)) (he : e = x ∨ H e = some (.own x)) (k : ∀ b u, b ≠ e → h.get? b = some u → h'.get? b = some u) (heo : ∃ u, h'.get? e = some u)
 (new : aJ P w (upd H x o') h' x o') : HOk P w (upd H x o') h' := fun b u q => by
 have nown : ∀ c y, H c = some (.own y) → c ≠ x := fun c y r z => by subst z; rw [r] at mu; exact mu
 have ntup : ∀ c xs, H c = some (.tup xs) → c ≠ x := fun c xs r z => by subst z; rw [r] at mu; exact mu
 by_cases hb : b = x
 ·subst hb; rw [ai] at q; cases q; exact new
 ·rw [ah hb] at q
  by_cases hbe : b = e
  ·have q' : H b = some (.own x) := by
    rcases he with z | z
    ·exact absurd (hbe.trans z) hb
    ·rw [hbe]; exact z
   rw [q] at q'; cases q'
   obtain ⟨v, hv⟩ := heo
   exact ⟨v, by rw [hbe]; exact hv⟩
  ·refine (ok b u q).stay (fun c v hc r => k c v ?_ r) (fun c r => by rw [ah (nown c b r)]; exact r) fun c xs r => by rw [ah (ntup c xs r)]; exact r
   rcases hc with rfl | hc
   ·exact hbe
   ·rintro rfl
    rcases he with z | z
    ·exact nown c b hc z
    ·rw [hc] at z; cases z; exact hb rfl
end
structure Un (fs ex : List Addr) (H H' : Hp) (h h' : Heap) : Prop where
 keep : ∀ b o, h.get? b = some o → H b = none → b ∉ fs → b ∉ ex → h'.get? b = some o
 slot : ∀ b o, h.get? b = some o → H b = none → b ∈ fs → b ∉ ex → ∃ sl, h'.get? b = some { o with slots := sl }
 free : ∀ b o, h.get? b = some o → H b = none → b ∉ ex → H' b = none
 there : ∀ b o, h.get? b = some o → b ∉ ex → ∃ o', h'.get? b = some o'
 tups : ∀ b xs, H b = some (.tup xs) → H' b = some (.tup xs)
 frzs : ∀ b o u, H b = some (.frz o u) → H' b = some (.frz o u)
 tbls : ∀ b ps, H b = some (.tbl ps) → ∃ more, H' b = some (.tbl (ps ++ more))
section
variable {fs fs' ex ex' : List Addr} {H H1 H2 : Hp} {h h1 h2 h' : Heap} {a x e : Addr} {o : HO}
theorem Un.any (u : Un fs ex H H1 h h1) {b : Addr} {ob : Obj} (q : h.get? b = some ob) (n : H b = none) (hx : b ∉ ex) : ∃ sl, h1.get? b = some { ob with slots := sl } := by
 by_cases hb : b ∈ fs
 ·exact u.slot b ob q n hb hx
 ·exact ⟨ob.slots, u.keep b ob q n hb hx⟩
theorem Un.trans (a : Un fs ex H H1 h h1) (b : Un fs ex H1 H2 h1 h2) : Un fs ex H H2 h h2 where
 keep := fun c ob q n hc hx => b.keep c ob (a.keep c ob q n hc hx) (a.free c ob q n hx) hc hx
 slot := fun c ob q n hc hx => by
  obtain ⟨sl, e1⟩ := a.slot c ob q n hc hx
  obtain ⟨sl', e2⟩ := b.slot c _ e1 (a.free c ob q n hx) hc hx
  exact ⟨sl', e2⟩
 free := fun c ob q n hx => by
  obtain ⟨o', e1⟩ := a.there c ob q hx
  exact b.free c o' e1 (a.free c ob q n hx) hx
 there := fun c ob q hx => by
  obtain ⟨o', e1⟩ := a.there c ob q hx
  exact b.there c o' e1 hx
 tups := fun c xs q => b.tups c xs (a.tups c xs q)
 frzs := fun c ob xs q => b.frzs c ob xs (a.frzs c ob xs q)
 tbls := fun c ps q => by
  obtain ⟨m1, e1⟩ := a.tbls c ps q
  obtain ⟨m2, e2⟩ := b.tbls c _ e1
  exact ⟨m1 ++ m2, by rw [e2, Array.append_assoc]⟩
theorem Un.kept (k : ∀ b u, h.get? b = some u → h'.get? b = some u) : Un fs ex H H h h' :=
 ⟨fun b ob q _ _ _ => k b ob q, fun b ob q _ _ _ => ⟨ob.slots, k b ob q⟩, fun _ _ _ n _ => n, fun b ob q _ => ⟨ob, k b ob q⟩, fun _ _ q => q, fun _ _ _ q => q, fun _ ps q => ⟨#[], by rw [q]; simp⟩⟩
theorem Un.refl : Un fs ex H H h h := Un.kept fun _ _ q => q
theorem Un.laid (k : ∀ b u, h.get? b = some u → h'.get? b = some u) (hp : h.objs.size ≤ a) (hn : H a = none) : Un fs ex H (upd H a o) h h' where
 keep := fun b u q _ _ _ => k b u q
 slot := fun b u q _ _ _ => ⟨u.slots, k b u q⟩
 free := fun b u q n _ => by rw [ah (Nat.ne_of_lt (Nat.lt_of_lt_of_le (Heap.lt_size q) hp))]; exact n
 there := fun b u q _ => ⟨u, k b u q⟩
 tups := fun b xs q => by rw [ah (au q hn)]; exact q
 frzs := fun b u xs q => by rw [ah (au q hn)]; exact q
 tbls := fun b ps q => ⟨#[], by rw [ah (au q hn), q]; simp⟩
theorem Un.write (mu : Mut (H x)) (he : e = x ∨ H e = some (.own x)) (k : ∀ b u, b ≠ e → h.get? b = some u → h'.get? b = some u) (heo : ∃ u, h'.get? e = some u) : Un fs ex H (upd H x o) h h' := by
 have hx : ∀ b, H b = none → b ≠ x := fun b n z => by subst z; rw [n] at mu; exact mu
 have hb : ∀ b, H b = none → b ≠ e := fun b n z => by
  subst z
  rcases he with r | r
  ·exact hx b n r
  ·rw [n] at r; cases r
 have hm : ∀ b u, H b = some u → ¬ Mut (some u) → b ≠ x := fun b u q nm z => by subst z; rw [q] at mu; exact nm mu
 refine ⟨fun b u q n _ _ => k b u (hb b n) q, fun b u q n _ _ => ⟨u.slots, k b u (hb b n) q⟩, fun b u q n _ => by rw [ah (hx b n)]; exact n, fun b u q _ => ?_,
  fun b xs q => by rw [ah (hm b _ q fun z => z)]; exact q, fun b u xs q => by rw [ah (hm b _ q fun z => z)]; exact q, fun b ps q => ⟨#[], by rw [ah (hm b _ q fun z => z), q]; simp⟩⟩
 by_cases hbe : b = e
 ·subst hbe; exact heo
 ·exact ⟨u, k b u hbe q⟩
theorem Un.mono (u : Un fs ex H H1 h h1) (hs : ∀ b ∈ fs, b ∈ fs') (hx : ∀ b ∈ ex, b ∈ ex') : Un fs' ex' H H1 h h1 :=
 ⟨fun b ob q n hb he => u.keep b ob q n (fun z => hb (hs b z)) fun z => he (hx b z), fun _ _ q n _ he => u.any q n fun z => he (hx _ z), fun b ob q n he => u.free b ob q n fun z => he (hx b z), fun b ob q he => u.there b ob q fun z => he (hx b z), u.tups, u.frzs, u.tbls⟩
end
def trk (h : Heap) (H : Hp) : List Addr := (List.range h.objs.size).filter fun a => (H a).isSome
def kC (h : Heap) (H : Hp) : Heap := PySem.W.hideAll h (trk h H)
theorem ri (h : Heap) (H : Hp) : (kC h H).objs.size = h.objs.size := PySem.W.hideAll_size _ _
theorem tG {h : Heap} {H : Hp} {b : Addr} {o : Obj} (e : h.get? b = some o) (n : H b = none) : (kC h H).get? b = some o :=
 PySem.W.hideAll_get _ e fun hm => by
  have q : (H b).isSome = true := (List.mem_filter.mp hm).2
  rw [n] at q; simp at q
theorem wZ {h : Heap} {H : Hp} {b : Addr} {o : Obj} (e : (kC h H).get? b = some o) : h.get? b = some o ∧ H b = none := by
 have e' : h.get? b = some o := PySem.W.of_hideAll (trk h H) e
 refine ⟨e', ?_⟩
 cases q : H b with
 | none => rfl
 | some x =>
  have hm : b ∈ trk h H := List.mem_filter.mpr ⟨List.mem_range.mpr (Heap.lt_size e'), by simp [q]⟩
  have z : (kC h H).get? b = none := PySem.W.hideAll_none (trk h H) hm
  rw [z] at e; cases e
def w5 (g h : Heap) (L : Addr) : List (Addr × Obj) := (List.range h.objs.size).filterMap fun a => if a = L ∨ (g.get? a).isSome = true then none else (h.get? a).map fun o => (a, o)
def rest (g h : Heap) (L d : Addr) : List (Addr × Obj) := (w5 g h L).filter fun p => decide (p.1 ≠ d)
end L2
namespace L2
open PySem PySem.Spec PyProof.Rows
structure Mod (K : PySem.W.Frag) (mg : Str → Option Value) (base : Heap) : Prop where
 kin : K.In base
 glob : base.Ns mainGlobals mg
 blt : ∃ mb, base.Ns builtinsNs mb ∧ ∀ x : Str, x ≠ "__name__" → mb x = bootBuiltins x
 nolimit : base.NoLimit
structure Cx where
 prog : Program
 w : World
 K : PySem.W.Frag
 mg : Str → Option Value
 base : Heap
 A : Around
 N : List Str
 s₀ : Shared
 H₀ : Hp
 env : Env
 outer : List Env
 stack : List Env
 ex : List Addr
 fn : Str → Bool
 calm : Bool
 pn : List (Addr × Obj)
 xe : Value → Shared → Prop
def frs (l : List Env) : List Addr := l.filterMap (·.frame)
abbrev Cx.fs (X : Cx) : List Addr := frs X.outer
def Vis (sc : Scope) (x : Str) : Prop := sc.names.lookup x = some .local ∨ sc.names.lookup x = some .cell ∨ sc.names.lookup x = some .free
def Loc (sc : Scope) (x : Str) : Prop := sc.names.lookup x = some .local ∨ sc.names.lookup x = some .cell
def Look (env : Env) (h : Heap) (m : Str → Option Value) (x : Str) (u : Value) : Prop :=
 (env.kindOf x = some .local ∧ m x = some u) ∨ ((env.kindOf x = some .cell ∨ env.kindOf x = some .free) ∧ ∃ c, env.cells.lookup x = some c ∧ h.IsCell c (some u))
structure Cx.Ok (X : Cx) : Prop where
 mod : Mod X.K X.mg X.base
 kind : X.env.scope.kind = .function
 glob : X.env.globals = mainGlobals
 blt : X.env.builtins = builtinsNs
 above : X.s₀.heap.objs.size ≤ X.env.locals
 inj : ∀ x y c, X.env.cells.lookup x = some c → X.env.cells.lookup y = some c → x = y
 has : ∀ x, (X.env.kindOf x = some .cell ∨ X.env.kindOf x = some .free) → ∃ c, X.env.cells.lookup x = some c
 cab : ∀ x c, X.fn x = true → X.env.cells.lookup x = some c → X.s₀.heap.objs.size ≤ c
 hd : X.calm = true → X.A.handled = none
 frames : X.A.frames = some X.stack
 stk : X.stack = X.outer ∨ (X.stack = X.env :: X.outer ∧ X.env.frame = some X.env.locals)
 exf : ∀ b ∈ X.ex, b ≠ X.env.locals ∧ ∀ x c, X.env.cells.lookup x = some c → c ≠ b
 bs : ∀ b o, X.base.get? b = some o → X.s₀.heap.get? b = some o ∧ X.H₀ b = none
 bsz : X.base.objs.size ≤ X.s₀.heap.objs.size
 noex : ∀ b o, X.base.get? b = some o → b ∉ X.ex
 exfs : ∀ b ∈ X.ex, b ∉ X.fs
 fu : X.s₀.heap.FunFrames X.base X.outer
 frf : ∀ b ∈ X.fs, X.H₀ b = none
structure Inv (X : Cx) (pins : List (Addr × Obj)) (σ : List (Option V)) (H : Hp) (s : Shared) : Prop where
 ok : X.Ok
 os : s.os = X.s₀.os
 bare : AllBare s.gens
 base : Un X.fs X.ex X.H₀ H X.s₀.heap s.heap
 loc : ∃ m, s.heap.Ns X.env.locals m ∧ ∀ (i : Nat) (x : Str) (v : V), X.N[i]? = some x → σ[i]? = some (some v) → Vis X.env.scope x → ∃ u, RelV v u ∧ Look X.env s.heap m x u
 cell : ∀ x c, X.env.cells.lookup x = some c → ∃ v, s.heap.IsCell c v
 free : H X.env.locals = none
 freeC : ∀ x c, X.env.cells.lookup x = some c → H c = none
 pin : ∀ p ∈ X.pn ++ pins, s.heap.get? p.1 = some p.2 ∧ H p.1 = none ∧ p.1 ≠ X.env.locals ∧ p.1 ∉ X.fs ∧ ∀ v, p.2.data ≠ .cell v
 hok : HOk X.prog X.w H s.heap
 len : σ.length = X.N.length
section
variable {X : Cx} {pins : List (Addr × Obj)} {σ : List (Option V)} {H H' : Hp} {s : Shared} {h' : Heap}
theorem Cx.Ok.nofr (ok : X.Ok) {b : Addr} {o : Obj} (e : X.base.get? b = some o) : b ∉ X.fs := fun hb => by
 have := (ok.fu.mem hb).1
 rw [e] at this; cases this
theorem Inv.bs (I : Inv X pins σ H s) : ∀ b o, X.base.get? b = some o → s.heap.get? b = some o ∧ H b = none := fun b o e =>
 ⟨I.base.keep b o (I.ok.bs b o e).1 (I.ok.bs b o e).2 (I.ok.nofr e) (I.ok.noex b o e), I.base.free b o (I.ok.bs b o e).1 (I.ok.bs b o e).2 (I.ok.noex b o e)⟩
theorem Inv.bk (I : Inv X pins σ H s) : ∀ b o, X.base.get? b = some o → s.heap.get? b = some o := fun b o e => (I.bs b o e).1
theorem Inv.mod (I : Inv X pins σ H s) : Mod X.K X.mg X.base := I.ok.mod
theorem Inv.kIn (I : Inv X pins σ H s) : X.K.In s.heap := I.ok.mod.kin.keeps I.bk
theorem Inv.nolimit (I : Inv X pins σ H s) : s.heap.NoLimit := I.ok.mod.nolimit.keeps I.bk
theorem Inv.fr (I : Inv X pins σ H s) : ∃ m, Fr X.base X.env.locals s.heap m :=
 let ⟨m, hn, _⟩ := I.loc
 ⟨m, hn, I.bk, Nat.le_trans I.ok.bsz I.ok.above⟩
theorem Inv.lt (I : Inv X pins σ H s) : X.env.locals < s.heap.objs.size := let ⟨_, hn, _⟩ := I.loc; hn.lt
theorem Inv.sz (I : Inv X pins σ H s) : X.s₀.heap.objs.size ≤ s.heap.objs.size := Nat.le_trans I.ok.above (Nat.le_of_lt I.lt)
theorem Inv.nofs (I : Inv X pins σ H s) {a : Addr} (h : s.heap.objs.size ≤ a) : a ∉ X.fs := fun hb => by
 obtain ⟨_, o, ho, _⟩ := I.ok.fu.mem hb
 exact absurd (Nat.lt_of_lt_of_le (Heap.lt_size ho) (Nat.le_trans I.sz h)) (Nat.lt_irrefl _)
theorem Inv.cne (I : Inv X pins σ H s) : ∀ x c, X.env.cells.lookup x = some c → c ≠ X.env.locals := fun x c e z => by
 obtain ⟨v, o, ho, hd⟩ := I.cell x c e
 obtain ⟨m, ⟨o', es, ep, ho', hd', _⟩, _⟩ := I.loc
 rw [z, ho'] at ho; cases ho; rw [hd'] at hd; cases hd
theorem Inv.fu (I : Inv X pins σ H s) : s.heap.FunFrames X.base X.outer := by
 have all : ∀ (l : List Env), (∀ b ∈ frs l, b ∈ X.fs) → X.s₀.heap.FunFrames X.base l → s.heap.FunFrames X.base l := by
  intro l
  induction l with
  | nil => intro _ _; trivial
  | cons env r ih =>
   intro hs hl
   obtain ⟨hk, ⟨L, o, hf, hn, ho, hd⟩, hr⟩ := hl
   have hL : L ∈ X.fs := hs L (by unfold frs; rw [List.filterMap_cons, hf]; exact List.mem_cons_self)
   obtain ⟨sl, e⟩ := I.base.slot L o ho (I.ok.frf L hL) hL fun z => I.ok.exfs L z hL
   exact ⟨hk, ⟨L, _, hf, hn, e, hd⟩, ih (fun b hb => hs b (by unfold frs; rw [List.filterMap_cons, hf]; exact List.mem_cons_of_mem _ hb)) hr⟩
 exact all X.outer (fun _ hb => hb) I.ok.fu
theorem Inv.stack (I : Inv X pins σ H s) : s.heap.FunFrames X.base X.stack := by
 rcases I.ok.stk with e | ⟨e, hf⟩
 ·rw [e]; exact I.fu
 ·rw [e]
  obtain ⟨m, hn, _⟩ := I.loc
  refine .cons (by rw [I.ok.kind]; decide) hf hn ?_ I.fu
  exact Heap.get?_none_of_le (Nat.le_trans I.ok.bsz I.ok.above)
theorem Inv.n8 (I : Inv X pins σ H s) : ∀ b ∈ frs X.stack, b ∈ X.env.locals :: X.fs := fun b hb => by
 rcases I.ok.stk with e | ⟨e, hf⟩
 ·rw [e] at hb; exact List.mem_cons_of_mem _ hb
 ·rw [e] at hb
  unfold frs at hb
  rw [List.filterMap_cons, hf] at hb
  exact hb
theorem Inv.pW (I : Inv X pins σ H s) : ∀ b ∈ frs X.stack, H b = none := fun b hb => by
 rcases List.mem_cons.mp (I.n8 b hb) with e | hb
 ·rw [e]; exact I.free
 ·obtain ⟨_, o, ho, _⟩ := I.ok.fu.mem hb
  exact I.base.free b o ho (I.ok.frf b hb) fun z => I.ok.exfs b z hb
theorem Inv.step {g' : Array GenState} {t' : Nat} {d' : Drawn} {ch : List Addr} (I : Inv X pins σ H s)
 (hch : ∀ b ∈ ch, (b ∈ X.ex ∨ X.s₀.heap.objs.size ≤ b) ∧ b ≠ X.env.locals ∧ (∀ x c, X.env.cells.lookup x = some c → c ≠ b) ∧ ∀ p ∈ X.pn ++ pins, p.1 ≠ b)
 (keep : ∀ b o, b ≠ X.env.locals → b ∉ X.fs → b ∉ ch → s.heap.get? b = some o → H b = none → h'.get? b = some o)
 (slot : ∀ b o, b ≠ X.env.locals → b ∈ X.fs → b ∉ ch → s.heap.get? b = some o → H b = none → ∃ sl, h'.get? b = some { o with slots := sl }) (free : ∀ b o, b ∉ ch → s.heap.get? b = some o → H b = none → H' b = none)
 (there : ∀ b o, b ∉ ch → s.heap.get? b = some o → ∃ o', h'.get? b = some o')
 (tups : ∀ b xs, H b = some (.tup xs) → H' b = some (.tup xs)) (frzs : ∀ b o u, H b = some (.frz o u) → H' b = some (.frz o u)) (tbls : ∀ b ps, H b = some (.tbl ps) → ∃ more, H' b = some (.tbl (ps ++ more)))
 (ns : ∀ m, s.heap.Ns X.env.locals m → h'.Ns X.env.locals m) (hok : HOk X.prog X.w H' h') (hg : AllBare g') :
 Inv X pins σ H' { s with heap := h', gens := g', drawn := d', toks := t' } := by
 have neL : ∀ b o, X.s₀.heap.get? b = some o → b ≠ X.env.locals := fun b o e => Nat.ne_of_lt (Nat.lt_of_lt_of_le (Heap.lt_size e) I.ok.above)
 have neC : ∀ b o, X.s₀.heap.get? b = some o → b ∉ X.ex → b ∉ ch := fun b o e hx hb => by
  rcases (hch b hb).1 with z | z
  ·exact hx z
  ·exact absurd (Nat.lt_of_lt_of_le (Heap.lt_size e) z) (Nat.lt_irrefl _)
 have cellK : ∀ x c, X.env.cells.lookup x = some c → ∀ v, s.heap.IsCell c v → h'.IsCell c v := fun x c e v ⟨o, ho, hd⟩ => by
  have nch : c ∉ ch := fun z => (hch c z).2.2.1 x c e rfl
  by_cases hc : c ∈ X.fs
  ·obtain ⟨sl, q⟩ := slot c o (I.cne x c e) hc nch ho (I.freeC x c e)
   exact ⟨_, q, hd⟩
  ·exact ⟨o, keep c o (I.cne x c e) hc nch ho (I.freeC x c e), hd⟩
 refine ⟨I.ok, I.os, hg, ⟨fun b o e n hb hx => ?_, fun b o e n hb hx => ?_, fun b o e n hx => ?_, fun b o e hx => ?_, fun b xs e => tups b xs (I.base.tups b xs e), fun b o xs e => frzs b o xs (I.base.frzs b o xs e), fun b ps e => ?_⟩, ?_, fun x c e => ?_, ?_, fun x c e => ?_, fun p hp => ?_, hok, I.len⟩
 ·exact keep b o (neL b o e) hb (neC b o e hx) (I.base.keep b o e n hb hx) (I.base.free b o e n hx)
 ·obtain ⟨sl, e1⟩ := I.base.slot b o e n hb hx
  obtain ⟨sl', e2⟩ := slot b _ (neL b o e) hb (neC b o e hx) e1 (I.base.free b o e n hx)
  exact ⟨sl', e2⟩
 ·obtain ⟨o', e1⟩ := I.base.there b o e hx
  exact free b o' (neC b o e hx) e1 (I.base.free b o e n hx)
 ·obtain ⟨o', e1⟩ := I.base.there b o e hx
  exact there b o' (neC b o e hx) e1
 ·obtain ⟨m1, e1⟩ := I.base.tbls b ps e
  obtain ⟨m2, e2⟩ := tbls b _ e1
  exact ⟨m1 ++ m2, by rw [e2, Array.append_assoc]⟩
 ·obtain ⟨m, hn, hl⟩ := I.loc
  refine ⟨m, ns m hn, fun i x v e1 e2 e3 => ?_⟩
  obtain ⟨u, r, l⟩ := hl i x v e1 e2 e3
  refine ⟨u, r, ?_⟩
  rcases l with l | ⟨k, c, e, z⟩
  ·exact .inl l
  ·exact .inr ⟨k, c, e, cellK x c e _ z⟩
 ·obtain ⟨v, z⟩ := I.cell x c e
  exact ⟨v, cellK x c e v z⟩
 ·obtain ⟨m, ⟨o, _, _, ho, _⟩, _⟩ := I.loc
  exact free _ o (fun z => (hch _ z).2.1 rfl) ho I.free
 ·obtain ⟨v, o, ho, hd⟩ := I.cell x c e
  exact free c o (fun z => (hch c z).2.2.1 x c e rfl) ho (I.freeC x c e)
 ·obtain ⟨e, n, ne, nf, d⟩ := I.pin p hp
  have nch : p.1 ∉ ch := fun z => (hch p.1 z).2.2.2 p hp rfl
  exact ⟨keep p.1 p.2 ne nf nch e n, free p.1 p.2 nch e n, ne, nf, d⟩
theorem Inv.un {t' : Nat} (I : Inv X pins σ H s) (u : Un X.fs [] H H' s.heap h') (hok : HOk X.prog X.w H' h') : Inv X pins σ H' { s with heap := h', toks := t' } := by
 obtain ⟨m, ⟨o, es, ep, ho, r⟩, _⟩ := id I.loc
 obtain ⟨sl, hL⟩ := u.any ho I.free (by simp)
 exact I.step (g' := s.gens) (d' := s.drawn) (ch := []) (fun _ z => nomatch z) (fun b o _ hb _ e n => u.keep b o e n hb (by simp)) (fun b o _ hb _ e n => u.slot b o e n hb (by simp)) (fun b o _ e n => u.free b o e n (by simp)) (fun b o _ e => u.there b o e (by simp)) u.tups u.frzs u.tbls (fun m' hm => by
  obtain ⟨o', es', ep', ho', r'⟩ := hm
  rw [ho] at ho'; cases ho'
  exact ⟨_, es', ep', hL, r'⟩) hok I.bare
theorem Inv.call {g' : Array GenState} {t' : Nat} {d' : Drawn} {ch : List Addr} (I : Inv X pins σ H s) (u : Un (frs X.stack) ch H H' s.heap h') (hok : HOk X.prog X.w H' h') (hg : AllBare g')
 (hch : ∀ b ∈ ch, (b ∈ X.ex ∨ X.s₀.heap.objs.size ≤ b) ∧ b ≠ X.env.locals ∧ (∀ x c, X.env.cells.lookup x = some c → c ≠ b) ∧ ∀ p ∈ X.pn ++ pins, p.1 ≠ b) :
 Inv X pins σ H' { s with heap := h', gens := g', drawn := d', toks := t' } := by
 obtain ⟨m, ⟨o, es, ep, ho, r⟩, _⟩ := id I.loc
 obtain ⟨sl, hL⟩ := u.any ho I.free fun z => (hch _ z).2.1 rfl
 exact I.step (ch := ch) hch (fun b o hL hb hc e n => u.keep b o e n (fun z => (List.mem_cons.mp (I.n8 b z)).elim hL hb) hc) (fun b o _ _ hc e n => u.any e n hc) (fun b o hc e n => u.free b o e n hc) (fun b o hc e => u.there b o e hc) u.tups u.frzs u.tbls (fun m' hm => by
  obtain ⟨o', es', ep', ho', r'⟩ := hm
  rw [ho] at ho'; cases ho'
  exact ⟨_, es', ep', hL, r'⟩) hok hg
theorem Inv.turned {t' : Nat} {it : Addr} (I : Inv X pins σ H s) (k : ∀ b o, b ≠ it → s.heap.get? b = some o → h'.get? b = some o) (hn : H it = none) (hL : it ≠ X.env.locals)
 (h1 : it ∈ X.ex ∨ X.s₀.heap.objs.size ≤ it) (h2 : ∀ x c, X.env.cells.lookup x = some c → c ≠ it) (h3 : ∀ p ∈ X.pn ++ pins, p.1 ≠ it) : Inv X pins σ H { s with heap := h', toks := t' } := by
 have nit : ∀ b u, H b = some u → b ≠ it := fun b u e z => by rw [z, hn] at e; cases e
 refine I.step (g' := s.gens) (d' := s.drawn) (ch := [it]) (fun b hb => ?_) (fun b o _ _ hc e _ => k b o (fun z => hc (by simp [z])) e) (fun b o _ _ hc e _ => ⟨o.slots, k b o (fun z => hc (by simp [z])) e⟩) (fun _ _ _ _ n => n)
  (fun b o hc e => ⟨o, k b o (fun z => hc (by simp [z])) e⟩) (fun _ _ e => e) (fun _ _ _ e => e) (fun b ps e => ⟨#[], by rw [e]; simp⟩) (fun m hm => ?_) (fun b u e => ?_) I.bare
 ·have e : b = it := by simpa using hb
  subst e
  exact ⟨h1, hL, h2, h3⟩
 ·obtain ⟨o, es, ep, ho, r⟩ := hm
  exact ⟨o, es, ep, k _ o (Ne.symm hL) ho, r⟩
 ·refine (I.hok b u e).stay (fun c v hc q => k c v ?_ q) (fun _ q => q) fun _ _ q => q
  rcases hc with z | z
  ·rw [z]; exact nit b u e
  ·exact nit c _ z
theorem Inv.tok (I : Inv X pins σ H s) (t : Nat) : Inv X pins σ H { s with toks := t } := I.un (h' := s.heap) (t' := t) Un.refl I.hok
theorem Inv.kept {t' : Nat} (I : Inv X pins σ H s) (k : ∀ b u, s.heap.get? b = some u → h'.get? b = some u) : Inv X pins σ H { s with heap := h', toks := t' } := I.un (Un.kept k) (I.hok.kept k)
theorem Inv.laid {a : Addr} {o : HO} {t' : Nat} (I : Inv X pins σ H s) (k : ∀ b u, s.heap.get? b = some u → h'.get? b = some u) (hp : s.heap.objs.size ≤ a) (new : aJ X.prog X.w (upd H a o) h' a o) :
 Inv X pins σ (upd H a o) { s with heap := h', toks := t' } := I.un (Un.laid k hp (I.hok.fresh hp)) (I.hok.laid k hp new)
theorem Inv.write {x e : Addr} {o : HO} {t' : Nat} (I : Inv X pins σ H s) (mu : Mut (H x)) (he : e = x ∨ H e = some (.own x)) (k : ∀ b u, b ≠ e → s.heap.get? b = some u → h'.get? b = some u) (heo : ∃ u, h'.get? e = some u)
 (new : aJ X.prog X.w (upd H x o) h' x o) : Inv X pins σ (upd H x o) { s with heap := h', toks := t' } := I.un (Un.write mu he k heo) (I.hok.write mu he k heo new)
theorem Inv.weak {σ' : List (Option V)} (I : Inv X pins σ H s) (hl : σ'.length = σ.length) (w : ∀ (i : Nat) v, σ'[i]? = some (some v) → σ[i]? = some (some v)) : Inv X pins σ' H s :=
 ⟨I.ok, I.os, I.bare, I.base, let ⟨m, hn, hl'⟩ := I.loc; ⟨m, hn, fun i x v e1 e2 e3 => hl' i x v e1 (w i v e2) e3⟩, I.cell, I.free, I.freeC, I.pin, I.hok, hl.trans I.len⟩
theorem Inv.pX {pins' : List (Addr × Obj)} (I : Inv X pins σ H s) (h : ∀ p ∈ pins', s.heap.get? p.1 = some p.2 ∧ H p.1 = none ∧ p.1 ≠ X.env.locals ∧ p.1 ∉ X.fs ∧ ∀ v, p.2.data ≠ .cell v) : Inv X pins' σ H s :=
 ⟨I.ok, I.os, I.bare, I.base, I.loc, I.cell, I.free, I.freeC, fun p hp => (List.mem_append.mp hp).elim (fun z => I.pin p (List.mem_append_left _ z)) (h p), I.hok, I.len⟩
theorem lR {N : List Str} (hN : N.Nodup) {i j : Nat} {x : Str} (a : N[i]? = some x) (b : N[j]? = some x) : i = j := by
 obtain ⟨h1, e1⟩ := List.getElem?_eq_some_iff.mp a
 obtain ⟨h2, e2⟩ := List.getElem?_eq_some_iff.mp b
 exact (List.getElem_inj hN).mp (e1.trans e2.symm)
theorem rj {M : Model} {A : Around} {E : Value → Shared → Prop} {i : Nat} {x : Str} {v : V} {u : Value} {Q : Unit → Shared → Prop} (I : Inv X pins σ H s) (hN : X.N.Nodup) (hi : X.N[i]? = some x) (hx : Loc X.env.scope x) (r : RelV v u)
 (h : ∀ s', Inv X pins (σ.set i (some v)) H s' → (∃ a, Heap.SameBut a s.heap s'.heap ∧ (a = X.env.locals ∨ X.env.cells.lookup x = some a)) → Q () s') (hf : X.fn x = true ∨ X.env.scope.names.lookup x = some .local := by first | exact .inl rfl | exact .inr rfl | assumption) : wpAny M A (storeName X.env x u) Q E s := by
 obtain ⟨m, hn, hl⟩ := id I.loc
 have hcls : (X.env.scope.kind == .class || (X.env.scope.kind == .module && X.env.locals != X.env.globals)) = false := by rw [I.ok.kind]; rfl
 have hiσ : i < σ.length := by rw [I.len]; exact (List.getElem?_eq_some_iff.mp hi).1
 have cne := I.cne
 have tracked : ∀ {a : Addr} {h' : Heap}, (∃ o, s.heap.get? a = some o ∧ H a = none) → Heap.SameBut a s.heap h' → HOk X.prog X.w H h' := fun {a h'} ha hs b ob e => by
  obtain ⟨_, _, hfree⟩ := ha
  refine (I.hok b ob e).stay (fun c w' hc q => (hs.2 c ?_).trans q) (fun _ q => q) fun _ _ q => q
  rintro rfl
  rcases hc with rfl | hc
  ·rw [hfree] at e; cases e
  ·rw [hfree] at hc; cases hc
 rcases hx with hk | hk
 ·refine wpAny_storeName_local hk hn (fun h' hn' hs => ?_) hcls
  obtain ⟨oL, _, _, hoL, _⟩ := id hn
  refine h _ ⟨I.ok, I.os, I.bare, ⟨fun b o e n hb hx => ?_, fun b o e n hb hx => ?_, I.base.free, fun b o e hx => ?_, I.base.tups, I.base.frzs, I.base.tbls⟩, ⟨_, hn', fun j y v' e1 e2 e3 => ?_⟩, fun y c e => ?_, I.free, I.freeC, fun p hp => ?_, tracked ⟨oL, hoL, I.free⟩ hs, by simpa using I.len⟩ ⟨_, hs, .inl rfl⟩
  ·exact (hs.2 b (Nat.ne_of_lt (Nat.lt_of_lt_of_le (Heap.lt_size e) I.ok.above))).trans (I.base.keep b o e n hb hx)
  ·obtain ⟨sl, e1⟩ := I.base.slot b o e n hb hx
   exact ⟨sl, (hs.2 b (Nat.ne_of_lt (Nat.lt_of_lt_of_le (Heap.lt_size e) I.ok.above))).trans e1⟩
  ·obtain ⟨o', e1⟩ := I.base.there b o e hx
   exact ⟨o', (hs.2 b (Nat.ne_of_lt (Nat.lt_of_lt_of_le (Heap.lt_size e) I.ok.above))).trans e1⟩
  ·by_cases hj : j = i
   ·subst hj
    rw [hi] at e1; cases e1
    rw [List.getElem?_set_self hiσ] at e2
    cases e2
    exact ⟨u, r, .inl ⟨hk, by simp⟩⟩
   ·rw [List.getElem?_set_ne (Ne.symm hj)] at e2
    obtain ⟨u', r', q⟩ := hl j y v' e1 e2 e3
    refine ⟨u', r', ?_⟩
    rcases q with ⟨k, e⟩ | ⟨k, c, e, z⟩
    ·refine .inl ⟨k, ?_⟩
     have : y ≠ x := fun e => hj (lR hN e1 (e ▸ hi))
     simp [this, e]
    ·exact .inr ⟨k, c, e, z.sameBut hs (cne y c e)⟩
  ·obtain ⟨w', z⟩ := I.cell y c e
   exact ⟨w', z.sameBut hs (cne y c e)⟩
  ·obtain ⟨e, n, ne, nf, d⟩ := I.pin p hp
   exact ⟨(hs.2 p.1 ne).trans e, n, ne, nf, d⟩
 ·have hfn : X.fn x = true := by
   rcases hf with z | z
   ·exact z
   ·rw [z] at hk; cases hk
  obtain ⟨c, hc⟩ := I.ok.has x (.inl hk)
  obtain ⟨w', z⟩ := I.cell x c hc
  refine wpAny_storeName_cell I.ok.kind hk hc z (fun h' hc' hs => ?_)
  obtain ⟨oc, hoc, hocd⟩ := id z
  refine h { s with heap := h' } ⟨I.ok, I.os, I.bare, ⟨fun b o e n hb hx => ?_, fun b o e n hb hx => ?_, I.base.free, fun b o e hx => ?_, I.base.tups, I.base.frzs, I.base.tbls⟩, ⟨m, hn.sameBut hs (Ne.symm (cne x c hc)), fun j y v' e1 e2 e3 => ?_⟩, fun y c' e => ?_, I.free, I.freeC, fun p hp => ?_, tracked ⟨oc, hoc, I.freeC x c hc⟩ hs, by simpa using I.len⟩ ⟨c, hs, .inr hc⟩
  ·exact (hs.2 b (Nat.ne_of_lt (Nat.lt_of_lt_of_le (Heap.lt_size e) (I.ok.cab x c hfn hc)))).trans (I.base.keep b o e n hb hx)
  ·obtain ⟨sl, e1⟩ := I.base.slot b o e n hb hx
   exact ⟨sl, (hs.2 b (Nat.ne_of_lt (Nat.lt_of_lt_of_le (Heap.lt_size e) (I.ok.cab x c hfn hc)))).trans e1⟩
  ·obtain ⟨o', e1⟩ := I.base.there b o e hx
   exact ⟨o', (hs.2 b (Nat.ne_of_lt (Nat.lt_of_lt_of_le (Heap.lt_size e) (I.ok.cab x c hfn hc)))).trans e1⟩
  ·by_cases hj : j = i
   ·subst hj
    rw [hi] at e1; cases e1
    rw [List.getElem?_set_self hiσ] at e2
    cases e2
    exact ⟨u, r, .inr ⟨.inl hk, c, hc, hc'⟩⟩
   ·rw [List.getElem?_set_ne (Ne.symm hj)] at e2
    obtain ⟨u', r', q⟩ := hl j y v' e1 e2 e3
    refine ⟨u', r', ?_⟩
    rcases q with q | ⟨k, c', e, z'⟩
    ·exact .inl q
    ·refine .inr ⟨k, c', e, z'.sameBut hs ?_⟩
     rintro rfl
     exact hj (lR hN e1 (I.ok.inj _ _ _ e hc ▸ hi))
  ·by_cases hcc : c' = c
   ·subst hcc; exact ⟨_, hc'⟩
   ·obtain ⟨w2, z2⟩ := I.cell y c' e
    exact ⟨w2, z2.sameBut hs hcc⟩
  ·obtain ⟨e, n, ne, nf, d⟩ := I.pin p hp
   refine ⟨(hs.2 p.1 ?_).trans e, n, ne, nf, d⟩
   intro q
   rw [q, hoc] at e
   have q' : oc = p.2 := Option.some.inj e
   exact d w' (by rw [← q']; exact hocd)
theorem iD {M : Model} {A : Around} {E : Value → Shared → Prop} {i : Nat} {x : Str} {v : V} {u : Value} {Q : Unit → Shared → Prop} (I : Inv X pins σ H s) (hN : X.N.Nodup) (hi : X.N[i]? = some x) (hx : Loc X.env.scope x) (r : RelV v u)
 (h : ∀ s', Inv X pins (σ.set i (some v)) H s' → Q () s') (hf : X.fn x = true ∨ X.env.scope.names.lookup x = some .local := by first | exact .inl rfl | exact .inr rfl | assumption) : wpAny M A (storeName X.env x u) Q E s :=
 rj I hN hi hx r (fun s' I' _ => h s' I') hf
theorem Inv.zj {s' : Shared} {ch : List Addr} (I : Inv X pins σ H s) (ho : s'.os = s.os) (u : Un (frs X.stack) ch H H' s.heap s'.heap) (hok : HOk X.prog X.w H' s'.heap) (hg : AllBare s'.gens)
 (hch : ∀ b ∈ ch, (b ∈ X.ex ∨ X.s₀.heap.objs.size ≤ b) ∧ b ≠ X.env.locals ∧ (∀ x c, X.env.cells.lookup x = some c → c ≠ b) ∧ ∀ p ∈ X.pn ++ pins, p.1 ≠ b) : Inv X pins σ H' s' := by
 obtain ⟨h', g', d', t', o'⟩ := s'
 have e : o' = s.os := ho
 subst e
 exact I.call (g' := g') (t' := t') (d' := d') u hok hg hch
end
abbrev XK := Value → Option Addr → Hp → Prop
abbrev St := List (Option V)
abbrev VK := V → Hp → Prop
abbrev TE := St → Hp → VK → Prop
abbrev TT := St → Hp → (Bool → Hp → Prop) → Prop
abbrev TA := St → Hp → (List V → Hp → Prop) → Prop
structure Ends where
 nx : St → Hp → Prop
 rt : VK
 bk : St → Hp → Prop := fun _ _ => False
 ct : St → Hp → Prop := fun _ _ => False
abbrev TS := Ends → St → Hp → Prop
def EP (X : Cx) (pins : List (Addr × Obj)) (σ : St) (Q : VK) (u : Value) (s' : Shared) : Prop := ∃ v H', Inv X pins σ H' s' ∧ RelV v u ∧ Q v H'
def TP (X : Cx) (pins : List (Addr × Obj)) (σ : St) (Q : Bool → Hp → Prop) (b : Bool) (s' : Shared) : Prop := ∃ H', Inv X pins σ H' s' ∧ Q b H'
def AP (X : Cx) (pins : List (Addr × Obj)) (σ : St) (Q : List V → Hp → Prop) (us : List Value) (s' : Shared) : Prop := ∃ vs H', Inv X pins σ H' s' ∧ Vals vs us ∧ Q vs H'
def SP (X : Cx) (pins : List (Addr × Obj)) (D : Ends) (f : Flow) (s' : Shared) : Prop :=
 match f with
 | .next => ∃ σ' H', Inv X pins σ' H' s' ∧ D.nx σ' H'
 | .brk => ∃ σ' H', Inv X pins σ' H' s' ∧ D.bk σ' H'
 | .cont => ∃ σ' H', Inv X pins σ' H' s' ∧ D.ct σ' H'
 | .ret u => ∃ v σ' H', Inv X pins σ' H' s' ∧ RelV v u ∧ D.rt v H'
def PE (X : Cx) (e : Expr) (t : TE) : Prop :=
 ∀ (pins : List (Addr × Obj)) (s : Shared) (σ : St) (H : Hp) (Q : VK), Inv X pins σ H s → t σ H Q → wpAny (model X.prog X.w) X.A (eval e X.env) (EP X pins σ Q) X.xe s
def PT (X : Cx) (e : Expr) (t : TT) : Prop :=
 ∀ (pins : List (Addr × Obj)) (s : Shared) (σ : St) (H : Hp) (Q : Bool → Hp → Prop), Inv X pins σ H s → t σ H Q → wpAny (model X.prog X.w) X.A (isTrue e X.env (eval e X.env)) (TP X pins σ Q) X.xe s
def PW (X : Cx) (e : Expr) (t : TT) : Prop :=
 ∀ (whole : Sem Value) (pins : List (Addr × Obj)) (s : Shared) (σ : St) (H : Hp) (Q : Bool → Hp → Prop), Inv X pins σ H s → t σ H Q → wpAny (model X.prog X.w) X.A (isTrue e X.env whole) (TP X pins σ Q) X.xe s
theorem PW.pt {X : Cx} {e : Expr} {t : TT} (h : PW X e t) : PT X e t := h _
def PA (X : Cx) (es : List Expr) (t : TA) : Prop :=
 ∀ (pos : Pos) (pins : List (Addr × Obj)) (s : Shared) (σ : St) (H : Hp) (Q : List V → Hp → Prop), Inv X pins σ H s → t σ H Q → wpAny (model X.prog X.w) X.A (spliced (backTo pos (starEach es X.env))) (AP X pins σ Q) X.xe s
def PS (X : Cx) (st : Stmt) (t : TS) : Prop :=
 ∀ (pins : List (Addr × Obj)) (s : Shared) (σ : St) (H : Hp) (D : Ends), Inv X pins σ H s → t D σ H → wpAny (model X.prog X.w) X.A (exec st X.env) (SP X pins D) X.xe s
def PSs (X : Cx) (st : List Stmt) (t : TS) : Prop :=
 ∀ (pins : List (Addr × Obj)) (s : Shared) (σ : St) (H : Hp) (D : Ends), Inv X pins σ H s → t D σ H → wpAny (model X.prog X.w) X.A (execs st X.env) (SP X pins D) X.xe s
theorem thn {α : Type} {t : Sem α} {Q Q' : α → Shared → Prop} {M : Model} {A : Around} {E : Value → Shared → Prop} {s : Shared} (h : wpAny M A t Q E s) (hQ : ∀ a s, Q a s → Q' a s) : wpAny M A t Q' E s := wpAny_mono h hQ fun _ _ x => x
end L2
namespace L2
open PySem PySem.Spec PyProof.Rows
section
variable {X : Cx}
def tVar (i : Nat) : TE := fun σ H Q => ∃ v, σ[i]? = some (some v) ∧ Q v H
def tC (v : V) : TE := fun _ H Q => Q v H
theorem n9 {i : Nat} {x : Str} {pos : Pos} (hN : X.N[i]? = some x) (hv : Vis X.env.scope x) (hd : (x == ("__debug__" : Str)) = false := by decide) (hcd : (x == ("__classdict__" : Str)) = false := by decide) : PE X (.Name x pos) (tVar i) := by
 intro pins s σ H Q I h
 obtain ⟨v, e, h⟩ := h
 obtain ⟨m, hn, hl⟩ := I.loc
 obtain ⟨u, r, l⟩ := hl i x v hN e hv
 have fin : EP X pins σ Q u s := ⟨v, H, I, r, h⟩
 rcases l with ⟨hk, hm⟩ | ⟨hk, c, hc, hcell⟩
 ·exact wpAny_Name (wpAny_loadName_local I.ok.kind hk hn hm fin) hd
 ·rcases hk with hk | hk
  ·exact wpAny_Name (wpAny_loadName_cell I.ok.kind hk hc hcell fin) hd
  ·exact wpAny_Name (wpAny_loadName_free I.ok.kind hk hc hcell fin hcd) hd
theorem zJ {i j pos} : PE X (.Constant (.int i) j pos) (tC (.int i)) := fun _ _ _ H _ I h => wpAny_Constant_int ⟨.int i, H, I.tok _, ⟨_, rfl⟩, h⟩
theorem pY {b j pos} : PE X (.Constant (.bool b) j pos) (tC (.bl b)) := fun _ _ _ H _ I h => Constant_bool ⟨.bl b, H, I, rfl, h⟩
def Gl (X : Cx) (x : Str) : Prop := X.env.kindOf x = some .globalImplicit
theorem gZ {E : Value → Shared → Prop} {pins : List (Addr × Obj)} {s : Shared} {σ : St} {H : Hp} {x : Str} {u : Value} {pos : Pos} {Q : Value → Shared → Prop} (I : Inv X pins σ H s) (hg : Gl X x) (hm : X.mg x = some u) (h : Q u s)
 (hd : (x == ("__debug__" : Str)) = false := by decide) : wpAny (model X.prog X.w) X.A (eval (.Name x pos) X.env) Q E s :=
 Calls.Name_function_global I.ok.kind hg (Calls.loadGlobal_global (by rw [I.ok.glob]; exact I.mod.glob.keeps I.bk) hm h) hd
theorem ck {E : Value → Shared → Prop} {pins : List (Addr × Obj)} {s : Shared} {σ : St} {H : Hp} {x : Str} {u : Value} {pos : Pos} {Q : Value → Shared → Prop} (I : Inv X pins σ H s) (hg : Gl X x) (hm : X.mg x = none) (hv : bootBuiltins x = some u) (h : Q u s)
 (hn : x ≠ "__name__" := by decide) (hd : (x == ("__debug__" : Str)) = false := by decide) : wpAny (model X.prog X.w) X.A (eval (.Name x pos) X.env) Q E s := by
 obtain ⟨mb, h1, h2⟩ := I.mod.blt
 exact Calls.Name_function_global I.ok.kind hg (Calls.loadGlobal_builtin (by rw [I.ok.glob]; exact I.mod.glob.keeps I.bk) hm (by rw [I.ok.blt]; exact h1.keeps I.bk) ((h2 x hn).trans hv) h) hd
theorem w6 {x : Str} {v : V} {u : Value} {pos : Pos} (hg : Gl X x) (hm : X.mg x = some u) (r : RelV v u) (hd : (x == ("__debug__" : Str)) = false := by decide) : PE X (.Name x pos) (tC v) :=
 fun _ _ _ H _ I h => gZ I hg hm ⟨v, H, I, r, h⟩ hd
variable {a b : Expr} {ta tb : TE} {pos : Pos}
def PC (X : Cx) (op : CmpOp) (a b : Expr) (t : TE) : Prop :=
 ∀ (pins : List (Addr × Obj)) (s : Shared) (σ : St) (H : Hp) (Q : VK), Inv X pins σ H s → t σ H Q →
  wpAny (model X.prog X.w) X.A (eval a X.env) (fun v s₁ => wpAny (model X.prog X.w) X.A (eval b X.env) (fun u s₂ => wpAny (model X.prog X.w) X.A (compareOp op v u) (EP X pins σ Q) X.xe s₂) X.xe s₁) X.xe s
theorem tH (b : Expr) {op : CmpOp} (h : op ≠ .In) (h2 : op ≠ .NotIn) : behindInMarks op b = false := by
 have e1 : (op == CmpOp.In) = false := by cases op <;> first | rfl | exact absurd rfl h
 have e2 : (op == CmpOp.NotIn) = false := by cases op <;> first | rfl | exact absurd rfl h2
 cases b <;> simp [behindInMarks, e1, e2]
def tB (t : TE) : TT := fun σ H Q => t σ H fun x H1 => ∃ c, x = .bl c ∧ Q c H1
theorem zK {op : CmpOp} {t : TE} (h : PC X op a b t) (h1 : behindInMarks op b = false := by first | exact tH _ (by decide) (by decide) | rfl) : PT X (.Compare a [op] [b] pos) (tB t) := by
 intro pins s σ H Q I hw
 refine wpAny_isTrue_Compare1 (thn (h pins s σ H _ I hw) fun v s1 h1 => thn h1 fun u s2 h2 => thn h2 fun c s3 ⟨x, H1, I1, r1, q1⟩ => ?_) h1
 obtain ⟨d, rfl, q⟩ := q1
 cases r1
 exact wpAny_truthy_bool ⟨H1, I1, q⟩
theorem zL {e : Expr} {t : TE} (h : PE X e t) (he : ∀ whole, isTrue e X.env whole = (do let v ← whole; standAt e.pos; holding [v] (truthy v)) := by intro _; rfl) : PT X e (tB t) := by
 intro pins s σ H Q I hw
 refine isTrue_plain (thn (h pins s σ H _ I hw) fun v s1 ⟨x, H1, I1, r1, q1⟩ => ?_) (he _)
 obtain ⟨d, rfl, q⟩ := q1
 cases r1
 exact wpAny_truthy_bool ⟨H1, I1, q⟩
variable {tA tB' : TT} {rest : List Expr}
def tAnd (t u : TT) : TT := fun σ H Q => t σ H fun c H1 => if c = true then u σ H1 Q else Q false H1
def tOr (t u : TT) : TT := fun σ H Q => t σ H fun c H1 => if c = true then Q true H1 else u σ H1 Q
def tNot (t : TT) : TT := fun σ H Q => t σ H fun c H1 => Q (!c) H1
theorem pw_and1 (ha : PT X a tA) : PW X (.BoolOp .And [a] pos) tA := by
 intro wh pins s σ H Q I h
 refine isTrue_and (thn (ha pins s σ H Q I h) fun c s1 e => ?_)
 cases c with
 | true => exact isTrue_and_nil e
 | false => exact e
theorem pw_or1 (ha : PT X a tA) : PW X (.BoolOp .Or [a] pos) tA := by
 intro wh pins s σ H Q I h
 refine isTrue_or (thn (ha pins s σ H Q I h) fun c s1 e => ?_)
 cases c with
 | false => exact isTrue_or_nil e
 | true => exact e
theorem pw_and (ha : PT X a tA) (hb : PW X (.BoolOp .And (b :: rest) pos) tB') : PW X (.BoolOp .And (a :: b :: rest) pos) (tAnd tA tB') := by
 intro wh pins s σ H Q I h
 refine isTrue_and (thn (ha pins s σ H _ I h) fun c s1 ⟨H1, I1, q1⟩ => ?_)
 cases c with
 | true => exact hb wh pins s1 σ H1 Q I1 q1
 | false => exact ⟨H1, I1, q1⟩
theorem pw_or (ha : PT X a tA) (hb : PW X (.BoolOp .Or (b :: rest) pos) tB') : PW X (.BoolOp .Or (a :: b :: rest) pos) (tOr tA tB') := by
 intro wh pins s σ H Q I h
 refine isTrue_or (thn (ha pins s σ H _ I h) fun c s1 ⟨H1, I1, q1⟩ => ?_)
 cases c with
 | true => exact ⟨H1, I1, q1⟩
 | false => exact hb wh pins s1 σ H1 Q I1 q1
theorem zM (ha : PT X a tA) : PT X (.UnaryOp .Not a pos) (tNot tA) := by
 intro pins s σ H Q I h
 exact isTrue_not (ha pins s σ H (fun c H1 => Q (!c) H1) I h)
def tAndV (ta tb : TE) : TE := fun σ H Q => ta σ H fun x H1 => ∃ c, x = .bl c ∧ if c = true then tb σ H1 Q else Q (.bl false) H1
def tNotV (ta : TE) : TE := fun σ H Q => ta σ H fun x H1 => ∃ c, x = .bl c ∧ Q (.bl (!c)) H1
theorem zN {op} {t : TE} (h : PE X a t) : PE X (.BoolOp op [a] pos) t := fun pins s σ H Q I hw => BoolOp_one (h pins s σ H Q I hw)
theorem zO (ha : PE X a ta) (hb : PE X (.BoolOp .And (b :: rest) pos) tb) : PE X (.BoolOp .And (a :: b :: rest) pos) (tAndV ta tb) := by
 intro pins s σ H Q I h
 refine BoolOp_and (thn (ha pins s σ H _ I h) fun v s1 ⟨x, H1, I1, r1, q1⟩ => ?_)
 obtain ⟨c, rfl, q1⟩ := q1
 cases r1
 refine wpAny_truthy_bool ?_
 cases c with
 | true => exact hb pins s1 σ H1 Q I1 q1
 | false => exact ⟨.bl false, H1, I1, rfl, q1⟩
theorem zP (ha : PE X a ta) : PE X (.UnaryOp .Not a pos) (tNotV ta) := by
 intro pins s σ H Q I h
 refine UnaryOp_ (thn (ha pins s σ H _ I h) fun v s1 ⟨x, H1, I1, r1, q1⟩ => ?_)
 obtain ⟨c, rfl, q1⟩ := q1
 cases r1
 exact not_of (wpAny_truthy_bool ⟨.bl (!c), H1, I1, rfl, q1⟩)
end
end L2
namespace L2
open PySem PySem.Spec PyProof.Rows
def SqL (K : PySem.W.Frag) (H : Hp) (a : Addr) (xs : List V) : Prop :=
 Rd H a (.lst xs) ∨
  ∃ (o : Obj) (its : Array Value) (n : Nat), K.lookup a = some o ∧ o.cls = .type "list" ∧ o.dict = none ∧ o.data = .seq its n ∧ its.size ≤ sizeLine ∧ Vals xs its.toList
def SqT (K : PySem.W.Frag) (H : Hp) (a : Addr) (xs : List V) : Prop :=
 Rd H a (.tup xs) ∨
  ∃ (o : Obj) (its : Array Value) (n : Nat), K.lookup a = some o ∧ o.cls = .type "tuple" ∧ o.data = .seq its n ∧ its.size ≤ sizeLine ∧ Vals xs its.toList
def absV : Value → Option V
 | .none => some .non
 | .bool b => some (.bl b)
 | .int i _ => some (.int i)
 | .str x _ => some (.str x)
 | .bytes b _ => some (.byt b)
 | .float b _ => some (.flt b)
 | .ref a => some (.ref a)
 | .type n => some (.ty n)
 | _ => none
theorem RelV.abs {x : V} {u : Value} (r : RelV x u) : absV u = some x := by
 cases x with
 | non => cases r; rfl
 | bl _ => cases r; rfl
 | int _ => obtain ⟨t, rfl⟩ := r; rfl
 | str _ => obtain ⟨t, rfl⟩ := r; rfl
 | byt _ => obtain ⟨t, rfl⟩ := r; rfl
 | flt _ => obtain ⟨t, rfl⟩ := r; rfl
 | ref _ => cases r; rfl
 | ty _ => cases r; rfl
theorem RelV.inj {x y : V} {u : Value} (r : RelV x u) (q : RelV y u) : x = y := Option.some.inj (r.abs.symm.trans q.abs)
theorem Vals.inj : ∀ {xs ys : List V} {us : List Value}, Vals xs us → Vals ys us → xs = ys
 | _, _, _, .nil, .nil => rfl
 | _, _, _, .cons r t, .cons r' t' => by rw [r.inj r', Vals.inj t t']
section
variable {X : Cx} {pins : List (Addr × Obj)} {σ : St} {H : Hp} {s : Shared} {a : Addr} {xs ys : List V}
theorem SqL.of {K : PySem.W.Frag} (h : H a = some (.lst xs)) : SqL K H a xs := .inl (.inl h)
theorem SqT.of {K : PySem.W.Frag} (h : H a = some (.tup xs)) : SqT K H a xs := .inl (.inl h)
theorem Inv.list (I : Inv X pins σ H s) (h : SqL X.K H a xs) : ∃ its : List Value, Vals xs its ∧ PlainL s.heap a its.toArray ∧ xs.length ≤ sizeLine := by
 rcases h with h | ⟨o, its, n, hk, hc, hd, hs, hz, r⟩
 ·obtain ⟨z, its, n, r, e⟩ := h.ok I.hok
  exact ⟨its, r, ⟨_, n, e, rfl, rfl, rfl⟩, z⟩
 ·refine ⟨its.toList, r, ⟨o, n, I.kIn a o hk, hc, hd, by simpa using hs⟩, ?_⟩
  have e := r.length
  simp only [Array.length_toList] at e
  omega
theorem Inv.tuple (I : Inv X pins σ H s) (h : SqT X.K H a xs) : ∃ its : List Value, Vals xs its ∧ IsTup s.heap a its.toArray ∧ xs.length ≤ sizeLine := by
 rcases h with h | ⟨o, its, n, hk, hc, hs, hz, r⟩
 ·obtain ⟨z, its, r, p⟩ := h.ok I.hok
  exact ⟨its, r, p, z⟩
 ·refine ⟨its.toList, r, ⟨o, I.kIn a o hk, hc, n, by simpa using hs⟩, ?_⟩
  have e := r.length
  simp only [Array.length_toList] at e
  omega
theorem Inv.fy (I : Inv X pins σ H s) (h : SqL X.K H a xs) (h' : SqL X.K H a ys) : xs = ys := by
 obtain ⟨its, r, ⟨o, n, e, _, _, d⟩, _⟩ := I.list h
 obtain ⟨its', r', ⟨o', n', e', _, _, d'⟩, _⟩ := I.list h'
 rw [e] at e'; cases e'
 rw [d] at d'
 injection d' with d1 _
 have : its = its' := by simpa using congrArg Array.toList d1
 subst this
 exact r.inj r'
theorem Inv.gm (I : Inv X pins σ H s) (h : SqT X.K H a xs) (h' : SqT X.K H a ys) : xs = ys := by
 obtain ⟨its, r, ⟨o, e, _, n, d⟩, _⟩ := I.tuple h
 obtain ⟨its', r', ⟨o', e', _, n', d'⟩, _⟩ := I.tuple h'
 rw [e] at e'; cases e'
 rw [d] at d'
 injection d' with d1 _
 have : its = its' := by simpa using congrArg Array.toList d1
 subst this
 exact r.inj r'
end
abbrev Cx.gQ (X : Cx) (E : Value → Shared → Prop) : Cx := { X with xe := E }
abbrev Cx.nox (X : Cx) : Cx := X.gQ fun _ _ => False
theorem Cx.Ok.gQ {X : Cx} (ok : X.Ok) (E : Value → Shared → Prop) : (X.gQ E).Ok :=
 ⟨ok.mod, ok.kind, ok.glob, ok.blt, ok.above, ok.inj, ok.has, ok.cab, ok.hd, ok.frames, ok.stk, ok.exf, ok.bs, ok.bsz, ok.noex, ok.exfs, ok.fu, ok.frf⟩
theorem Cx.Ok.cu {X : Cx} {E : Value → Shared → Prop} (ok : (X.gQ E).Ok) : X.Ok :=
 ⟨ok.mod, ok.kind, ok.glob, ok.blt, ok.above, ok.inj, ok.has, ok.cab, ok.hd, ok.frames, ok.stk, ok.exf, ok.bs, ok.bsz, ok.noex, ok.exfs, ok.fu, ok.frf⟩
section
variable {X : Cx} {pins : List (Addr × Obj)} {σ : St} {H : Hp} {s : Shared} {E : Value → Shared → Prop}
theorem Inv.gQ (I : Inv X pins σ H s) (E : Value → Shared → Prop) : Inv (X.gQ E) pins σ H s := ⟨I.ok.gQ E, I.os, I.bare, I.base, I.loc, I.cell, I.free, I.freeC, I.pin, I.hok, I.len⟩
theorem Inv.cu (I : Inv (X.gQ E) pins σ H s) : Inv X pins σ H s := ⟨I.ok.cu, I.os, I.bare, I.base, I.loc, I.cell, I.free, I.freeC, I.pin, I.hok, I.len⟩
theorem SP.cu {D : Ends} {f : Flow} {s' : Shared} (h : SP (X.gQ E) pins D f s') : SP X pins D f s' := by
 cases f with
 | next => obtain ⟨σ', H', I, q⟩ := h; exact ⟨σ', H', I.cu, q⟩
 | brk => obtain ⟨σ', H', I, q⟩ := h; exact ⟨σ', H', I.cu, q⟩
 | cont => obtain ⟨σ', H', I, q⟩ := h; exact ⟨σ', H', I.cu, q⟩
 | ret u => obtain ⟨v, σ', H', I, r, q⟩ := h; exact ⟨v, σ', H', I.cu, r, q⟩
theorem PE.nox {e : Expr} {t : TE} (h : PE X.nox e t) : PE X e t := fun pins s σ H Q I hw =>
 wpAny_mono (h pins s σ H Q (I.gQ _) hw) (fun _ _ ⟨v, H', I', r, q⟩ => ⟨v, H', I'.cu, r, q⟩) fun _ _ z => False.elim z
theorem PT.nox {e : Expr} {t : TT} (h : PT X.nox e t) : PT X e t := fun pins s σ H Q I hw =>
 wpAny_mono (h pins s σ H Q (I.gQ _) hw) (fun _ _ ⟨H', I', q⟩ => ⟨H', I'.cu, q⟩) fun _ _ z => False.elim z
theorem PSs.nox {st : List Stmt} {t : TS} (h : PSs X.nox st t) : PSs X st t := fun pins s σ H D I hw =>
 wpAny_mono (h pins s σ H D (I.gQ _) hw) (fun _ _ q => q.cu) fun _ _ z => False.elim z
end
section
variable {X : Cx} {st : Stmt} {rest : List Stmt} {t u : TS} {e : Expr} {te : TE} {pos : Pos}
def tNext : TS := fun D σ H => D.nx σ H
def tSeq (t u : TS) : TS := fun D σ H => t { D with nx := u D } σ H
theorem w9 : PSs X [] tNext := fun _ _ σ H _ I h => wpAny_execs_nil ⟨σ, H, I, h⟩
theorem tK (h1 : PS X st t) (h2 : PSs X rest u) : PSs X (st :: rest) (tSeq t u) := by
 intro pins s σ H D I h
 refine wpAny_execs_cons (thn (h1 pins s σ H { D with nx := u D } I h) fun f s1 q => ?_)
 cases f with
 | next =>
  obtain ⟨σ', H', I', q⟩ := q
  exact h2 pins s1 σ' H' D I' q
 | ret v => exact q
 | brk => exact q
 | cont => exact q
theorem Inv.quiet {pins : List (Addr × Obj)} {σ : St} {H : Hp} {s : Shared} (I : Inv X pins σ H s) : interactive X.env = false := by simp [interactive, I.ok.kind]
def tDrop (te : TE) : TS := fun D σ H => te σ H fun _ H1 => D.nx σ H1
theorem g6 (he : PE X e te) (hs : swapsWith e none pos.line X.env = pure false := by rfl) : PS X (.Expr e pos) (tDrop te) := by
 intro pins s σ H D I h
 exact wpAny_Expr_any (thn (he pins s σ H _ I h) fun v s1 ⟨x, H1, I1, r1, q1⟩ => ⟨σ, H1, I1, q1⟩) I.quiet hs
def tRet (te : TE) : TS := fun D σ H => te σ H D.rt
theorem tL (he : PE X e te) : PS X (.Return (some e) pos) (tRet te) := by
 intro pins s σ H D I h
 exact wpAny_Return_some (thn (he pins s σ H _ I h) fun v s1 ⟨x, H1, I1, r1, q1⟩ => ⟨x, σ, H1, I1, r1, q1⟩)
def tIfS (c : TT) (t u : TS) : TS := fun D σ H => c σ H fun b H1 => if b = true then t D σ H1 else u D σ H1
theorem ps_if {c : Expr} {a b : List Stmt} {tc : TT} (hc : PT X c tc) (ha : PSs X a t) (hb : PSs X b u) : PS X (.If c a b pos) (tIfS tc t u) := by
 intro pins s σ H D I h
 refine wpAny_If (thn (hc pins s σ H _ I h) fun d s1 ⟨H1, I1, q1⟩ => ?_)
 cases d with
 | true => exact ha pins s1 σ H1 D I1 q1
 | false => exact hb pins s1 σ H1 D I1 q1
end
abbrev TG := V → St → Hp → (St → Hp → Prop) → Prop
abbrev TGs := List V → St → Hp → (St → Hp → Prop) → Prop
def PG (X : Cx) (target : Expr) (t : TG) : Prop :=
 ∀ (pins : List (Addr × Obj)) (s : Shared) (σ : St) (H : Hp) (v : V) (u : Value) (Q : St → Hp → Prop), Inv X pins σ H s → RelV v u → t v σ H Q →
  wpAny (model X.prog X.w) X.A (assign target X.env u) (fun _ s' => ∃ σ' H', Inv X pins σ' H' s' ∧ Q σ' H') X.xe s
def PGs (X : Cx) (ts : List Expr) (t : TGs) : Prop :=
 ∀ (pins : List (Addr × Obj)) (s : Shared) (σ : St) (H : Hp) (vs : List V) (us : List Value) (Q : St → Hp → Prop), Inv X pins σ H s → Vals vs us → t vs σ H Q →
  wpAny (model X.prog X.w) X.A (assignInOrder ((assignEach ts X.env).map (·.2)) us) (fun _ s' => ∃ σ' H', Inv X pins σ' H' s' ∧ Q σ' H') X.xe s
abbrev xg := V → V → V → Hp → (Hp → Prop) → Prop
def PSet (X : Cx) (t : xg) : Prop :=
 ∀ (pins : List (Addr × Obj)) (s : Shared) (σ : St) (H : Hp) (o i v : V) (ov iv u : Value) (Q : Hp → Prop), Inv X pins σ H s → RelV o ov → RelV i iv → RelV v u → t o i v H Q →
  wpAny (model X.prog X.w) X.A (setItem ov iv u) (fun _ s' => ∃ H', Inv X pins σ H' s' ∧ Q H') X.xe s
abbrev TIp := V → V → Hp → VK → Prop
def PIp (X : Cx) (op : Operator) (t : TIp) : Prop :=
 ∀ (pins : List (Addr × Obj)) (s : Shared) (σ : St) (H : Hp) (x y : V) (v u : Value) (Q : VK), Inv X pins σ H s → RelV x v → RelV y u → t x y H Q →
  wpAny (model X.prog X.w) X.A (inplaceOp op v u) (EP X pins σ Q) X.xe s
section
variable {X : Cx} {pos : Pos}
def zk (i : Nat) : TG := fun v σ H Q => Q (σ.set i (some v)) H
theorem kD {i : Nat} {x : Str} (hN : X.N.Nodup) (hi : X.N[i]? = some x) (hx : Loc X.env.scope x) (hf : X.fn x = true ∨ X.env.scope.names.lookup x = some .local := by first | exact .inl rfl | exact .inr rfl | assumption) : PG X (.Name x pos) (zk i) := by
 intro pins s σ H v u Q I r h
 exact wpAny_assign_Name (iD I hN hi hx r (fun s' I' => ⟨_, H, I', h⟩) hf)
def gNil : TGs := fun vs σ H Q => vs = [] ∧ Q σ H
def gCons (t : TG) (u : TGs) : TGs := fun vs σ H Q => ∃ v r, vs = v :: r ∧ t v σ H fun σ' H' => u r σ' H' Q
theorem xh : PGs X [] gNil := by
 intro pins s σ H vs us Q I r h
 obtain ⟨e, h⟩ := h
 subst e
 cases r
 exact assignInOrder_nil ⟨σ, H, I, h⟩
theorem tM {e : Expr} {es : List Expr} {t : TG} {u : TGs} (h1 : PG X e t) (h2 : PGs X es u)
 (hs : (assignEach (e :: es) X.env).map (·.2) = assign e X.env :: (assignEach es X.env).map (·.2) := by rfl) : PGs X (e :: es) (gCons t u) := by
 intro pins s σ H vs us Q I r h
 obtain ⟨v, vr, e1, h⟩ := h
 subst e1
 cases r with
 | cons r rr =>
  rw [hs]
  refine assignInOrder_cons (thn (h1 pins s σ H _ _ _ I r h) fun _ s1 ⟨σ1, H1, I1, q1⟩ => ?_)
  exact h2 pins s1 σ1 H1 _ _ Q I1 rr q1
def gTup (K : PySem.W.Frag) (n : Nat) (t : TGs) : TG := fun v σ H Q => ∃ a xs, v = .ref a ∧ SqT K H a xs ∧ xs.length = n ∧ t xs σ H Q
theorem zQ {es : List Expr} {k : Nat} {t : TGs} {n : Nat} (hc : X.calm = true) (h : PGs X es t)
 (hn : (assignEach es X.env).length = n := by rfl) (hst : (assignEach es X.env).findIdx? (·.1) = none := by rfl) : PG X (.Tuple es k pos) (gTup X.K n t) := by
 intro pins s σ H v u Q I r hw
 obtain ⟨a, xs, e1, hq, hl, hw⟩ := hw
 subst e1
 cases r
 obtain ⟨its, rv, ht, hz⟩ := I.tuple hq
 refine assign_Tuple_tuple (I.ok.hd hc) ht (by simp [hn, ← hl, rv.length]) hst fun h' hx => ?_
 have I1 : Inv X pins σ H { s with heap := h' } := I.kept (t' := s.toks) fun b o e => hx b o (Nat.ne_of_lt (Heap.lt_size e)) e
 exact h pins _ σ H xs _ Q I1 (by simpa using rv) hw
def gSub (to ti : TE) (t : xg) : TG := fun v σ H Q => to σ H fun o H1 => ti σ H1 fun i H2 => t o i v H2 fun H3 => Q σ H3
theorem zR {o i : Expr} {to ti : TE} {t : xg} (ho : PE X o to) (hi : PE X i ti) (hs : PSet X t)
 (ha : ∀ v, assign (.Subscript o i pos) X.env v = (do
   let ov ← holding [v] (eval o X.env)
   let iv ← holding [v, ov] (eval i X.env)
   standAt pos
   holding [v, ov, iv] (setItem ov iv v)
   release [v, ov, iv] []) := by intro _; rfl) : PG X (.Subscript o i pos) (gSub to ti t) := by
 intro pins s σ H v u Q I r h
 rw [ha]
 refine wpAny_bind (wpAny_holding (thn (ho pins s σ H _ I h) fun ov s1 ⟨x, H1, I1, r1, q1⟩ => ?_))
 refine wpAny_bind (wpAny_holding (thn (hi pins s1 σ H1 _ I1 q1) fun iv s2 ⟨y, H2, I2, r2, q2⟩ => ?_))
 refine wpAny_bind (wpAny_standAt (wpAny_bind (wpAny_holding (thn (hs pins s2 σ H2 x y v ov iv u _ I2 r1 r2 r q2) fun _ s3 ⟨H3, I3, q3⟩ => ?_))))
 exact wpAny_release ⟨σ, H3, I3, q3⟩
def tAsg (te : TE) (g : TG) : TS := fun D σ H => te σ H fun x H1 => g x σ H1 D.nx
theorem zS {tg e : Expr} {te : TE} {g : TG} (he : PE X e te) (hg : PG X tg g) (hs : swapsWithSole [tg] e pos.line X.env = pure false := by rfl) (hw : swappedStores [tg] e X.env = pure none := by rfl)
 (h1 : (assignEach [tg] X.env).map (·.2) = [assign tg X.env] := by rfl) : PS X (.Assign [tg] e pos) (tAsg te g) := by
 intro pins s σ H D I h
 refine wpAny_Assign_stores (thn (he pins s σ H _ I h) fun v s1 ⟨x, H1, I1, r1, q1⟩ => ?_) hs hw
 rw [h1]
 exact thn (hg pins s1 σ H1 x v _ I1 r1 q1) fun _ s2 q => q
theorem zT {i : Nat} {x : Str} {e : Expr} {te : TE} {pos' : Pos} (hN : X.N.Nodup) (hi : X.N[i]? = some x) (hx : Loc X.env.scope x) (he : PE X e te) (hs : swapsWith e (some (.Name x pos')) pos.line X.env = pure false := by rfl) (hf : X.fn x = true ∨ X.env.scope.names.lookup x = some .local := by first | exact .inl rfl | exact .inr rfl | assumption) :
 PS X (.Assign [.Name x pos'] e pos) (tAsg te (zk i)) := by
 intro pins s σ H D I h
 refine wpAny_Assign_Name (thn (he pins s σ H _ I h) fun v s1 ⟨y, H1, I1, r1, q1⟩ => ?_) hs
 exact iD I1 hN hi hx r1 (fun s2 I2 => ⟨_, H1, I2, q1⟩) hf
def tAug (i : Nat) (te : TE) (ti : TIp) : TS := fun D σ H => ∃ x, σ[i]? = some (some x) ∧ te σ H fun y H1 => ti x y H1 fun z H2 => D.nx (σ.set i (some z)) H2
theorem zU {i : Nat} {x : Str} {e : Expr} {te : TE} {op : Operator} {ti : TIp} {pos' : Pos} (hN : X.N.Nodup) (hi : X.N[i]? = some x) (hx : Loc X.env.scope x) (he : PE X e te) (ho : PIp X op ti) (hf : X.fn x = true ∨ X.env.scope.names.lookup x = some .local := by first | exact .inl rfl | exact .inr rfl | assumption) :
 PS X (.AugAssign (.Name x pos') op e pos) (tAug i te ti) := by
 intro pins s σ H D I h
 obtain ⟨v, e1, h⟩ := h
 obtain ⟨m, hn, hl⟩ := I.loc
 have vis : Vis X.env.scope x := by rcases hx with k | k; exact .inl k; exact .inr (.inl k)
 obtain ⟨u, r, l⟩ := hl i x v hi e1 vis
 refine wpAny_AugAssign_Name ?_
 have go : wpAny (model X.prog X.w) X.A (eval e X.env) (fun w s₂ => wpAny (model X.prog X.w) X.A (inplaceOp op u w) (fun r s₃ => wpAny (model X.prog X.w) X.A (storeName X.env x r) (fun _ => SP X pins D .next) X.xe s₃) X.xe s₂) X.xe s := by
  refine thn (he pins s σ H _ I h) fun w s1 ⟨y, H1, I1, r1, q1⟩ => ?_
  refine thn (ho pins s1 σ H1 v y u w _ I1 r r1 q1) fun z s2 ⟨zv, H2, I2, r2, q2⟩ => ?_
  exact iD I2 hN hi hx r2 (fun s3 I3 => ⟨_, H2, I3, q2⟩) hf
 rcases l with ⟨hk, hm⟩ | ⟨hk, c, hc, hcell⟩
 ·exact wpAny_loadName_local I.ok.kind hk hn hm go
 ·rcases hk with hk | hk
  ·exact wpAny_loadName_cell I.ok.kind hk hc hcell go
  ·rcases hx with k | k
   ·have : X.env.scope.names.lookup x = some .free := hk
    rw [k] at this; cases this
   ·have : X.env.scope.names.lookup x = some .free := hk
    rw [k] at this; cases this
end
section
variable {X : Cx} {pos : Pos}
def zV (c : TT) (tb : TS) : TS := fun D σ H => ∃ W : Nat → St → Hp → Prop, (∃ m, W m σ H) ∧ ∀ m σ H, W m σ H →
 c σ H fun b H1 => if b = true then ∃ N : St → Hp → Prop, (∀ σ' H', N σ' H' → ∃ m', m' < m ∧ W m' σ' H') ∧ tb { D with nx := N, ct := N, bk := D.nx } σ H1 else D.nx σ H1
theorem tN {c : Expr} {body : List Stmt} {tc : TT} {tb : TS} (hp : PassesOwn (model X.prog X.w) X.A X.env X.xe) (hc : PT X c tc) (hb : PSs X body tb) : PS X (.While c body [] pos) (zV tc tb) := by
 intro pins s σ H D I h
 obtain ⟨W, ⟨m0, w0⟩, turn⟩ := h
 refine wpAny_While (codeAny_whileLoop (fun n s' => ∃ σ' H', Inv X pins σ' H' s' ∧ W n σ' H') ?_ m0 ⟨σ, H, I, w0⟩)
 rintro n s1 ⟨σ1, H1, I1, w1⟩
 refine wpAny_passesOwn hp (thn (hc pins s1 σ1 H1 _ I1 (turn n σ1 H1 w1)) fun b s2 ⟨H2, I2, q2⟩ => ?_)
 cases b with
 | true =>
  obtain ⟨N, hN, q2⟩ := q2
  rw [if_pos rfl]
  refine wpAny_passesOwn hp (thn (hb pins s2 σ1 H2 _ I2 q2) fun f s3 q3 => ?_)
  cases f with
  | next =>
   obtain ⟨σ3, H3, I3, n3⟩ := q3
   obtain ⟨m', hm, w3⟩ := hN σ3 H3 n3
   exact ⟨m', hm, σ3, H3, I3, w3⟩
  | cont =>
   obtain ⟨σ3, H3, I3, n3⟩ := q3
   obtain ⟨m', hm, w3⟩ := hN σ3 H3 n3
   exact ⟨m', hm, σ3, H3, I3, w3⟩
  | brk => exact q3
  | ret v => exact q3
 | false =>
  rw [if_neg Bool.false_ne_true]
  exact wpAny_execs_nil ⟨σ1, H2, I2, q2⟩
end
structure It where
 go : Nat → Hp → Prop
 yld : Nat → Hp → V → Hp → Prop
 stop : Nat → Hp → Prop
def cS (X : Cx) (pins : List (Addr × Obj)) (H : Hp) (b : Addr) : Prop :=
 H b = none ∧ b ≠ X.env.locals ∧ b ∉ X.fs ∧ (b ∈ X.ex ∨ X.s₀.heap.objs.size ≤ b) ∧ (∀ x c, X.env.cells.lookup x = some c → c ≠ b) ∧ ∀ p ∈ X.pn ++ pins, p.1 ≠ b
theorem Inv.jy {X : Cx} {pins : List (Addr × Obj)} {σ : St} {H H' : Hp} {s : Shared} {b : Addr} (I : Inv X pins σ H s) (hb : s.heap.objs.size ≤ b) (hn : H' b = none) : cS X pins H' b := by
 refine ⟨hn, Nat.ne_of_gt (Nat.lt_of_lt_of_le I.lt hb), I.nofs hb, .inr (Nat.le_trans I.sz hb), fun x c e z => ?_, fun p hp z => ?_⟩
 ·obtain ⟨v, q⟩ := I.cell x c e
  exact absurd (Nat.lt_of_lt_of_le q.lt (by rw [z]; exact hb)) (Nat.lt_irrefl _)
 ·exact absurd (Nat.lt_of_lt_of_le (Heap.lt_size (I.pin p hp).1) (by rw [z]; exact hb)) (Nat.lt_irrefl _)
structure Turn (P : Program) (w : World) (K : PySem.W.Frag) (tg : Expr) (J : It) (fp : List Addr) (it : Addr) (tn : Nat → Heap → Prop) : Prop where
 mem : it ∈ fp
 obj : ∀ i h, tn i h → ∀ b ∈ fp, ∃ o, h.get? b = some o ∧ ∀ v, o.data ≠ .cell v
 keep : ∀ i h h', tn i h → (∀ b ∈ fp, ∀ o, h.get? b = some o → h'.get? b = some o) → tn i h'
 item : ∀ (X : Cx), X.prog = P → X.w = w → X.K = K → X.calm = true → ∀ (i : Nat) (pins : List (Addr × Obj)) (s : Shared) (σ : St) (H : Hp) (E : Value → Shared → Prop), Inv X pins σ H s → (∀ b ∈ fp, cS X pins H b) → tn i s.heap → J.go i H →
  wpAny (model P w) X.A (pyNext (.ref it)) (fun r s1 => ∃ u, r = some u ∧
   wpAny (model P w) X.A (letOwnedTupleGo tg (.ref it) u) (fun _ s2 => ∃ x H', Inv X pins σ H' s2 ∧ RelV x u ∧ J.yld i H x H' ∧ tn (i + 1) s2.heap ∧ ∀ b ∈ fp, H' b = none) E s1) E s
 done : ∀ (X : Cx), X.prog = P → X.w = w → X.K = K → X.calm = true → ∀ (i : Nat) (pins : List (Addr × Obj)) (s : Shared) (σ : St) (H : Hp) (E : Value → Shared → Prop), Inv X pins σ H s → (∀ b ∈ fp, cS X pins H b) → tn i s.heap → J.stop i H →
  wpAny (model P w) X.A (pyNext (.ref it)) (fun r s1 => r = none ∧ Inv X pins σ H s1) E s
 self : ∀ (A : Around) (i : Nat) (s : Shared) (Q : Value → Shared → Prop) (E : Value → Shared → Prop), tn i s.heap → Q (.ref it) s → wpAny (model P w) A (pyIter (.ref it)) Q E s
abbrev TI := St → Hp → (It → Hp → Prop) → Prop
def PIE (X : Cx) (pins : List (Addr × Obj)) (σ : St) (tg : Expr) (R : It → Hp → Prop) (itv : Value) (s2 : Shared) : Prop :=
 ∃ (it : Addr) (fp : List Addr) (tn : Nat → Heap → Prop) (J : It) (H' : Hp), itv = .ref it ∧ Inv X pins σ H' s2 ∧ Turn X.prog X.w X.K tg J fp it tn ∧ tn 0 s2.heap ∧ (∀ b ∈ fp, cS X pins H' b) ∧ R J H'
def PI (X : Cx) (tg iter : Expr) (wi : TI) : Prop :=
 ∀ (pins : List (Addr × Obj)) (s : Shared) (σ : St) (H : Hp) (R : It → Hp → Prop), Inv X pins σ H s → wi σ H R →
  wpAny (model X.prog X.w) X.A (eval iter X.env) (fun v s1 => wpAny (model X.prog X.w) X.A (pyIter v) (PIE X pins σ tg R) X.xe s1) X.xe s
theorem lS {M : Model} {A : Around} {E : Value → Shared → Prop} {s : Shared} {tg : Expr} {it : Addr} {u : Value} {o : Obj} {n : String} {vs : Array Value} {Q : Unit → Shared → Prop} (ho : s.heap.get? it = some o) (hc : o.cls = .type n) (hd : o.data = .fields vs)
 (hn : ["enumerate", "zip", "dict_itemiterator", "dict_reverseitemiterator", "odict_iterator", "itertools.zip_longest", "itertools.pairwise"].contains n = false) (hQ : Q () s) : wpAny M A (letOwnedTupleGo tg (.ref it) u) Q E s := by
 unfold letOwnedTupleGo
 cases tg <;> first
  | exact wpAny_pure hQ
  | (cases u <;> first
      | exact wpAny_pure hQ
      | (refine wpAny_bind (wpAny_load ho ?_)
         rw [hc, hd]
         show wpAny M A (if (["enumerate", "zip", "dict_itemiterator", "dict_reverseitemiterator", "odict_iterator", "itertools.zip_longest", "itertools.pairwise"].contains n && vs[0]? == some (rawInt _)) = true then _ else _) Q E s
         rw [if_neg (by intro h; rw [hn, Bool.false_and] at h; cases h)]
         exact wpAny_pure hQ))
def Itl (K : PySem.W.Frag) (a : Addr) : It :=
 ⟨fun i H => ∃ xs x, SqL K H a xs ∧ xs[i]? = some x, fun i H x H' => H' = H ∧ ∀ xs, SqL K H a xs → xs[i]? = some x, fun i H => ∃ xs, SqL K H a xs ∧ xs.length ≤ i⟩
def Itt (K : PySem.W.Frag) (a : Addr) : It :=
 ⟨fun i H => ∃ xs x, SqT K H a xs ∧ xs[i]? = some x, fun i H x H' => H' = H ∧ ∀ xs, SqT K H a xs → xs[i]? = some x, fun i H => ∃ xs, SqT K H a xs ∧ xs.length ≤ i⟩
def Itr (lo : Int) (n : Nat) : It := ⟨fun i _ => i < n, fun i H x H' => H' = H ∧ x = .int (lo + i), fun i _ => n ≤ i⟩
theorem rm {P : Program} {w : World} {K : PySem.W.Frag} {tg : Expr} (a it : Addr) : Turn P w K tg (Itl K a) [it] it (fun i h => h.IsListIter it a i) where
 mem := by simp
 obj := fun i h st b hb => by
  have e : b = it := by simpa using hb
  subst e
  obtain ⟨o, e, c, d⟩ := st
  exact ⟨o, e, fun v z => by rw [d] at z; cases z⟩
 keep := fun i h h' st k => st.at fun o e => k it (by simp) o e
 item := by
  intro X hP hw hK hc i pins s σ H E I hf st hg
  subst hP hw hK
  obtain ⟨xs, x, hq, hx⟩ := hg
  obtain ⟨its, rv, p, hz⟩ := I.list hq
  obtain ⟨u, hu, ru⟩ := rv.get hx
  obtain ⟨f0, f1, f2, f3, f4, f5⟩ := hf it (by simp)
  refine wpAny_pyNext_list_item st p.isList (x := u) (by simpa using hu) fun h' st' sb => ?_
  have I1 : Inv X pins σ H { s with heap := h' } := I.turned (t' := s.toks) (fun b o hb e => (sb.2 b hb).trans e) f0 f1 f3 f4 f5
  obtain ⟨o, e, c, d⟩ := id st'
  exact ⟨u, rfl, lS (s := { s with heap := h' }) e c d (by decide) ⟨x, H, I1, ru, ⟨rfl, fun ys hy => by rw [I.fy hy hq]; exact hx⟩, st', fun b hb => (hf b hb).1⟩⟩
 done := by
  intro X hP hw hK hc i pins s σ H E I hf st hg
  subst hP hw hK
  obtain ⟨xs, hq, hx⟩ := hg
  obtain ⟨its, rv, p, hz⟩ := I.list hq
  obtain ⟨f0, f1, f2, f3, f4, f5⟩ := hf it (by simp)
  have hl := rv.length
  exact wpAny_pyNext_list_end (I.ok.hd hc) st p.isList (by simp; omega) fun h' eb => ⟨rfl, I.turned (t' := s.toks) (fun b o hb e => eb b o hb e) f0 f1 f3 f4 f5⟩
 self := fun _ _ _ _ _ st h => wpAny_pyIter_listiter st h
theorem oh {P : Program} {w : World} {K : PySem.W.Frag} {tg : Expr} (a it : Addr) : Turn P w K tg (Itt K a) [it] it (fun i h => h.IsTupleIter it a i) where
 mem := by simp
 obj := fun i h st b hb => by
  have e : b = it := by simpa using hb
  subst e
  obtain ⟨o, e, c, d⟩ := st
  exact ⟨o, e, fun v z => by rw [d] at z; cases z⟩
 keep := fun i h h' st k => st.at fun o e => k it (by simp) o e
 item := by
  intro X hP hw hK hc i pins s σ H E I hf st hg
  subst hP hw hK
  obtain ⟨xs, x, hq, hx⟩ := hg
  obtain ⟨its, rv, p, hz⟩ := I.tuple hq
  obtain ⟨u, hu, ru⟩ := rv.get hx
  obtain ⟨f0, f1, f2, f3, f4, f5⟩ := hf it (by simp)
  refine wpAny_pyNext_tuple_item st (show s.heap.IsTuple a its.toArray from p) (x := u) (by simpa using hu) fun h' st' sb => ?_
  have I1 : Inv X pins σ H { s with heap := h' } := I.turned (t' := s.toks) (fun b o hb e => (sb.2 b hb).trans e) f0 f1 f3 f4 f5
  obtain ⟨o, e, c, d⟩ := id st'
  exact ⟨u, rfl, lS (s := { s with heap := h' }) e c d (by decide) ⟨x, H, I1, ru, ⟨rfl, fun ys hy => by rw [I.gm hy hq]; exact hx⟩, st', fun b hb => (hf b hb).1⟩⟩
 done := by
  intro X hP hw hK hc i pins s σ H E I hf st hg
  subst hP hw hK
  obtain ⟨xs, hq, hx⟩ := hg
  obtain ⟨its, rv, p, hz⟩ := I.tuple hq
  obtain ⟨f0, f1, f2, f3, f4, f5⟩ := hf it (by simp)
  have hl := rv.length
  exact wpAny_pyNext_tuple_end (I.ok.hd hc) st (show s.heap.IsTuple a its.toArray from p) (by simp; omega) fun h' eb => ⟨rfl, I.turned (t' := s.toks) (fun b o hb e => eb b o hb e) f0 f1 f3 f4 f5⟩
 self := fun _ _ _ _ _ st h => wpAny_pyIter_tupleiter st h
theorem oi {P : Program} {w : World} {K : PySem.W.Frag} {tg : Expr} (it : Addr) (lo : Int) (n : Nat) : Turn P w K tg (Itr lo n) [it] it (fun i h => IsRangeIter h it (lo + (i : Nat) * 1) ((n : Int) - (i : Nat)) 1) where
 mem := by simp
 obj := fun i h st b hb => by
  have e : b = it := by simpa using hb
  subst e
  exact ⟨_, st, fun v z => by
   have z' : Data.fields _ = Data.cell v := z
   cases z'⟩
 keep := fun i h h' st k => k it (by simp) _ st
 item := by
  intro X hP hw hK hc i pins s σ H E I hf st hg
  subst hP hw hK
  obtain ⟨f0, f1, f2, f3, f4, f5⟩ := hf it (by simp)
  have W := Walks.range (prog := X.prog) (w := X.w) (I.ok.hd hc) it lo 1 n
  refine W.item i s _ _ hg st fun v h' tk hv st' kk => ?_
  obtain ⟨t, rfl⟩ := hv
  have I1 : Inv X pins σ H { s with heap := h', toks := tk } := I.turned (fun b o hb e => kk b o (by simpa using hb) e) f0 f1 f3 f4 f5
  refine ⟨_, rfl, lS (s := { s with heap := h', toks := tk }) (n := "range_iterator") st' rfl rfl (by decide) ⟨.int (lo + i), H, I1, ⟨t, ?_⟩, ⟨rfl, rfl⟩, st', fun b hb => (hf b hb).1⟩⟩
  rw [Int.mul_one]
 done := by
  intro X hP hw hK hc i pins s σ H E I hf st hg
  subst hP hw hK
  obtain ⟨f0, f1, f2, f3, f4, f5⟩ := hf it (by simp)
  exact wpAny_pyNext_range_end (I.ok.hd hc) st (by have : n ≤ i := hg; omega) fun h' eb => ⟨rfl, I.turned (t' := s.toks) (fun b o hb e => eb b o hb e) f0 f1 f3 f4 f5⟩
 self := fun _ _ _ _ _ st h => wpAny_pyIter_rangeiter st h
end L2
namespace L2
open PySem PySem.Spec PyProof.Rows
section
variable {X : Cx} {tg : Expr}
theorem tO {pins : List (Addr × Obj)} {σ : St} {H : Hp} {s : Shared} {R : It → Hp → Prop} {E : Value → Shared → Prop} {lo hi : Int} {t u v : Tok} {tk : Nat} (I : Inv X pins σ H s) (h1 : -(2 ^ 62) ≤ lo) (h2 : lo < 2 ^ 62) (h3 : -(2 ^ 62) ≤ hi) (h4 : hi < 2 ^ 62)
 (q : R (Itr lo (hi - lo).toNat) H) : wpAny (model X.prog X.w) X.A (pyIter (.ref s.heap.objs.size)) (PIE X pins σ tg R) E { s with heap := s.heap.push { cls := .type "range", data := .fields #[.int lo t, .int hi u, .int 1 v] }, toks := tk } := by
 refine wpAny_pyIter_range (IsRange.new ..) (small_one h1 h2 h3 h4) ?_
 have I1 : Inv X pins σ H { s with heap := s.heap.push { cls := .type "range", data := .fields #[.int lo t, .int hi u, .int 1 v] }, toks := tk } := I.kept fun b o e => Heap.get?_push_of_some _ e
 refine ⟨(s.heap.push { cls := .type "range", data := .fields #[.int lo t, .int hi u, .int 1 v] }).objs.size, [(s.heap.push { cls := .type "range", data := .fields #[.int lo t, .int hi u, .int 1 v] }).objs.size], _, _, H, rfl,
  I1.kept (t' := tk) fun b o e => Heap.get?_push_of_some _ e, oi _ lo (hi - lo).toNat, ?_, fun b hb => ?_, q⟩
 ·have e1 : lo + ((0 : Nat) : Int) * 1 = lo := by simp
  have e2 : (((hi - lo).toNat : Nat) : Int) - ((0 : Nat) : Int) = Builtin.Range.rangeSize lo hi 1 := by rw [rangeSize_one]; split <;> omega
  show IsRangeIter _ _ (lo + ((0 : Nat) : Int) * 1) ((((hi - lo).toNat : Nat) : Int) - ((0 : Nat) : Int)) 1
  rw [e1, e2]
  exact Heap.get?_push_size _ rfl
 ·have e : b = (s.heap.push { cls := .type "range", data := .fields #[.int lo t, .int hi u, .int 1 v] }).objs.size := by simpa using hb
  subst e
  exact I1.jy (Nat.le_refl _) (I1.hok.fresh (Nat.le_refl _))
def iRng1 (ta : TA) : TI := fun σ H R => ta σ H fun vs H1 => ∃ j : Int, vs = [.int j] ∧ -(2 ^ 62) ≤ j ∧ j < 2 ^ 62 ∧ R (Itr 0 j.toNat) H1
theorem rA {a : Expr} {ta : TA} {p pos : Pos} (hg : Gl X "range") (hm : X.mg "range" = none) (ha : PA X [a] ta) (hs : starEach [a] X.env = [(false, eval a X.env)] := by rfl) : PI X tg (.Call (.Name "range" p) [a] [] pos) (iRng1 ta) := by
 intro pins s σ H R I h
 refine Call_ (ck I hg hm boot_range (PyProof.Rows.callWith_type1 (thn (ha pos pins s σ H _ I h) fun us s1 ⟨vs, H1, I1, r1, q1⟩ => ?_) hs rfl))
 obtain ⟨j, e, q1, q2, q⟩ := q1
 subst e
 cases r1 with
 | cons r rr =>
  cases rr
  obtain ⟨t, rfl⟩ := r
  exact call_range_1 (tO I1 (by omega) (by omega) q1 q2 (by simpa using q))
def tFor (wi : TI) (g : TG) (tb : TS) : TS := fun D σ H => wi σ H fun J H1 => ∃ W : Nat → Nat → St → Hp → Prop, (∃ m, W 0 m σ H1) ∧ ∀ i m σ H, W i m σ H →
 (J.stop i H ∧ D.nx σ H) ∨ (J.go i H ∧ ∃ N : St → Hp → Prop, (∀ σ' H', N σ' H' → ∃ m', m' < m ∧ W (i + 1) m' σ' H') ∧ ∀ x H', J.yld i H x H' → g x σ H' fun σ2 H2 => tb { D with nx := N, ct := N, bk := D.nx } σ2 H2)
def gn (fp : List Addr) (h : Heap) : List (Addr × Obj) := fp.filterMap fun b => (h.get? b).map fun o => (b, o)
theorem cy {fp : List Addr} {h : Heap} {b : Addr} {o : Obj} (hb : b ∈ fp) (e : h.get? b = some o) : (b, o) ∈ gn fp h := List.mem_filterMap.mpr ⟨b, hb, by rw [e]; rfl⟩
theorem rB {fp : List Addr} {h : Heap} {p : Addr × Obj} (hp : p ∈ gn fp h) : p.1 ∈ fp ∧ h.get? p.1 = some p.2 := by
 obtain ⟨b, hb, e⟩ := List.mem_filterMap.mp hp
 cases q : h.get? b with
 | none => rw [q] at e; cases e
 | some o =>
  rw [q] at e
  have e' : (b, o) = p := Option.some.inj e
  subst e'
  exact ⟨hb, q⟩
theorem Inv.pinned {pins : List (Addr × Obj)} {σ : St} {H : Hp} {s : Shared} {fp : List Addr} (I : Inv X pins σ H s) (hf : ∀ b ∈ fp, cS X pins H b) (ho : ∀ b ∈ fp, ∃ o, s.heap.get? b = some o ∧ ∀ v, o.data ≠ .cell v) : Inv X (pins ++ gn fp s.heap) σ H s :=
 I.pX fun p hp => (List.mem_append.mp hp).elim (fun z => I.pin p (List.mem_append_right _ z)) fun z => by
  obtain ⟨hb, e⟩ := rB z
  obtain ⟨f0, f1, f2, _⟩ := hf p.1 hb
  obtain ⟨o, e', d⟩ := ho p.1 hb
  rw [e] at e'; cases e'
  exact ⟨e, f0, f1, f2, d⟩
theorem Inv.cK {pins pl : List (Addr × Obj)} {σ : St} {H : Hp} {s : Shared} (I : Inv X (pins ++ pl) σ H s) : Inv X pins σ H s := I.pX fun p hp => I.pin p (List.mem_append_right _ (List.mem_append_left _ hp))
theorem zW {iter : Expr} {body : List Stmt} {wi : TI} {g : TG} {tb : TS} {pos : Pos} (hp : PassesOwn (model X.prog X.w) X.A X.env X.xe) (hc : X.calm = true) (hi : PI X tg iter wi) (hg : PG X tg g) (hb : PSs X body tb)
 (hs : ∀ x, foldedSetIterable iter X.env x = pure x := by intro _; rfl) : PS X (.For tg iter body [] pos) (tFor wi g tb) := by
 intro pins s σ H D I h
 refine wpAny_For (thn (hi pins s σ H _ I h) fun v s1 h1 => thn h1 fun itv s2 h2 => ?_) hs
 obtain ⟨it, fp, tn, J, H2, e, I2, T, st2, f2, W, ⟨m0, w0⟩, turn⟩ := h2
 subst e
 have stat : ∀ {H' : Hp}, (∀ b ∈ fp, H' b = none) → ∀ b ∈ fp, cS X pins H' b := fun hn b hb => ⟨hn b hb, (f2 b hb).2⟩
 refine codeAny_forLoop_any (fun n s' => ∃ i σ' H', Inv X pins σ' H' s' ∧ tn i s'.heap ∧ (∀ b ∈ fp, H' b = none) ∧ W i n σ' H') ?_ m0 ⟨0, σ, H2, I2, st2, fun b hb => (f2 b hb).1, w0⟩
 rintro n s3 ⟨i, σ3, H3, I3, st3, fr3, w3⟩
 rcases turn i n σ3 H3 w3 with ⟨stop, qn⟩ | ⟨go, N, hN, step⟩
 ·refine wpAny_passesOwn hp (thn (T.done X rfl rfl rfl hc i pins s3 σ3 H3 X.xe I3 (stat fr3) st3 stop) fun r s4 ⟨hr, I4⟩ => ?_)
  subst hr
  exact wpAny_execs_nil ⟨σ3, H3, I4, qn⟩
 ·refine wpAny_passesOwn hp (thn (T.item X rfl rfl rfl hc i pins s3 σ3 H3 X.xe I3 (stat fr3) st3 go) fun r s4 ⟨u, hr, h4⟩ => ?_)
  subst hr
  refine wpAny_passesOwn hp (thn h4 fun _ s5 ⟨x, H5, I5, r5, y5, st5, fr5⟩ => ?_)
  have I5' := I5.pinned (stat fr5) (T.obj _ _ st5)
  refine wpAny_passesOwn hp (thn (hg _ s5 σ3 H5 x u _ I5' r5 (step x H5 y5)) fun _ s6 ⟨σ6, H6, I6, q6⟩ => ?_)
  refine wpAny_passesOwn hp (thn (hb _ s6 σ6 H6 _ I6 q6) fun f s7 q7 => ?_)
  have again : ∀ {σ7 : St} {H7 : Hp}, Inv X (pins ++ gn fp s5.heap) σ7 H7 s7 → N σ7 H7 → ∃ m, m < n ∧ ∃ i σ' H', Inv X pins σ' H' s7 ∧ tn i s7.heap ∧ (∀ b ∈ fp, H' b = none) ∧ W i m σ' H' := fun {σ7 H7} I7 n7 => by
   obtain ⟨m', hm, w7⟩ := hN σ7 H7 n7
   refine ⟨m', hm, i + 1, σ7, H7, I7.cK, T.keep _ _ _ st5 fun b hb o e => (I7.pin (b, o) (List.mem_append_right _ (List.mem_append_right _ (cy hb e)))).1, fun b hb => ?_, w7⟩
   obtain ⟨o, e, d⟩ := T.obj _ _ st5 b hb
   exact (I7.pin (b, o) (List.mem_append_right _ (List.mem_append_right _ (cy hb e)))).2.1
  cases f with
  | next => obtain ⟨σ7, H7, I7, n7⟩ := q7; exact again I7 n7
  | cont => obtain ⟨σ7, H7, I7, n7⟩ := q7; exact again I7 n7
  | brk => obtain ⟨σ7, H7, I7, q7⟩ := q7; exact ⟨σ7, H7, I7.cK, q7⟩
  | ret v => obtain ⟨x7, σ7, H7, I7, r7, q7⟩ := q7; exact ⟨x7, σ7, H7, I7.cK, r7, q7⟩
end
end L2
namespace L2
open PySem PySem.Spec PyProof.Rows
abbrev R2 := V → V → Hp → VK → Prop
def OpR (X : Cx) (f : Value → Value → Sem Value) (r : R2) : Prop :=
 ∀ (pins : List (Addr × Obj)) (s : Shared) (σ : St) (H : Hp) (x y : V) (v u : Value) (Q : VK), Inv X pins σ H s → RelV x v → RelV y u → r x y H Q →
  wpAny (model X.prog X.w) X.A (f v u) (EP X pins σ Q) X.xe s
def UnR (X : Cx) (f : Value → Sem Value) (r : V → Hp → VK → Prop) : Prop :=
 ∀ (pins : List (Addr × Obj)) (s : Shared) (σ : St) (H : Hp) (x : V) (v : Value) (Q : VK), Inv X pins σ H s → RelV x v → r x H Q →
  wpAny (model X.prog X.w) X.A (f v) (EP X pins σ Q) X.xe s
def bV (X : Cx) (f : Value) (r : List V → Hp → VK → Prop) : Prop :=
 ∀ (pins : List (Addr × Obj)) (s : Shared) (σ : St) (H : Hp) (xs : List V) (us : List Value) (Q : VK), Inv X pins σ H s → Vals xs us → r xs H Q →
  wpAny (model X.prog X.w) X.A (call f us) (EP X pins σ Q) X.xe s
def tOp (r : R2) (ta tb : TE) : TE := fun σ H Q => ta σ H fun x H1 => tb σ H1 fun y H2 => r x y H2 Q
def tUn (r : V → Hp → VK → Prop) (ta : TE) : TE := fun σ H Q => ta σ H fun x H1 => r x H1 Q
def rI (C : Int → Int → Prop) (g : Int → Int → V) : R2 := fun x y H Q => ∃ i j, x = .int i ∧ y = .int j ∧ C i j ∧ Q (g i j) H
def rI0 (g : Int → Int → V) : R2 := fun x y H Q => ∃ i j, x = .int i ∧ y = .int j ∧ Q (g i j) H
def rU (g : Int → V) : V → Hp → VK → Prop := fun x H Q => ∃ i, x = .int i ∧ Q (g i) H
section
variable {X : Cx} {a b c : Expr} {ta tb tc : TE} {pos : Pos}
theorem binT (ha : PE X a ta) (hb : PE X b tb) {pins : List (Addr × Obj)} {s : Shared} {σ : St} {H : Hp} {R : V → V → Hp → Prop} (I : Inv X pins σ H s)
 (h : ta σ H fun x H1 => tb σ H1 fun y H2 => R x y H2) {Q : Value → Shared → Prop} {f : Value → Value → Sem Value}
 (hf : ∀ v u s2 x y H2, Inv X pins σ H2 s2 → RelV x v → RelV y u → R x y H2 → wpAny (model X.prog X.w) X.A (f v u) Q X.xe s2) :
 wpAny (model X.prog X.w) X.A (eval a X.env) (fun v s₁ => wpAny (model X.prog X.w) X.A (eval b X.env) (fun u s₂ => wpAny (model X.prog X.w) X.A (f v u) Q X.xe s₂) X.xe s₁) X.xe s := by
 refine thn (ha pins s σ H _ I h) fun v s1 ⟨x, H1, I1, r1, q1⟩ => ?_
 refine thn (hb pins s1 σ H1 _ I1 q1) fun u s2 ⟨y, H2, I2, r2, q2⟩ => ?_
 exact hf v u s2 x y H2 I2 r1 r2 q2
theorem tP {op : Operator} {r : R2} (ho : OpR X (binaryOp op) r) (ha : PE X a ta) (hb : PE X b tb) : PE X (.BinOp a op b pos) (tOp r ta tb) := by
 intro pins s σ H Q I h
 exact wpAny_BinOp (binT ha hb I h fun v u s2 x y H2 I2 rx ry q => ho pins s2 σ H2 x y v u Q I2 rx ry q)
theorem pe_un {op : UnaryOp} {r : V → Hp → VK → Prop} (ho : UnR X (unaryOp op) r) (ha : PE X a ta) : PE X (.UnaryOp op a pos) (tUn r ta) := by
 intro pins s σ H Q I h
 exact UnaryOp_ (thn (ha pins s σ H _ I h) fun v s1 ⟨x, H1, I1, r1, q1⟩ => ho pins s1 σ H1 x v Q I1 r1 q1)
theorem opI {f : Value → Value → Sem Value} {C : Int → Int → Prop} {g : Int → Int → Int}
 (rule : ∀ (i j : Int) (t u : Tok) (s : Shared) (Q : Value → Shared → Prop) (E : Value → Shared → Prop), C i j → Q (.int (g i j) s.toks) { s with toks := s.toks + 1 } → wpAny (model X.prog X.w) X.A (f (.int i t) (.int j u)) Q E s) :
 OpR X f (rI C fun i j => .int (g i j)) := by
 intro pins s σ H x y v u Q I rx ry h
 obtain ⟨i, j, rfl, rfl, hc, q⟩ := h
 obtain ⟨t, rfl⟩ := rx
 obtain ⟨t', rfl⟩ := ry
 exact rule i j t t' s _ _ hc ⟨.int (g i j), H, I.tok _, ⟨_, rfl⟩, q⟩
theorem tQ {f : Value → Value → Sem Value} {g : Int → Int → Int}
 (rule : ∀ (i j : Int) (t u : Tok) (s : Shared) (Q : Value → Shared → Prop) (E : Value → Shared → Prop), Q (.int (g i j) s.toks) { s with toks := s.toks + 1 } → wpAny (model X.prog X.w) X.A (f (.int i t) (.int j u)) Q E s) :
 OpR X f (rI0 fun i j => .int (g i j)) := by
 intro pins s σ H x y v u Q I rx ry h
 obtain ⟨i, j, rfl, rfl, q⟩ := h
 obtain ⟨t, rfl⟩ := rx
 obtain ⟨t', rfl⟩ := ry
 exact rule i j t t' s _ _ ⟨.int (g i j), H, I.tok _, ⟨_, rfl⟩, q⟩
theorem opB0 {f : Value → Value → Sem Value} {g : Int → Int → Bool}
 (rule : ∀ (i j : Int) (t u : Tok) (s : Shared) (Q : Value → Shared → Prop) (E : Value → Shared → Prop), Q (.bool (g i j)) s → wpAny (model X.prog X.w) X.A (f (.int i t) (.int j u)) Q E s) :
 OpR X f (rI0 fun i j => .bl (g i j)) := by
 intro pins s σ H x y v u Q I rx ry h
 obtain ⟨i, j, rfl, rfl, q⟩ := h
 obtain ⟨t, rfl⟩ := rx
 obtain ⟨t', rfl⟩ := ry
 exact rule i j t t' s _ _ ⟨.bl (g i j), H, I, rfl, q⟩
def tR (i j : Int) : Prop := 0 ≤ j ∧ j ≤ 1000000 ∧ i.natAbs < 2 ^ 64
def CMul (i j : Int) : Prop := (-(2 ^ 64) < i ∧ i < 2 ^ 64) ∨ (-(2 ^ 64) < j ∧ j < 2 ^ 64)
theorem CMul.ok {i j : Int} (h : CMul i j) : IntMulOk i j := by
 rcases h with ⟨h1, h2⟩ | ⟨h1, h2⟩
 ·exact .of_left (intBits_le_64 h1 h2)
 ·exact .of_right (intBits_le_64 h1 h2)
theorem oj (k : Nat) : (0 : Int) ≤ 2 ^ k := by
 rw [two_pow_cast]
 exact Int.natCast_nonneg _
theorem zX : OpR X (binaryOp .Add) (rI0 fun i j => .int (i + j)) := tQ fun _ _ _ _ _ _ _ q => add_int q
theorem zY : OpR X (binaryOp .Sub) (rI0 fun i j => .int (i - j)) := tQ fun _ _ _ _ _ _ _ q => sub_int q
theorem zZ : OpR X (binaryOp .Mod) (rI (fun _ j => 0 < j) fun i j => .int (i % j)) := opI fun i j _ _ _ _ _ hc q => by
 have h1 : (0 : Int) < j := hc
 exact mod_int' (by omega) (by rw [Int.fmod_eq_emod_of_nonneg i (by omega)]; exact q)
theorem z0 : OpR X (binaryOp .Pow) (rI tR fun i j => .int (i ^ j.toNat)) := opI fun _ _ _ _ _ _ _ hc q => pow_int_small hc.1 hc.2.1 hc.2.2 q
theorem Aa : OpR X (binaryOp .LShift) (rI tR fun i j => .int (i * 2 ^ j.toNat)) := opI fun _ _ _ _ _ _ _ hc q => lshift_int_small hc.1 hc.2.1 hc.2.2 q
theorem Ab : OpR X (binaryOp .RShift) (rI (fun _ j => 0 ≤ j) fun i j => .int (i / 2 ^ j.toNat)) := opI fun i j _ _ _ _ _ hc q =>
 rshift_int hc (by rw [Int.fdiv_eq_ediv_of_nonneg i (oj _)]; exact q)
theorem Ac : OpR X (binaryOp .BitAnd) (rI0 fun i j => .int (Builtin.bitAnd i j)) := tQ fun _ _ _ _ _ _ _ q => and_int q
theorem xj : OpR X (inplaceOp .Add) (rI0 fun i j => .int (i + j)) := tQ fun _ _ _ _ _ _ _ q => iadd_int q
theorem xm : OpR X (inplaceOp .Sub) (rI0 fun i j => .int (i - j)) := tQ fun _ _ _ _ _ _ _ q => isub_int q
theorem unI {f : Value → Sem Value} {g : Int → Int}
 (rule : ∀ (i : Int) (t : Tok) (s : Shared) (Q : Value → Shared → Prop) (E : Value → Shared → Prop), Q (.int (g i) s.toks) { s with toks := s.toks + 1 } → wpAny (model X.prog X.w) X.A (f (.int i t)) Q E s) :
 UnR X f (rU fun i => .int (g i)) := by
 intro pins s σ H x v Q I rx h
 obtain ⟨i, rfl, q⟩ := h
 obtain ⟨t, rfl⟩ := rx
 exact rule i t s _ _ ⟨.int (g i), H, I.tok _, ⟨_, rfl⟩, q⟩
theorem Ad : UnR X (unaryOp .USub) (rU fun i => .int (-i)) := unI fun _ _ _ _ _ q => neg_int q
end
def xo : V → V → Bool
 | .non, .non => true | .non, .int _ => true | .int _, .non => true | .non, .bl _ => true | .bl _, .non => true | .non, .str _ => true | .str _, .non => true
 | .int _, .int _ => true | .bl _, .bl _ => true | .str _, .str _ => true | .byt _, .byt _ => true
 | .int _, .str _ => true | .str _, .int _ => true | .bl _, .str _ => true | .str _, .bl _ => true
 | _, _ => false
def rEq : R2 := fun x y H Q => xo x y = true ∧ Q (.bl (decide (x = y))) H
def rNe : R2 := fun x y H Q => xo x y = true ∧ Q (.bl (!decide (x = y))) H
theorem pZ {i j : Int} : decide (V.int i = V.int j) = (i == j) := by
 rw [Bool.eq_iff_iff]
 simp
theorem tS {i j : Bool} : decide (V.bl i = V.bl j) = (i == j) := by
 rw [Bool.eq_iff_iff]
 simp
theorem p5 {i j : Str} : decide (V.str i = V.str j) = (i == j) := by
 rw [Bool.eq_iff_iff]
 simp
theorem p6 {i j : Array UInt8} : decide (V.byt i = V.byt j) = (i.toList == j.toList) := by
 rw [Bool.eq_iff_iff]
 cases i
 cases j
 simp
section
variable {X : Cx} {a b c : Expr} {ta tb tc : TE} {pos : Pos}
theorem aG {pins : List (Addr × Obj)} {σ : St} {H : Hp} {s : Shared} {Q : VK} {k k' : Bool} (I : Inv X pins σ H s) (q : Q (.bl k) H) (e : k = k') : EP X pins σ Q (.bool k') s := by
 subst e
 exact ⟨.bl k, H, I, rfl, q⟩
theorem op_eq : OpR X (compareOp .Eq) rEq := by
 intro pins s σ H x y v u Q I rx ry h
 obtain ⟨hs, q⟩ := h
 cases x with
 | non =>
  cases rx
  cases y with
  | non => cases ry; exact PySem.EqNone.eq_none_none (aG I q (by simp))
  | bl j => cases ry; exact PySem.EqNone.eq_none_bool (aG I q (by simp))
  | int j => obtain ⟨t', rfl⟩ := ry; exact PySem.EqNone.eq_none_int (aG I q (by simp))
  | str j => obtain ⟨t', rfl⟩ := ry; exact PySem.EqNone.eq_none_str (aG I q (by simp))
  | _ => exact absurd (show false = true from hs) Bool.false_ne_true
 | bl i =>
  cases rx
  cases y with
  | non => cases ry; exact PySem.EqNone.eq_bool_none (aG I q (by simp))
  | bl j => cases ry; exact eq_bool (aG I q tS)
  | str j => obtain ⟨t', rfl⟩ := ry; exact PySem.EqMixed.eq_bool_str (aG I q (by simp))
  | _ => exact absurd (show false = true from hs) Bool.false_ne_true
 | int i =>
  obtain ⟨t, rfl⟩ := rx
  cases y with
  | non => cases ry; exact PySem.EqNone.eq_int_none (aG I q (by simp))
  | int j => obtain ⟨t', rfl⟩ := ry; exact eq_int (aG I q pZ)
  | str j => obtain ⟨t', rfl⟩ := ry; exact PySem.EqMixed.eq_int_str (aG I q (by simp))
  | _ => exact absurd (show false = true from hs) Bool.false_ne_true
 | str i =>
  obtain ⟨t, rfl⟩ := rx
  cases y with
  | non => cases ry; exact PySem.EqNone.eq_str_none (aG I q (by simp))
  | bl j => cases ry; exact PySem.EqMixed.eq_str_bool (aG I q (by simp))
  | int j => obtain ⟨t', rfl⟩ := ry; exact PySem.EqMixed.eq_str_int (aG I q (by simp))
  | str j => obtain ⟨t', rfl⟩ := ry; exact eq_str (aG I q p5)
  | _ => exact absurd (show false = true from hs) Bool.false_ne_true
 | byt i =>
  obtain ⟨t, rfl⟩ := rx
  cases y with
  | byt j => obtain ⟨t', rfl⟩ := ry; exact PySem.W.eq_bytes (aG I q p6)
  | _ => exact absurd (show false = true from hs) Bool.false_ne_true
 | _ => cases y <;> exact absurd (show false = true from hs) Bool.false_ne_true
theorem op_ne : OpR X (compareOp .NotEq) rNe := by
 intro pins s σ H x y v u Q I rx ry h
 obtain ⟨hs, q⟩ := h
 cases x with
 | non =>
  cases rx
  cases y with
  | non => cases ry; exact PySem.EqNone.ne_none_none (aG I q (by simp))
  | bl j => cases ry; exact PySem.EqNone.ne_none_bool (aG I q (by simp))
  | int j => obtain ⟨t', rfl⟩ := ry; exact PySem.EqNone.ne_none_int (aG I q (by simp))
  | str j => obtain ⟨t', rfl⟩ := ry; exact PySem.EqNone.ne_none_str (aG I q (by simp))
  | _ => exact absurd (show false = true from hs) Bool.false_ne_true
 | bl i =>
  cases rx
  cases y with
  | non => cases ry; exact PySem.EqNone.ne_bool_none (aG I q (by simp))
  | bl j => cases ry; exact ne_bool (aG I q (congrArg not tS))
  | str j => obtain ⟨t', rfl⟩ := ry; exact PySem.EqMixed.ne_bool_str (aG I q (by simp))
  | _ => exact absurd (show false = true from hs) Bool.false_ne_true
 | int i =>
  obtain ⟨t, rfl⟩ := rx
  cases y with
  | non => cases ry; exact PySem.EqNone.ne_int_none (aG I q (by simp))
  | int j => obtain ⟨t', rfl⟩ := ry; exact ne_int (aG I q (congrArg not pZ))
  | str j => obtain ⟨t', rfl⟩ := ry; exact PySem.EqMixed.ne_int_str (aG I q (by simp))
  | _ => exact absurd (show false = true from hs) Bool.false_ne_true
 | str i =>
  obtain ⟨t, rfl⟩ := rx
  cases y with
  | non => cases ry; exact PySem.EqNone.ne_str_none (aG I q (by simp))
  | bl j => cases ry; exact PySem.EqMixed.ne_str_bool (aG I q (by simp))
  | int j => obtain ⟨t', rfl⟩ := ry; exact PySem.EqMixed.ne_str_int (aG I q (by simp))
  | str j => obtain ⟨t', rfl⟩ := ry; exact ne_str (aG I q (congrArg not p5))
  | _ => exact absurd (show false = true from hs) Bool.false_ne_true
 | byt i =>
  obtain ⟨t, rfl⟩ := rx
  cases y with
  | byt j => obtain ⟨t', rfl⟩ := ry; exact PySem.W.ne_bytes (aG I q (congrArg not p6))
  | _ => exact absurd (show false = true from hs) Bool.false_ne_true
 | _ => cases y <;> exact absurd (show false = true from hs) Bool.false_ne_true
theorem op_gt : OpR X (compareOp .Gt) (rI0 fun i j => .bl (decide (j < i))) := opB0 fun _ _ _ _ _ _ _ q => gt_int q
theorem OpR.or {f : Value → Value → Sem Value} {r r' : R2} (h : OpR X f r) (h' : OpR X f r') : OpR X f (fun x y H Q => r x y H Q ∨ r' x y H Q) := by
 intro pins s σ H x y v u Q I rx ry q
 rcases q with q | q
 ·exact h pins s σ H x y v u Q I rx ry q
 ·exact h' pins s σ H x y v u Q I rx ry q
theorem om (b : Expr) {op : CmpOp} (h : op ≠ .In := by decide) (h2 : op ≠ .NotIn := by decide) : behindInMarks op b = false := by
 have e1 : (op == CmpOp.In) = false := by cases op <;> first | rfl | exact absurd rfl h
 have e2 : (op == CmpOp.NotIn) = false := by cases op <;> first | rfl | exact absurd rfl h2
 cases b <;> simp [behindInMarks, e1, e2]
def tTest (t : TE) : TT := fun σ H Q => t σ H fun x H' => ∃ k, x = .bl k ∧ Q k H'
theorem xq {op : CmpOp} {r : R2} (ho : OpR X (compareOp op) r) (ha : PE X a ta) (hb : PE X b tb) (hm : behindInMarks op b = false) : PT X (.Compare a [op] [b] pos) (tTest (tOp r ta tb)) := by
 intro pins s σ H Q I h
 refine wpAny_isTrue_Compare1 (thn (ha pins s σ H _ I h) fun v s1 ⟨x, H1, I1, r1, q1⟩ => thn (hb pins s1 σ H1 _ I1 q1) fun u s2 ⟨y, H2, I2, r2, q2⟩ =>
  thn (ho pins s2 σ H2 x y v u _ I2 r1 r2 q2) fun c s3 ⟨z, H3, I3, r3, k, e, q3⟩ => ?_) hm
 subst e
 cases r3
 exact wpAny_truthy_bool ⟨H3, I3, q3⟩
theorem oq : (sizeLine : Nat) < 2 ^ 63 := by rw [sizeLine_eq]; decide
theorem oA : OpR X (binaryOp .Add) (fun x y H Q => ∃ i j, x = .str i ∧ y = .str j ∧ i.length + j.length ≤ sizeLine ∧ Q (.str (i ++ j)) H) := by
 intro pins s σ H x y v u Q I rx ry h
 obtain ⟨i, j, rfl, rfl, hz, q⟩ := h
 obtain ⟨t, rfl⟩ := rx
 obtain ⟨t', rfl⟩ := ry
 exact add_str (fun t' tk => ⟨.str (i ++ j), H, I.tok _, ⟨_, rfl⟩, q⟩) hz
theorem vals1 {x : V} {us : List Value} (r : Vals [x] us) : ∃ u, us = [u] ∧ RelV x u := by
 cases r with
 | cons r1 r2 => cases r2; exact ⟨_, rfl, r1⟩
theorem vals2 {x y : V} {us : List Value} (r : Vals [x, y] us) : ∃ u w', us = [u, w'] ∧ RelV x u ∧ RelV y w' := by
 cases r with
 | cons r1 r2 =>
  cases r2 with
  | cons r3 r4 => cases r4; exact ⟨_, _, rfl, r1, r3⟩
theorem rC (hc : X.calm = true) : bV X (.builtin "max") (fun xs H Q => ∃ i j, xs = [.int i, .int j] ∧ Q (.int (if j > i then j else i)) H) := by
 intro pins s σ H xs us Q I r h
 obtain ⟨i, j, rfl, q⟩ := h
 obtain ⟨u, w', rfl, ⟨t, rfl⟩, ⟨t', rfl⟩⟩ := vals2 r
 refine max_two_ints (I.ok.hd hc) fun h' tk k => ⟨_, H, I.kept k, ?_, q⟩
 by_cases hj : j > i
 ·rw [if_pos hj, if_pos hj]; exact ⟨_, rfl⟩
 ·rw [if_neg hj, if_neg hj]; exact ⟨_, rfl⟩
theorem rD (hc : X.calm = true) : bV X (.builtin "min") (fun xs H Q => ∃ i j, xs = [.int i, .int j] ∧ Q (.int (if j < i then j else i)) H) := by
 intro pins s σ H xs us Q I r h
 obtain ⟨i, j, rfl, q⟩ := h
 obtain ⟨u, w', rfl, ⟨t, rfl⟩, ⟨t', rfl⟩⟩ := vals2 r
 refine min_two_ints (I.ok.hd hc) fun h' tk k => ⟨_, H, I.kept k, ?_, q⟩
 by_cases hj : j < i
 ·rw [if_pos hj, if_pos hj]; exact ⟨_, rfl⟩
 ·rw [if_neg hj, if_neg hj]; exact ⟨_, rfl⟩
end
end L2
namespace L2
open PySem PySem.Spec PyProof.Rows
structure ObjM (h : Heap) (x dx C : Addr) (mA : Str → Option Value) : Prop where
 obj : h.get? x = some (PySem.W.instObj C dx)
 ns : h.Ns1 dx mA
 ne : dx ≠ x
section
variable {prog : Program} {w : World} {A : Around} {E : Value → Shared → Prop} {s : Shared} {K : PySem.W.Frag} {x dx C f : Addr} {mA : Str → Option Value} {name : Str} {v : Value}
end
theorem gP.some_of {v : V} {o : Option Value} (r : gP (some v) o) : ∃ u, o = some u ∧ RelV v u := by
 cases o with
 | none => exact (show False from r).elim
 | some u => exact ⟨u, rfl, r⟩
section
variable {P : Program} {w : World} {H H' : Hp} {h h' : Heap} {a C dx : Addr} {fs fs' : List (Str × V)}
end
structure Cls (K : PySem.W.Frag) (C : Addr) : Prop where
 pg : PySem.W.plainGet K C Str.empty = true
 hd : PySem.W.hasDictIn K C = true
 po : PySem.W.plainOver K C = true
 sa : PySem.W.findIn K (.ref C) "__setattr__" = some (some (.builtin "object.__setattr__"))
theorem Cls.get {K : PySem.W.Frag} {C : Addr} (c : Cls K C) (f : Str) : PySem.W.plainGet K C f = true := c.pg
structure Con (K : PySem.W.Frag) (C : Addr) (f : Str) (v : V) (u : Value) : Prop where
 at_ : PySem.W.findIn K (.ref C) f = some (some u)
 rel : RelV v u
 get : PySem.W.specialIn K u "__get__" = some none
 cp : PySem.W.copiedNames.contains f = false
structure Meth (K : PySem.W.Frag) (C : Addr) (m : Str) (f : Addr) : Prop where
 at_ : PySem.W.findIn K (.ref C) m = some (some (.ref f))
 fn : PySem.W.isFn K (.ref f) = true
 kp : PySem.W.keepIn K (.ref f) = true
section
variable {X : Cx} {pins : List (Addr × Obj)} {σ : St} {H : Hp} {s : Shared} {a C dx : Addr} {fs : List (Str × V)} {f : Str} {v : V} {A : Around} {E : Value → Shared → Prop}
theorem Inv.made (I : Inv X pins σ H s) : Inv X pins σ (upd (upd H s.heap.objs.size (.own (s.heap.objs.size + 1))) (s.heap.objs.size + 1) (.ins C s.heap.objs.size []))
 { s with heap := (s.heap.push PySem.W.emptyDict).push (PySem.W.instObj C s.heap.objs.size) } := by
 have e1 : (s.heap.push PySem.W.emptyDict).get? s.heap.objs.size = some PySem.W.emptyDict := Heap.get?_push_size s.heap rfl
 have e2 : ((s.heap.push PySem.W.emptyDict).push (PySem.W.instObj C s.heap.objs.size)).get? (s.heap.objs.size + 1) = some (PySem.W.instObj C s.heap.objs.size) := by
  have := Heap.get?_push_size (s.heap.push PySem.W.emptyDict) (o := PySem.W.instObj C s.heap.objs.size) rfl
  rwa [Heap.size_push] at this
 have e3 : (s.heap.push PySem.W.emptyDict).Ns s.heap.objs.size (fun _ => none) := ⟨PySem.W.emptyDict, #[], _, e1, rfl, (fun e he => absurd he (by simp)), fun _ => rfl⟩
 have I1 := I.laid (a := s.heap.objs.size) (o := .own (s.heap.objs.size + 1)) (h' := s.heap.push PySem.W.emptyDict) (t' := s.toks) (fun b u q => Heap.get?_push_of_some _ q) (Nat.le_refl _) ⟨_, e1⟩
 refine I1.laid (a := s.heap.objs.size + 1) (o := .ins C s.heap.objs.size []) (t' := s.toks) (fun b u q => Heap.get?_push_of_some _ q) (Nat.le_of_eq (Heap.size_push _ _)) ?_
 have ne : s.heap.objs.size ≠ s.heap.objs.size + 1 := Nat.ne_of_lt (Nat.lt_succ_self _)
 refine ⟨by rw [ah ne, ai], Nat.zero_le _, ne, e2, fun _ => none, (Heap.Ns1.of_empty e3).at fun o q => Heap.get?_push_of_some _ q, fun _ => True.intro, fun y hy => absurd rfl hy⟩
end
def InOp (X : Cx) (op : Operator) (rd : V → V → Hp → VK → Prop) : Prop :=
 ∀ (pins : List (Addr × Obj)) (s : Shared) (σ : St) (H : Hp) (x y : V) (u v : Value) (Q : VK), Inv X pins σ H s → RelV x u → RelV y v → rd x y H Q → wpAny (model X.prog X.w) X.A (inplaceOp op u v) (EP X pins σ Q) X.xe s
section
variable {X : Cx} {o e value : Expr} {f : Str} {pos pos' tpos : Pos} {ta tv : TE}
end
section
variable {X : Cx} {pins : List (Addr × Obj)} {σ : St} {H : Hp} {s : Shared} {A : Around} {E : Value → Shared → Prop} {Q : Value → Shared → Prop} {c : Value} {b : Bool}
inductive iE (K : PySem.W.Frag) (H : Hp) : V → Value → Prop where
 | non : iE K H .non (.type "NoneType")
 | bl (x : Bool) : iE K H (.bl x) (.type "bool")
 | int (i : Int) : iE K H (.int i) (.type "int")
 | str (x : Str) : iE K H (.str x) (.type "str")
 | flt (x : UInt64) : iE K H (.flt x) (.type "float")
 | lst {a : Addr} {xs : List V} (e : H a = some (.lst xs)) : iE K H (.ref a) (.type "list")
 | frz {a : Addr} {o : Obj} {xs : List V} (e : H a = some (.frz o (.lst xs))) : iE K H (.ref a) (.type "list")
 | tup {a : Addr} {xs : List V} (e : H a = some (.tup xs)) : iE K H (.ref a) (.type "tuple")
 | dK {a : Addr} {kvs : List (Key × V)} (e : H a = some (.dK kvs)) : iE K H (.ref a) (.type "dict")
 | dT {a : Addr} {kvs : List (List Key × Addr × V)} (e : H a = some (.dT kvs)) : iE K H (.ref a) (.type "dict")
 | ins {a C dx : Addr} {fs : List (Str × V)} (e : H a = some (.ins C dx fs)) (cl : Cls K C) (ha : PySem.W.findIn K (.ref C) "__class__" = some (some (.builtin "object.__class__")))
  (hn : PySem.W.specialIn K (.builtin "object.__class__") "__get__" = some (some (.builtin "getset_descriptor.__get__"))) (htk : PySem.W.takesIn K (.builtin "object.__class__") = some true)
  (hm : PySem.W.mroIn K C (.type "object") = some true) : iE K H (.ref a) (.ref C)
end
end L2
namespace L2
open PySem PySem.Spec PyProof.Rows
structure cL (k : Nat) (A : Around) : Prop where
 hd : A.handled = none
 dp : A.depth + 3 * k + 5 < recursionLimit
 un : A.units + 16 * k + 200 < cLine
theorem cL.mono {j k : Nat} {A : Around} (r : cL k A) (h : j ≤ k) : cL j A := ⟨r.hd, by have := r.dp; omega, by have := r.un; omega⟩
theorem cL.deeper {k : Nat} {A : Around} (r : cL (k + 1) A) (env : Env) : cL k (A.deeper env) :=
 ⟨r.hd, by have := r.dp; show A.depth + 1 + 3 * k + 5 < _; omega, by have := r.un; show A.units + 3 + 16 * k + 200 < _; omega⟩
theorem cL.in1 {k : Nat} {A : Around} (r : cL (k + 1) A) : cL k A.in1 :=
 ⟨r.hd, by have := r.dp; show A.depth + 3 * k + 5 < _; omega, by have := r.un; show A.units + 1 + 16 * k + 200 < _; omega⟩
theorem cL.depth {k : Nat} {A : Around} (r : cL k A) : A.depth < recursionLimit := by have := r.dp; omega
theorem cL.units {k : Nat} {A : Around} (r : cL k A) : A.units + 64 < cLine := by have := r.un; omega
def tNil : TA := fun _ H Q => Q [] H
def tCons (ta : TE) (tr : TA) : TA := fun σ H Q => ta σ H fun x H1 => tr σ H1 fun xs H2 => Q (x :: xs) H2
section
variable {X : Cx} {e : Expr} {es : List Expr} {te : TE} {t : TA} {pos : Pos}
theorem cF : PA X [] tNil := fun _ _ _ _ H Q I h => Calls.spliced_nil ⟨[], H, I, .nil, h⟩
theorem bq (ha : PE X e te) (hr : PA X es t) (hs : starEach (e :: es) X.env = (false, eval e X.env) :: starEach es X.env := by rfl) : PA X (e :: es) (tCons te t) := by
 intro pos pins s σ H Q I h
 rw [hs]
 show wpAny _ _ (spliced ((false, eval e X.env) :: backTo pos (starEach es X.env))) _ _ s
 refine Calls.spliced_cons (thn (ha pins s σ H _ I h) fun u s1 ⟨x, H1, I1, r1, q1⟩ => ?_)
 exact thn (hr pos pins s1 σ H1 _ I1 q1) fun us s2 ⟨xs, H2, I2, r2, q2⟩ => ⟨x :: xs, H2, I2, .cons r1 r2, q2⟩
def tTup (t : TA) : TE := fun σ H Q => t σ H fun xs H1 => xs.length ≤ sizeLine ∧ ∀ p, H1 p = none → Q (.ref p) (upd H1 p (.tup xs))
def tLst (t : TA) : TE := fun σ H Q => t σ H fun xs H1 => xs.length ≤ sizeLine ∧ ∀ p, H1 p = none → Q (.ref p) (upd H1 p (.lst xs))
theorem Ae {x1} (h : PA X es t) : PE X (.Tuple es x1 pos) (tTup t) := by
 intro pins s σ H Q I hq
 refine wpAny_Tuple_spliced (thn (h pos pins s σ H _ I hq) fun us s1 ⟨xs, H1, I1, r, z, q⟩ => ⟨by rw [← r.length]; exact z, ?_⟩)
 have hf : H1 s1.heap.objs.size = none := I1.hok.fresh (Nat.le_refl _)
 refine ⟨.ref s1.heap.objs.size, upd H1 s1.heap.objs.size (.tup xs), I1.laid (t' := s1.toks) (fun b u e => Heap.get?_push_of_some _ e) (Nat.le_refl _) ?_, rfl, q _ hf⟩
 exact ⟨z, us, r, ⟨_, Heap.get?_push_size _ rfl, rfl, _, rfl⟩⟩
theorem Af (h : PA X es t) : PE X (.List es pos) (tLst t) := by
 intro pins s σ H Q I hq
 refine wpAny_List_spliced (thn (h pos pins s σ H _ I hq) fun us s1 ⟨xs, H1, I1, r, z, q⟩ => ⟨by rw [← r.length]; exact z, ?_⟩)
 have hf : H1 s1.heap.objs.size = none := I1.hok.fresh (Nat.le_refl _)
 refine ⟨.ref s1.heap.objs.size, upd H1 s1.heap.objs.size (.lst xs), I1.laid (t' := s1.toks) (fun b u e => Heap.get?_push_of_some _ e) (Nat.le_refl _) ?_, rfl, q _ hf⟩
 exact ⟨z, us, 0, r, Heap.get?_push_size _ rfl⟩
end
abbrev Sp := List V → Hp → VK → XK → Prop
abbrev CXT := List Env → Hp → Shared → XK → Value → Shared → Prop
structure oB (P : Program) (w : World) (K : PySem.W.Frag) (mg : Str → Option Value) (base : Heap) (A : Around) (outer : List Env) (s : Shared) (H : Hp) : Prop where
 frames : A.frames = some outer
 mod : Mod K mg base
 bs : ∀ b o, base.get? b = some o → s.heap.get? b = some o ∧ H b = none
 bsz : base.objs.size ≤ s.heap.objs.size
 fu : s.heap.FunFrames base outer
 frf : ∀ b ∈ frs outer, H b = none
 hok : HOk P w H s.heap
 bare : AllBare s.gens
def CE (outer : List Env) (P : Program) (w : World) (H : Hp) (s : Shared) (Q : VK) (u : Value) (s' : Shared) : Prop :=
 ∃ v H', s'.os = s.os ∧ AllBare s'.gens ∧ Un (frs outer) [] H H' s.heap s'.heap ∧ HOk P w H' s'.heap ∧ RelV v u ∧ Q v H'
def CR (CX : CXT) (outer : List Env) (P : Program) (w : World) (H : Hp) (s : Shared) (Q : VK) (E : XK) (r : Result) (s' : Shared) : Prop :=
 match r with
 | .ok (.ret u) => CE outer P w H s Q u s'
 | .ok _ => False
 | .error e => CX outer H s E e s'
structure aX (P : Program) (w : World) (K : PySem.W.Frag) (mg : Str → Option Value) (base : Heap) (CX : CXT) (k : Nat) (f : Addr) (fd : FuncData) (ps : List Str) (sp : Sp) : Prop where
 len : ∀ vs H Q E, sp vs H Q E → vs.length = ps.length
 run : ∀ (A : Around) (outer : List Env) (s : Shared) (H : Hp) (args : Args) (us : List Value) (vs : List V) (Q : VK) (E : XK), cL k A → oB P w K mg base A outer s H → BindsTo s fd args (ps.zip us) → Vals vs us → sp vs H Q E →
  codeAny (model P w) A (.call (.ref f) args) (CR CX outer P w H s Q E) s
theorem aX.mono {P : Program} {w : World} {K : PySem.W.Frag} {mg : Str → Option Value} {base : Heap} {CX : CXT} {j k : Nat} {f : Addr} {fd : FuncData} {ps : List Str} {sp : Sp} (F : aX P w K mg base CX j f fd ps sp) (h : j ≤ k) :
 aX P w K mg base CX k f fd ps sp := ⟨F.len, fun A outer s H args us vs Q E hr => F.run A outer s H args us vs Q E (hr.mono h)⟩
theorem aX.imp {P : Program} {w : World} {K : PySem.W.Frag} {mg : Str → Option Value} {base : Heap} {CX : CXT} {k : Nat} {f : Addr} {fd : FuncData} {ps : List Str} {sp sp' : Sp} (F : aX P w K mg base CX k f fd ps sp)
 (h : ∀ vs H Q E, sp' vs H Q E → sp vs H Q E) : aX P w K mg base CX k f fd ps sp' :=
 ⟨fun vs H Q E q => F.len vs H Q E (h _ _ _ _ q), fun A outer s H args us vs Q E hr he hb hv hs => F.run A outer s H args us vs Q E hr he hb hv (h _ _ _ _ hs)⟩
theorem oB.in1 {P : Program} {w : World} {K : PySem.W.Frag} {mg : Str → Option Value} {base : Heap} {A : Around} {outer : List Env} {s : Shared} {H : Hp} (e : oB P w K mg base A outer s H) :
 oB P w K mg base A.in1 outer s H := ⟨e.frames, e.mod, e.bs, e.bsz, e.fu, e.frf, e.hok, e.bare⟩
section
variable {X : Cx} {pins : List (Addr × Obj)} {σ : St} {H : Hp} {s s' : Shared}
theorem Inv.env0 (I : Inv X pins σ H s) : oB X.prog X.w X.K X.mg X.base X.A X.stack s H :=
 ⟨I.ok.frames, I.ok.mod, I.bs, Nat.le_trans I.ok.bsz I.sz, I.stack, I.pW, I.hok, I.bare⟩
theorem Inv.after {Q : VK} {u : Value} (I : Inv X pins σ H s) (h : CE X.stack X.prog X.w H s Q u s') : EP X pins σ Q u s' := by
 obtain ⟨v, H', os, bare, un, hok, r, q⟩ := h
 obtain ⟨hh, g, d, t, os'⟩ := s'
 obtain rfl : os' = s.os := os
 exact ⟨v, H', I.call (h' := hh) (g' := g) (d' := d) (t' := t) (ch := []) un hok bare (fun b z => absurd z (by simp)), r, q⟩
end
def Binds (K : PySem.W.Frag) (fd : FuncData) (ps : List Str) (ds : List Value) : Prop :=
 ∀ (s : Shared) (us : List Value), K.In s.heap → (us ++ ds).length = ps.length → BindsTo s fd ⟨us, []⟩ (ps.zip (us ++ ds))
theorem Binds.all {K : PySem.W.Frag} {fd : FuncData} {ps : List Str} (h : ∀ us : List Value, us.length = ps.length → bindArgs fd ⟨us, []⟩ = pure (ps.zip us)) : Binds K fd ps [] := fun s us _ hl => by
 rw [List.append_nil] at hl ⊢
 exact .of_eq (h us hl)
section
variable {X : Cx} {CX : CXT} {k : Nat} {f C : Addr} {fd : FuncData} {ps : List Str} {sp : Sp} {dvs : List V} {ds : List Value} {E : XK} {x m : Str} {p pos apos : Pos} {e o : Expr} {es : List Expr} {ta : TE} {t : TA}
structure Mk (K : PySem.W.Frag) (C f : Addr) : Prop where
 makes : PySem.W.makesIn K C = true
 init : PySem.W.findIn K (.ref C) "__init__" = some (some (.ref f))
 fn : PySem.W.isFn K (.ref f) = true
 kp : PySem.W.keepIn K (.ref C) = true
end
section
variable {X : Cx} {CX : CXT} {k : Nat} {f C : Addr} {fd : FuncData} {ps ks : List Str} {sp : Sp} {E : XK} {x m : Str} {p pos apos kpos : Pos} {e o : Expr} {es : List Expr} {kws : List Keyword} {te ta : TE} {t tk : TA} {nm : Option Str}
structure KBinds (K : PySem.W.Frag) (fd : FuncData) (ps ks : List Str) (g : List Value → List Value → List Value) (gV : List V → List V → List V) : Prop where
 to : ∀ (s : Shared) (us ws : List Value), K.In s.heap → (g us ws).length = ps.length → BindsTo s fd ⟨us, ks.zip ws⟩ (ps.zip (g us ws))
 rel : ∀ {vs : List V} {us : List Value} {zs : List V} {ws : List Value}, Vals vs us → Vals zs ws → Vals (gV vs zs) (g us ws)
variable {g : List Value → List Value → List Value} {gV : List V → List V → List V}
end
structure aD (N P : List Str) (sc : Scope) : Prop where
 kind : sc.kind = .function
 co : sc.isCoroutine = false
 gen : sc.isGenerator = false
 nd : N.Nodup
 pre : N.take P.length = P
 par : ∀ x ∈ P, sc.names.lookup x = some .local ∨ sc.names.lookup x = some .cell
 nofree : ∀ y ∈ sc.names, y.2 ≠ .free
theorem jI {kindOf : Str → Option NameKind} {x : Str} : ∀ {binds : List (Str × Value)} {m : Str → Option Value}, (∀ v, (x, v) ∉ binds) → bindL kindOf binds m x = m x
 | [], _, _ => rfl
 | (n, v) :: r, m, h => by
  unfold bindL
  rw [jI fun w hw => h w (List.mem_cons_of_mem _ hw)]
  split
  ·have : x ≠ n := by rintro rfl; exact h v List.mem_cons_self
   simp [this]
  ·rfl
theorem jJ {kindOf : Str → Option NameKind} {x : Str} : ∀ {binds : List (Str × Value)} {m : Str → Option Value}, (∀ v, (x, v) ∉ binds) → bindC kindOf binds m x = m x
 | [], _, _ => rfl
 | (n, v) :: r, m, h => by
  unfold bindC
  rw [jJ fun w hw => h w (List.mem_cons_of_mem _ hw)]
  split
  ·rfl
  ·have : x ≠ n := by rintro rfl; exact h v List.mem_cons_self
   simp [this]
theorem jK {kindOf : Str → Option NameKind} {x : Str} {v : Value} : ∀ {P : List Str} {vs : List Value} {i : Nat} {m : Str → Option Value}, P.Nodup → P[i]? = some x → vs[i]? = some v → kindOf x = some .local →
 bindL kindOf (P.zip vs) m x = some v
 | [], _, _, _, _, h, _, _ => by simp at h
 | _ :: _, [], _, _, _, _, h, _ => by simp at h
 | p :: P, w :: vs, 0, m, nd, h1, h2, hk => by
  simp at h1 h2; subst h1; subst h2
  show bindL kindOf ((p, w) :: P.zip vs) m p = _
  unfold bindL
  rw [jI fun v hv => (List.nodup_cons.mp nd).1 (List.of_mem_zip hv).1, if_pos hk]
  simp
 | p :: P, w :: vs, i + 1, m, nd, h1, h2, hk => by
  show bindL kindOf ((p, w) :: P.zip vs) m x = _
  unfold bindL
  exact jK (i := i) (List.nodup_cons.mp nd).2 (by simpa using h1) (by simpa using h2) hk
theorem jL {kindOf : Str → Option NameKind} {x : Str} {v : Value} : ∀ {P : List Str} {vs : List Value} {i : Nat} {m : Str → Option Value}, P.Nodup → P[i]? = some x → vs[i]? = some v → kindOf x ≠ some .local →
 bindC kindOf (P.zip vs) m x = some v
 | [], _, _, _, _, h, _, _ => by simp at h
 | _ :: _, [], _, _, _, _, h, _ => by simp at h
 | p :: P, w :: vs, 0, m, nd, h1, h2, hk => by
  simp at h1 h2; subst h1; subst h2
  show bindC kindOf ((p, w) :: P.zip vs) m p = _
  unfold bindC
  rw [jJ fun v hv => (List.nodup_cons.mp nd).1 (List.of_mem_zip hv).1, if_neg hk]
  simp
 | p :: P, w :: vs, i + 1, m, nd, h1, h2, hk => by
  show bindC kindOf ((p, w) :: P.zip vs) m x = _
  unfold bindC
  exact jL (i := i) (List.nodup_cons.mp nd).2 (by simpa using h1) (by simpa using h2) hk
def start (N : List Str) (vs : List V) : St := vs.map some ++ List.replicate (N.length - vs.length) none
def lT (CX : CXT) (P : Program) (w : World) (K : PySem.W.Frag) (mg : Str → Option Value) (base : Heap) (N : List Str) (qual : Str) (scope : Scope) (f : Addr) (cd : Value) (A : Around) (outer : List Env) (s : Shared) (H : Hp) (E : XK) : Cx where
 prog := P
 w := w
 K := K
 mg := mg
 base := base
 A := A.deeper (envOfC qual scope s.heap.objs.size f cd)
 N := N
 s₀ := s
 H₀ := H
 env := envOfC qual scope s.heap.objs.size f cd
 outer := outer
 stack := envOfC qual scope s.heap.objs.size f cd :: outer
 ex := []
 calm := true
 fn := fun _ => true
 pn := []
 xe := fun e s' => wpAny (model P w) (A.deeper (envOfC qual scope s.heap.objs.size f cd)) (leaving (envOfC qual scope s.heap.objs.size f cd) e) (fun _ s'' => CX outer H s E e s'') (fun e' s'' => CX outer H s E e' s'') s'
theorem lU {sc : Scope} {n : Nat} {x : Str} (h : sc.names.lookup x = some .cell) : ∃ c, (cellsFrom n sc.names []).lookup x = some c := by
 have q := PySem.W.cellsFrom_some sc.names n [] (.inl h)
 exact Option.isSome_iff_exists.mp q
theorem rE {CX : CXT} {P : Program} {w : World} {K : PySem.W.Frag} {mg : Str → Option Value} {base : Heap} {N ps : List Str} {qual : Str} {scope : Scope} {f : Addr} {cd : Value} {A : Around} {outer : List Env} {s s1 : Shared} {H : Hp} {E : XK} {us : List Value} {vs : List V}
 (S : aD N ps scope) (hd : A.handled = none) (e0 : oB P w K mg base A outer s H) (hl : vs.length = ps.length) (r : Vals vs us)
 (x : InCallC s s.heap.objs.size (bindL (envOfC qual scope s.heap.objs.size f cd).kindOf (ps.zip us) fun _ => none) (cellsFrom (s.heap.objs.size + 1) scope.names []) (bindC (envOfC qual scope s.heap.objs.size f cd).kindOf (ps.zip us) fun _ => none) s1) :
 Inv (lT CX P w K mg base N qual scope f cd A outer s H E) [] (start N vs) H s1 := by
 have hpl : ps.length ≤ N.length := by have := congrArg List.length S.pre; rw [List.length_take] at this; omega
 obtain ⟨h1, tk, rfl, hk⟩ := x.done
 have noA : ∀ b : Addr, b ∉ (lT CX P w K mg base N qual scope f cd A outer s H E).ex := fun b z => absurd (show b ∈ ([] : List Addr) from z) (by simp)
 refine ⟨⟨e0.mod, S.kind, rfl, rfl, Nat.le_refl _, fun y z c h1 h2 => ?_, fun y hy => ?_, fun y c _ h => ?_, fun _ => hd, Around.frames_deeper e0.frames, .inr ⟨rfl, rfl⟩, fun b z => absurd z (noA b), e0.bs, e0.bsz, fun b _ _ => noA b, fun b z => absurd z (noA b), e0.fu, e0.frf⟩,
  rfl, e0.bare, Un.kept hk, ⟨_, x.toInCall.ns, fun i y v h1 h2 h3 => ?_⟩, fun y c h => ⟨_, x.cell y c h⟩, e0.hok.fresh (Nat.le_refl _), fun y c h => ?_, fun p hp => absurd (show p ∈ ([] : List (Addr × Obj)) from hp) (by simp), e0.hok.kept hk, ?_⟩
 ·exact name_of_addr x.apart (PySem.mem_of_lookup h1) (PySem.mem_of_lookup h2)
 ·have hy : scope.names.lookup y = some .cell ∨ scope.names.lookup y = some .free := hy
  rcases hy with hy | hy
  ·exact lU hy
  ·exact absurd rfl (S.nofree _ (PySem.mem_of_lookup hy))
 ·exact Nat.le_of_lt (x.above y c (PySem.mem_of_lookup h))
 ·have hi : i < vs.length := by
   unfold start at h2
   by_cases hi : i < vs.length
   ·exact hi
   ·rw [List.getElem?_append_right (by simpa using hi)] at h2
    rw [List.getElem?_replicate] at h2
    split at h2 <;> cases h2
  have ha : vs[i]? = some v := by
   unfold start at h2
   rw [List.getElem?_append_left (by simpa using hi), List.getElem?_map] at h2
   cases e : vs[i]? with
   | none => rw [e] at h2; cases h2
   | some a => rw [e] at h2; cases h2; rfl
  obtain ⟨u, hu, rv⟩ := r.get ha
  have hp : ps[i]? = some y := by
   rw [← S.pre, List.getElem?_take_of_lt (by omega)]; exact h1
  have ndP : ps.Nodup := by rw [← S.pre]; exact S.nd.sublist (List.take_sublist _ _)
  refine ⟨u, rv, ?_⟩
  rcases S.par y (List.mem_of_getElem? hp) with k | k
  ·exact .inl ⟨k, jK ndP hp hu k⟩
  ·obtain ⟨c, e⟩ := lU (n := s.heap.objs.size + 1) k
   refine .inr ⟨.inl k, c, e, ?_⟩
   have q := x.cell y c e
   rw [jL ndP hp hu (by show scope.names.lookup y ≠ _; rw [k]; decide)] at q
   exact q
 ·exact e0.hok.fresh (Nat.le_of_lt (x.above y c (PySem.mem_of_lookup h)))
 ·unfold start
  show _ = N.length
  rw [List.length_append, List.length_map, List.length_replicate]
  omega
theorem tT {CX : CXT} {P : Program} {w : World} {K : PySem.W.Frag} {mg : Str → Option Value} {base : Heap} {k : Nat} {f : Addr} {name qual : Str} {params : Arguments} {body : List Stmt} {scope : Scope} {dV kV doc pm cdv ct oc : Value} {an od : Option Addr}
 {osl : Array (Option Value)} {N ps : List Str} {sp : Sp} (lk : K.lookup f = some ⟨oc, od, .func (PySem.W.fnOf name qual params body scope dV kV doc pm an cdv ct), osl⟩) (hcd : PySem.W.codeIn K cdv qual = true) (S : aD N ps scope)
 (len : ∀ vs H Q E, sp vs H Q E → vs.length = ps.length)
 (hbody : ∀ (A : Around) (outer : List Env) (s : Shared) (H : Hp) (vs : List V) (Q : VK) (E : XK), cL k (A.deeper (envOfC qual scope s.heap.objs.size f cdv)) → sp vs H Q E →
   ∃ t, PSs (lT CX P w K mg base N qual scope f cdv A outer s H E) body t ∧ t { nx := fun _ H' => Q .non H', rt := Q } (start N vs) H) :
 aX P w K mg base CX (k + 1) f (PySem.W.fnOf name qual params body scope dV kV doc pm an cdv ct) ps sp := by
 refine ⟨len, fun A outer s H args us vs Q E hr e0 hb r hsp => ?_⟩
 have hl := len _ _ _ _ hsp
 have KX : K.In s.heap := e0.mod.kin.keeps fun b o e => (e0.bs b o e).1
 have lim : s.heap.NoLimit := e0.mod.nolimit.keeps fun b o e => (e0.bs b o e).1
 have hkind : ∀ y ∈ ps.zip us, scope.names.lookup y.1 = some .local ∨ (scope.names.lookup y.1 = some .cell ∧ ((cellsFrom (s.heap.objs.size + 1) scope.names []).lookup y.1).isSome = true) := fun ⟨n, v⟩ hy => by
  rcases S.par n (List.of_mem_zip hy).1 with q | q
  ·exact .inl q
  ·exact .inr ⟨q, PySem.W.cellsFrom_some _ _ _ (.inl q)⟩
 refine codeAny_call_function hr.depth (KX _ _ lk) rfl S.co S.gen rfl (PySem.W.codeRec_of KX hcd) (hb _ _ _ _ ?_)
 refine wpAny_newFunctionEnv_cells S.kind hkind fun env he s1 x => ?_
 subst he
 refine ⟨lim.keeps x.toInCall.keep, codeAny_func ?_⟩
 obtain ⟨t, ht, hq⟩ := hbody A outer s H vs Q E (hr.deeper _) hsp
 have I : Inv (lT CX P w K mg base N qual scope f cdv A outer s H E) [] (start N vs) H s1 := rE S hr.hd e0 hl r x
 refine wpAny_mono (ht [] s1 (start N vs) H _ I hq) (fun fl s' hs => ?_) fun e s' hs => hs
 have fin : ∀ {σ' : St} {H' : Hp} {v : V} {u : Value}, Inv (lT CX P w K mg base N qual scope f cdv A outer s H E) [] σ' H' s' → RelV v u → Q v H' → CE outer P w H s Q u s' :=
  fun {σ' H' v u} J rv q => ⟨v, H', J.os, J.bare, J.base, J.hok, rv, q⟩
 cases fl with
 | ret u =>
  obtain ⟨v, σ', H', J, rv, q⟩ := hs
  exact fin J rv q
 | next =>
  obtain ⟨σ', H', J, q⟩ := hs
  exact fin (v := V.non) (u := Value.none) J rfl q
 | brk =>
  obtain ⟨_, _, _, q⟩ := hs
  exact False.elim q
 | cont =>
  obtain ⟨_, _, _, q⟩ := hs
  exact False.elim q
end L2
namespace L2
open PySem PySem.Spec PyProof.Rows
section
variable {X : Cx} {x : Str} {p pos : Pos} {e : Expr} {es : List Expr} {t : TA} {id T : String} {r : List V → Hp → VK → Prop}
def tCB (r : List V → Hp → VK → Prop) (t : TA) : TE := fun σ H Q => t σ H fun vs H1 => r vs H1 Q
theorem tU (hc : bV X (.builtin id) r) (hg : Gl X x) (hm : X.mg x = none) (hv : bootBuiltins x = some (.builtin id)) (ha : PA X (e :: es) t) (hn : x ≠ "__name__" := by decide) (hdb : (x == ("__debug__" : Str)) = false := by decide)
 (he : starEach (e :: es) X.env = (false, eval e X.env) :: starEach es X.env := by rfl) (hpl : (backTo pos (starEach es X.env)).any (·.1) = false := by rfl) : PE X (.Call (.Name x p) (e :: es) [] pos) (tCB r t) := by
 intro pins s σ H Q I h
 refine wpAny_Call_Name_kw (ck I hg hm hv ?_ hn hdb)
 exact PyProof.Rows.callWith_builtin1 (thn (ha pos pins s σ H _ I h) fun us s1 ⟨vs, H1, I1, r1, q1⟩ => hc pins s1 σ H1 vs us Q I1 r1 q1) he hpl
theorem jM (hc : bV X (.type T) r) (hg : Gl X x) (hm : X.mg x = none) (hv : bootBuiltins x = some (.type T)) (ha : PA X (e :: es) t) (hn : x ≠ "__name__" := by decide) (hdb : (x == ("__debug__" : Str)) = false := by decide)
 (he : starEach (e :: es) X.env = (false, eval e X.env) :: starEach es X.env := by rfl) (hpl : (backTo pos (starEach es X.env)).any (·.1) = false := by rfl) : PE X (.Call (.Name x p) (e :: es) [] pos) (tCB r t) := by
 intro pins s σ H Q I h
 refine wpAny_Call_Name_kw (ck I hg hm hv ?_ hn hdb)
 exact PyProof.Rows.callWith_type1 (thn (ha pos pins s σ H _ I h) fun us s1 ⟨vs, H1, I1, r1, q1⟩ => hc pins s1 σ H1 vs us Q I1 r1 q1) he hpl
end
end L2
namespace HT
open PySem PyProof.Rows
def lexLt : List Int → List Int → Bool
 | [], [] => false
 | [], _ :: _ => true
 | _ :: _, [] => false
 | x :: xs, y :: ys => if x = y then lexLt xs ys else decide (x < y)
theorem bO (x y : Int) (xs ys : List Int) : lexLt (x :: xs) (y :: ys) = if x = y then lexLt xs ys else decide (x < y) := rfl
theorem jz : lexLt [] [] = false := rfl
theorem iF (y : Int) (ys : List Int) : lexLt [] (y :: ys) = true := rfl
theorem iG (x : Int) (xs : List Int) : lexLt (x :: xs) [] = false := rfl
theorem tV (A : Around) (s : Shared) (a : Int) (t : Tok) (c : Int) (u : Tok) : ∃ e, SeqAt.EqAt A s (.int a t) (.int c u) e ∧ (e = true ↔ a = c) :=
 ⟨(a == c), SeqAt.EqAt.int_int a t c u, by simp⟩
theorem tW (A : Around) (s : Shared) (a : Int) (t : Tok) (c : Int) (u : Tok) (prog : Program) (w : World) (E : Value → Shared → Prop) (Q : Value → Shared → Prop) (h : Q (.bool (decide (a < c))) s) :
 wpAny (model prog w) A (richCompare .Lt (.int a t) (.int c u)) Q E s :=
 (PyProof.Rows.lt_int h : wpAny (model prog w) A (compareOp .Lt (.int a t) (.int c u)) Q E s)
section
open PySem.SeqAt
open PySem.AutoSeq1 (wpAny_loadPart')
open PySem.MeetsSeq PySem.MeetsSeq2 PySem.MeetsSeq3
theorem jA (l b : Addr) (items items2 : Array Value) (n n2 : Nat) (dd dd2 : Option Addr) (sl sl2 : Array (Option Value)) (ns ms : List Int) (hi : IntsAre items.toList ns) (hj : IntsAre items2.toList ms) :
 Meets (Builtin.«tuple.__lt__» ⟨[.ref l, .ref b], []⟩)
  (fun _ R s => s.heap.get? l = some { cls := .type "tuple", dict := dd, data := .seq items n, slots := sl } ∧ s.heap.get? b = some { cls := .type "tuple", dict := dd2, data := .seq items2 n2, slots := sl2 } ∧
    R (.ok (.ret (.bool (lexLt ns ms)))) s) :=
 .of_wp fun prog w A R s h => by
  obtain ⟨hp, g, d, tk, os⟩ := s; obtain ⟨hl, hb, h⟩ := h
  have f2 := AutoSeq1.sub_tuple_tuple
  have z1 : items.size = ns.length := by rw [← hi.length]; simp
  have z2 : items2.size = ms.length := by rw [← hj.length]; simp
  wp_walk using wpAny_loadPart' hl, wpAny_loadPart' hb, wpAny_forIn_list _ (fun rest b s' => b.1 = none ∧ s' = ⟨hp, g, d, tk, os⟩ ∧ ∃ (vs ws : List Value) (ns' ms' : List Int), rest = vs.zip ws ∧
   IntsAre vs ns' ∧ IntsAre ws ms' ∧ ns'.length + items2.size = ms'.length + items.size ∧ R (.ok (.ret (.bool (lexLt ns' ms')))) ⟨hp, g, d, tk, os⟩) _
  case turn =>
   rintro ⟨y, x⟩ rest b s' ⟨hb', rfl, vs, ws, ns', ms', hz, hvi, hwi, hlen, hR⟩
   cases hvi with
   | nil => rw [List.zip_nil_left] at hz; cases hz
   | cons a t hvi' =>
    cases hwi with
    | nil => rw [List.zip_nil_right] at hz; cases hz
    | cons c u hwi' =>
     rw [List.zip_cons_cons] at hz
     injection hz with hyx hrest
     injection hyx with hy hx
     subst hy hx
     rw [bO] at hR
     simp only [List.length_cons] at hlen
     obtain ⟨e, he, hiff⟩ := tV A.in1 ⟨hp, g, d, tk, os⟩ a t c u
     refine wpAny_bind (he prog w _ _ ?_)
     cases e with
     | true =>
      rw [if_pos (hiff.mp rfl)] at hR
      wp_walk
      exact ⟨rfl, rfl, _, _, _, _, hrest, hvi', hwi', by omega, hR⟩
     | false =>
      rw [if_neg (fun q => absurd (hiff.mpr q) Bool.false_ne_true)] at hR
      have hri := tW A.in1 ⟨hp, g, d, tk, os⟩ a t c u prog w
      wp_walk using hri
      exact ⟨_, rfl, by simpa using hR⟩
  case fin =>
   rintro ⟨b1, b2⟩ s' ⟨hb', rfl, vs, ws, ns', ms', hz, hvi, hwi, hlen, hR⟩
   simp only at hb'
   subst hb'
   have hv : lexLt ns' ms' = decide (items.size < items2.size) := by
    cases hvi with
    | nil =>
     cases hwi with
     | nil =>
      simp only [List.length_nil] at hlen
      rw [jz]
      exact (decide_eq_false (by omega)).symm
     | cons c u hw =>
      simp only [List.length_nil, List.length_cons] at hlen
      rw [iF]
      exact (decide_eq_true (by omega)).symm
    | cons a t hv =>
     cases hwi with
     | nil =>
      simp only [List.length_nil, List.length_cons] at hlen
      rw [iG]
      exact (decide_eq_false (by omega)).symm
     | cons c u hw =>
      rw [List.zip_cons_cons] at hz
      cases hz
   rw [hv] at hR
   wp_walk
   exact ⟨_, rfl, by simpa [Builtin.Tuple.tupleCompareSizes] using hR⟩
  case h =>
   exact ⟨rfl, rfl, items.toList, items2.toList, ns, ms, rfl, hi, hj, by omega, h⟩
end
section
variable {prog : Program} {w : World} {A : Around} {E : Value → Shared → Prop} {s : Shared}
theorem oE {l b : Addr} {items items2 : Array Value} {ns ms : List Int} {Q : Value → Shared → Prop} (hl : IsTup s.heap l items) (hb : IsTup s.heap b items2) (hi : IntsAre items.toList ns) (hj : IntsAre items2.toList ms)
 (hu : A.units < cLine) (h : Q (.bool (lexLt ns ms)) s) : wpAny (model prog w) A (compareOp .Lt (.ref l) (.ref b)) Q E s := by
 obtain ⟨⟨cls, dd, data, sl⟩, ho, hc, n, hd⟩ := id hl
 obtain ⟨⟨cls2, dd2, data2, sl2⟩, ho2, hc2, n2, hd2⟩ := id hb
 simp only at hc hd hc2 hd2
 subst hc hd hc2 hd2
 exact richCompare_meets_room (op := .Lt) ⟨_, ho, rfl⟩ ⟨_, ho2, rfl⟩ PySem.F.slot_tuple_lt PySem.F.entry_tuple_lt (PySem.F.args_tuple_lt_2 _ _) (jA l b items items2 n n2 dd dd2 sl sl2 ns ms hi hj)
  ⟨ho, ho2, show Value.bool (lexLt ns ms) ≠ Value.notImplemented ∧ Q (.bool (lexLt ns ms)) s from ⟨(fun x => nomatch x), h⟩⟩ hu
def sIx (n d : Nat) : Option Int → Nat
 | none => d
 | some v => if v < 0 then (v + (n : Int)).toNat else min v.toNat n
theorem Ag (n d : Nat) (hd : d ≤ n) (o : Option Int) : sIx n d o ≤ n := by
 cases o with
 | none => exact hd
 | some v =>
  show (if v < 0 then (v + (n : Int)).toNat else min v.toNat n) ≤ n
  by_cases hv : v < 0
  ·rw [if_pos hv]; omega
  ·rw [if_neg hv]; exact Nat.min_le_right _ _
theorem p7 (v : Int) (n d : Nat) : (if v < 0 then max (v + (n : Int)) 0 else min v (n : Int)) = ((sIx n d (some v) : Nat) : Int) := by
 show (if v < 0 then max (v + (n : Int)) 0 else min v (n : Int)) = (((if v < 0 then (v + (n : Int)).toNat else min v.toNat n) : Nat) : Int)
 by_cases hv : v < 0
 ·simp only [if_pos hv]; omega
 ·simp only [if_neg hv]; omega
theorem oF (lo hi : Option Int) (n : Nat) : Builtin.Slice.sliceAdjust lo hi 1 (n : Int) = (((sIx n 0 lo : Nat) : Int), ((sIx n n hi : Nat) : Int)) := by
 have h1 : ¬ ((1 : Int) < 0) := by omega
 unfold Builtin.Slice.sliceAdjust
 simp only [h1, if_false]
 refine Prod.ext ?_ ?_
 ·cases lo with
  | none => rfl
  | some v => exact p7 v n 0
 ·cases hi with
  | none => rfl
  | some v => exact p7 v n n
theorem oG (i j : Nat) : Builtin.Slice.slicePlaces (i : Int) (j : Int) 1 = j - i := by
 unfold Builtin.Slice.slicePlaces
 have h1 : (1 : Int) > 0 := by omega
 simp only [h1, if_true, Int.ediv_one]
 split <;> omega
theorem iH {v : Value} {o : Option Int} {Q : Option Int → Shared → Prop} (p : IsPart v o) (h : Q o s) : wpAny (model prog w) A (Builtin.Slice.slicePartIndex v) Q E s := by
 cases p with
 | none => exact slicePart_none h
 | int i t => exact slicePart_int h
theorem cM {sl : Addr} {vl vu : Value} {lo hi : Option Int} {n : Nat} {Q : Int × Int × Nat → Shared → Prop} (hs : s.heap.IsSliceOf sl vl vu .none) (pl : IsPart vl lo) (pu : IsPart vu hi)
 (h : Q (((sIx n 0 lo : Nat) : Int), 1, sIx n n hi - sIx n 0 lo) s) : wpAny (model prog w) A (Builtin.Slice.sliceApplied (.ref sl) (pure (n : Int))) Q E s := by
 obtain ⟨os, hos, hcs, hds⟩ := id hs
 unfold Builtin.Slice.sliceApplied Builtin.Slice.sliceFields
 refine wpAny_bind (wpAny_bind (wpAny_field hos hds (x := vl) rfl (wpAny_bind (wpAny_field hos hds (x := vu) rfl (wpAny_bind (wpAny_field hos hds (x := .none) rfl (wpAny_pure ?_)))))))
 refine wpAny_bind (slicePart_none ?_)
 show wpAny _ _ (if ((1 : Int) == 0) = true then _ else _) _ _ s
 rw [if_neg (by decide)]
 refine wpAny_bind (iH pl (wpAny_bind (iH pu (wpAny_bind (wpAny_pure ?_)))))
 show wpAny _ _ (match Builtin.Slice.sliceAdjust lo hi 1 (n : Int) with | (lo, hi) => pure (lo, (1 : Int), Builtin.Slice.slicePlaces lo hi 1)) _ _ s
 rw [oF lo hi n]
 show wpAny _ _ (pure (((sIx n 0 lo : Nat) : Int), (1 : Int), Builtin.Slice.slicePlaces ((sIx n 0 lo : Nat) : Int) ((sIx n n hi : Nat) : Int) 1)) _ _ s
 rw [oG]
 exact wpAny_pure h
theorem tX (xs : Array Value) (i k : Nat) : ((List.range k).filterMap fun (m : Nat) => xs[((i : Int) + (m : Int) * 1).toNat]?).toArray = ((xs.toList.drop i).take k).toArray := by
 have e : (fun (m : Nat) => xs[((i : Int) + (m : Int) * 1).toNat]?) = fun m => xs[i + m]? := by
  funext m
  have : ((i : Int) + (m : Int) * 1).toNat = i + m := by omega
  rw [this]
 rw [e]
 have := pick_run xs i k
 rw [List.filterMap_map] at this
 have e2 : ((fun x => xs[x]?) ∘ fun x => i + x) = fun m => xs[i + m]? := rfl
 rw [e2] at this
 rw [this]
theorem fB {t sl : Addr} {items : Array Value} {vl vu : Value} {lo hi : Option Int} {Q : Value → Shared → Prop} (ht : IsTup s.heap t items) (hs : s.heap.IsSliceOf sl vl vu .none) (pl : IsPart vl lo) (pu : IsPart vu hi)
 (hw : ¬ (sIx items.size 0 lo = 0 ∧ sIx items.size items.size hi = items.size))
 (h : Q (.ref s.heap.objs.size) { s with heap := s.heap.push { cls := .type "tuple", data := .seq ((items.toList.drop (sIx items.size 0 lo)).take (sIx items.size items.size hi - sIx items.size 0 lo)).toArray } })
 (hsz : items.size ≤ sizeLine) : wpAny (model prog w) A (getItem (.ref t) (.ref sl)) Q E s := by
 have htake : sizeOk (.seq ((items.toList.drop (sIx items.size 0 lo)).take (sIx items.size items.size hi - sIx items.size 0 lo)).toArray) := by
  show ((items.toList.drop (sIx items.size 0 lo)).take (sIx items.size items.size hi - sIx items.size 0 lo)).toArray.size ≤ sizeLine
  rw [List.size_toArray, List.length_take, List.length_drop, Array.length_toList]
  omega
 have hj : sIx items.size items.size hi ≤ items.size := Ag _ _ (Nat.le_refl _) hi
 obtain ⟨os, hos, hcs, hds⟩ := id hs
 have hTs : s.TypeIs (.ref sl) "slice" := ⟨os, hos, hcs⟩
 unfold getItem
 try with_reducible refine wpAny_holding ?_
 first | refine wpAny_bind (wpAny_pure ?_) | skip
 refine wpAny_bind (wpAny_sequenceKey ht.typeIs (by decide) ?_)
 refine wpAny_bind (wpAny_callSpecial?_slot (name := Str.ofString "__getitem__") ht.typeIs PyProof.Rows.slot_tuple_getitem
  (wpAny_call_entry PyProof.Rows.slot_tuple_getitem ht.typeIs entry_tuple_getitem ?_ (args_tuple_getitem _ _)))
 show wpAny _ _ (Builtin.Tuple.tupleItemsOf (.ref t) >>= _) _ _ s
 refine wpAny_bind (tupleItemsOf_ ht ?_)
 refine wpAny_bind (wpAny_typeOf hTs ?_)
 rw [if_pos (by decide)]
 refine wpAny_bind (cM hs pl pu ?_)
 have hno : ¬ ((((sIx items.size 0 lo : Nat) : Int) == 0 && (1 : Int) == 1 && (sIx items.size items.size hi - sIx items.size 0 lo) == items.size) = true) := by
  intro q
  rw [Bool.and_eq_true, Bool.and_eq_true] at q
  have q1 : ((sIx items.size 0 lo : Nat) : Int) = 0 := eq_of_beq q.1.1
  have q2 : sIx items.size items.size hi - sIx items.size 0 lo = items.size := eq_of_beq q.2
  exact hw ⟨by omega, by omega⟩
 show wpAny _ _ (if (((sIx items.size 0 lo : Nat) : Int) == 0 && (1 : Int) == 1 && (sIx items.size items.size hi - sIx items.size 0 lo) == items.size) = true then _ else _) _ _ s
 rw [if_neg hno, tX]
 first
  | exact wpAny_bind (m := Builtin.Tuple.tupleExact _) (wpAny_newObj_type (wpAny_pure ⟨_, rfl, wpAny_pure h⟩) htake)
  | exact wpAny_bind (m := Builtin.Tuple.tupleExact _) (wpAny_newObj_type (wpAny_bind (wpAny_pure (wpAny_pure ⟨_, rfl, wpAny_pure h⟩))) htake)
  | exact wpAny_bind (wpAny_bind (m := Builtin.Tuple.tupleExact _) (wpAny_newObj_type (wpAny_pure (wpAny_pure ⟨_, rfl, wpAny_pure h⟩)) htake))
  | exact wpAny_bind (wpAny_bind (m := Builtin.Tuple.tupleExact _) (wpAny_newObj_type (wpAny_pure ⟨_, rfl, wpAny_pure h⟩) htake))
end
end HT
namespace L2
open PySem PySem.Spec PyProof.Rows
abbrev TO := St → Hp → (Option Int → Hp → Prop) → Prop
def PO (X : Cx) (e : Option Expr) (t : TO) : Prop :=
 ∀ (pins : List (Addr × Obj)) (s : Shared) (σ : St) (H : Hp) (Q : Option Int → Hp → Prop), Inv X pins σ H s → t σ H Q →
  wpAny (model X.prog X.w) X.A (evalPart e X.env) (fun u s' => ∃ o H', Inv X pins σ H' s' ∧ IsPart u o ∧ Q o H') X.xe s
def xr : TO := fun _ H Q => Q none H
def tPart (t : TE) : TO := fun σ H Q => t σ H fun x H1 => ∃ i, x = .int i ∧ Q (some i) H1
theorem intsAre_of {ns : List Int} : ∀ {us : List Value}, Vals (ns.map V.int) us → IntsAre us ns := by
 induction ns with
 | nil => intro us r; rw [List.map_nil] at r; cases r; exact .nil
 | cons n ns ih =>
  intro us r
  rw [List.map_cons] at r
  cases r with
  | cons r1 r2 =>
   obtain ⟨t, e⟩ := r1
   subst e
   exact .cons n t (ih r2)
section
variable {X : Cx} {e : Expr} {te : TE} {lo hi : Option Expr} {tl th : TO} {pos p2 : Pos}
theorem xu : PO X none xr := by
 intro pins s σ H Q I h
 rw [evalPart_none]
 exact wpAny_pure ⟨none, H, I, .none, h⟩
theorem xw (h : PE X e te) : PO X (some e) (tPart te) := by
 intro pins s σ H Q I hw
 rw [evalPart_some]
 refine thn (h pins s σ H _ I hw) fun u s1 ⟨x, H1, I1, r1, q1⟩ => ?_
 obtain ⟨i, rfl, q⟩ := q1
 obtain ⟨t, rfl⟩ := r1
 exact ⟨some i, H1, I1, .int i t, q⟩
def SlR (X : Cx) (r : V → Option Int → Option Int → Hp → VK → Prop) : Prop :=
 ∀ (pins : List (Addr × Obj)) (s : Shared) (σ : St) (H : Hp) (x : V) (v vl vu : Value) (lo hi : Option Int) (sl : Addr) (Q : VK), Inv X pins σ H s → RelV x v → s.heap.IsSliceOf sl vl vu .none → IsPart vl lo → IsPart vu hi → r x lo hi H Q →
  ∃ T id, typeLookup (.type T) "__getitem__" = pure (some (.builtin id)) ∧ s.TypeIs v T ∧ wpAny (model X.prog X.w) X.A (getItem v (.ref sl)) (EP X pins σ Q) X.xe s
theorem SlR.or {r r' : V → Option Int → Option Int → Hp → VK → Prop} (h : SlR X r) (h' : SlR X r') : SlR X (fun x lo hi H Q => r x lo hi H Q ∨ r' x lo hi H Q) := by
 intro pins s σ H x v vl vu lo hi sl Q I rx hs pl pu q
 rcases q with q | q
 ·exact h pins s σ H x v vl vu lo hi sl Q I rx hs pl pu q
 ·exact h' pins s σ H x v vl vu lo hi sl Q I rx hs pl pu q
def tSl (r : V → Option Int → Option Int → Hp → VK → Prop) (te : TE) (tl th : TO) : TE := fun σ H Q => te σ H fun x H1 => tl σ H1 fun l H2 => th σ H2 fun u H3 => r x l u H3 Q
theorem tY {r : V → Option Int → Option Int → Hp → VK → Prop} (hr : SlR X r) (he : PE X e te) (hl : PO X lo tl) (hu : PO X hi th) : PE X (.Subscript e (.Slice lo hi none p2) pos) (tSl r te tl th) := by
 intro pins s σ H Q I h
 refine Subscript_ (thn (he pins s σ H _ I h) fun v s1 ⟨x, H1, I1, r1, q1⟩ => ?_)
 refine wpAny_Slice (thn (hl pins s1 σ H1 _ I1 q1) fun vl s2 ⟨l, H2, I2, pl, q2⟩ => thn (hu pins s2 σ H2 _ I2 q2) fun vu s3 ⟨u, H3, I3, pu, q3⟩ => ?_)
 rw [evalPart_none]
 refine wpAny_pure ?_
 have I4 : Inv X pins σ H3 { s3 with heap := s3.heap.push { cls := .type "slice", data := .fields #[vl, vu, .none] } } := I3.kept (t' := s3.toks) fun b ob q => Heap.get?_push_of_some _ q
 obtain ⟨T, id, hT, ht, hg⟩ := hr pins { s3 with heap := s3.heap.push { cls := .type "slice", data := .fields #[vl, vu, .none] } } σ H3 x v vl vu l u s3.heap.objs.size Q I4 r1 (Heap.IsSliceOf.new ..) pl pu q3
 show wpAny (model X.prog X.w) X.A (subscriptTail e (.Slice lo hi none p2) v (.ref s3.heap.objs.size)) (EP X pins σ Q) X.xe { s3 with heap := s3.heap.push { cls := .type "slice", data := .fields #[vl, vu, .none] } }
 exact tail_any (ops := [.ref s3.heap.objs.size, v]) ht hT hg (by with_unfolding_all rfl)
def kE (xs : List V) (lo hi : Option Int) : List V := (xs.drop (HT.sIx xs.length 0 lo)).take (HT.sIx xs.length xs.length hi - HT.sIx xs.length 0 lo)
theorem gG (xs : List V) (lo hi : Option Int) : (kE xs lo hi).length ≤ xs.length := by
 unfold kE
 rw [List.length_take, List.length_drop]
 omega
def rSlT (K : PySem.W.Frag) : V → Option Int → Option Int → Hp → VK → Prop := fun x lo hi H Q => ∃ a xs, x = .ref a ∧ SqT K H a xs ∧
 ¬ (HT.sIx xs.length 0 lo = 0 ∧ HT.sIx xs.length xs.length hi = xs.length) ∧ ∀ p, H p = none → Q (.ref p) (upd H p (.tup (kE xs lo hi)))
theorem Ah : SlR X (rSlT X.K) := by
 intro pins s σ H x v vl vu lo hi sl Q I rx hs pl pu h
 obtain ⟨a, xs, rfl, hx, hw, q⟩ := h
 cases rx
 obtain ⟨its, r, ht, hz⟩ := I.tuple hx
 have hlen : its.toArray.size = xs.length := by rw [List.size_toArray]; exact r.length.symm
 refine ⟨"tuple", _, PyProof.Rows.slot_tuple_getitem.lookup, ht.typeIs, ?_⟩
 refine HT.fB ht hs pl pu (by rw [hlen]; exact hw) ?_ (by rw [hlen]; exact hz)
 rw [hlen]
 refine ⟨.ref s.heap.objs.size, _, I.laid (t' := s.toks) (o := .tup (kE xs lo hi)) (fun b ob q => Heap.get?_push_of_some _ q) (Nat.le_refl _) ?_, rfl, q _ (I.hok.fresh (Nat.le_refl _))⟩
 exact ⟨Nat.le_trans (gG xs lo hi) hz, _, (r.drop (HT.sIx xs.length 0 lo)).take (HT.sIx xs.length xs.length hi - HT.sIx xs.length 0 lo), IsTup.new _ _⟩
theorem Vals.p8 {xs : List V} {us : List Value} (r : Vals xs us) : us = [] ↔ xs = [] := by
 cases r with
 | nil => simp
 | cons _ _ => simp
end
end L2
namespace L2
open PySem PySem.Spec PyProof.Rows
def ixN (n : Nat) (i : Int) : Option Nat := if 0 ≤ i then (if i < n then some i.toNat else none) else if -(n : Int) ≤ i then some (i + n).toNat else none
def atI {α : Type} (xs : List α) (i : Int) : Option α := (ixN xs.length i).bind fun j => xs[j]?
theorem xx {n : Nat} {i : Int} {j : Nat} (h : ixN n i = some j) : seqIndex? i n = some j ∧ j < n ∧ -(n : Int) ≤ i ∧ i < n := by
 unfold ixN at h
 by_cases h0 : 0 ≤ i
 ·rw [if_pos h0] at h
  by_cases h1 : i < n
  ·rw [if_pos h1] at h
   have e : i.toNat = j := Option.some.inj h
   exact ⟨by rw [seqIndex_of h0 h1, e], by omega, by omega, h1⟩
  ·rw [if_neg h1] at h; cases h
 ·rw [if_neg h0] at h
  by_cases h1 : -(n : Int) ≤ i
  ·rw [if_pos h1] at h
   have e : (i + n).toNat = j := Option.some.inj h
   exact ⟨by rw [seqIndex_neg (by omega) h1, e], by omega, h1, by omega⟩
  ·rw [if_neg h1] at h; cases h
theorem p9 {α : Type} {xs : List α} {i : Int} {v : α} (h : atI xs i = some v) : ∃ j, seqIndex? i xs.length = some j ∧ xs[j]? = some v ∧ j < xs.length ∧ -(xs.length : Int) ≤ i ∧ i < xs.length := by
 unfold atI at h
 cases e : ixN xs.length i with
 | none => rw [e] at h; cases h
 | some j =>
  rw [e] at h
  obtain ⟨h1, h2, h3, h4⟩ := xx e
  exact ⟨j, h1, h, h2, h3, h4⟩
theorem lV {α : Type} (xs : List α) (v : α) : atI (xs ++ [v]) (-1) = some v := by
 have hl : (xs ++ [v]).length = xs.length + 1 := by simp
 have e : ixN (xs ++ [v]).length (-1) = some xs.length := by
  unfold ixN
  rw [hl, if_neg (by decide), if_pos (by omega)]
  congr 1
  omega
 unfold atI
 rw [e]
 show (xs ++ [v])[xs.length]? = some v
 simp
def ic (b : Expr) : Prop := ∀ o i, subscripted b false o i = operate [o, i] (getItem o i)
def IxR (X : Cx) (r : R2) : Prop :=
 ∀ (value slice : Expr) (pins : List (Addr × Obj)) (s : Shared) (σ : St) (H : Hp) (x y : V) (v u : Value) (Q : VK), Inv X pins σ H s → RelV x v → RelV y u → r x y H Q →
  subscripted slice false v u = operate [v, u] (getItem v u) → wpAny (model X.prog X.w) X.A (subscriptTail value slice v u) (EP X pins σ Q) X.xe s
def MtR (X : Cx) (id : String) (r : V → List V → Hp → VK → Prop) : Prop :=
 ∀ (pins : List (Addr × Obj)) (s : Shared) (σ : St) (H : Hp) (x : V) (xs : List V) (v : Value) (us : List Value) (Q : VK), Inv X pins σ H s → RelV x v → Vals xs us → r x xs H Q →
  wpAny (model X.prog X.w) X.A (call (.builtin id) (v :: us)) (EP X pins σ Q) X.xe s
section
variable {X : Cx} {a b : Expr} {ta tb : TE} {pos : Pos}
theorem IxR.or {r r' : R2} (h : IxR X r) (h' : IxR X r') : IxR X (fun x y H Q => r x y H Q ∨ r' x y H Q) := by
 intro value slice pins s σ H x y v u Q I rx ry q hs
 rcases q with q | q
 ·exact h value slice pins s σ H x y v u Q I rx ry q hs
 ·exact h' value slice pins s σ H x y v u Q I rx ry q hs
theorem MtR.or {id : String} {r r' : V → List V → Hp → VK → Prop} (h : MtR X id r) (h' : MtR X id r') : MtR X id (fun x xs H Q => r x xs H Q ∨ r' x xs H Q) := by
 intro pins s σ H x xs v us Q I rx rs q
 rcases q with q | q
 ·exact h pins s σ H x xs v us Q I rx rs q
 ·exact h' pins s σ H x xs v us Q I rx rs q
theorem pe_ix {r : R2} (hr : IxR X r) (ha : PE X a ta) (hb : PE X b tb) (hs : ic b) : PE X (.Subscript a b pos) (tOp r ta tb) := by
 intro pins s σ H Q I h
 exact Subscript_ (binT ha hb I h fun v u s2 x y H2 I2 rx ry q => hr a b pins s2 σ H2 x y v u Q I2 rx ry q (hs _ _))
def rIxL (K : PySem.W.Frag) : R2 := fun x y H Q => ∃ p xs i v, x = .ref p ∧ y = .int i ∧ SqL K H p xs ∧ atI xs i = some v ∧ Q v H
def rIxT (K : PySem.W.Frag) : R2 := fun x y H Q => ∃ p xs i v, x = .ref p ∧ y = .int i ∧ SqT K H p xs ∧ atI xs i = some v ∧ Q v H
theorem xy : IxR X (rIxL X.K) := by
 intro value slice pins s σ H x y v u Q I rx ry h hs
 obtain ⟨p, xs, i, z, rfl, rfl, hq, he, q⟩ := h
 cases rx
 obtain ⟨t, rfl⟩ := ry
 obtain ⟨its, r, pl, hz⟩ := I.list hq
 obtain ⟨j, h1, h2, h3, h4, h5⟩ := p9 he
 obtain ⟨w, ew, rw'⟩ := r.get h2
 have hl := r.length
 have hn := oq
 have fin : EP X pins σ Q w s := ⟨z, H, I, rw', q⟩
 by_cases h0 : 0 ≤ i
 ·have hj : i.toNat = j := by
   rw [seqIndex_of h0 h5] at h1
   exact Option.some.inj h1
  exact item_listR pl.isList h0 (by omega) (by rw [hj]; simpa using ew) fin hs
 ·have hj : (i + (its.toArray.size : Int)).toNat = j := by
   rw [seqIndex_neg (by omega) h4] at h1
   rw [List.size_toArray, ← hl]
   exact Option.some.inj h1
  exact subscriptTail_builtinR (x := w) pl.isList.typeIs slot_list_getitem.lookup
   (wpAny_getItem_list_neg (Q := fun r s' => r = w ∧ EP X pins σ Q r s') pl.isList (by omega) (by rw [List.size_toArray] <;> omega) (by omega) (by rw [hj]; simpa using ew) ⟨rfl, fin⟩) hs
theorem Ai : IxR X (rIxT X.K) := by
 intro value slice pins s σ H x y v u Q I rx ry h hs
 obtain ⟨p, xs, i, z, rfl, rfl, hq, he, q⟩ := h
 cases rx
 obtain ⟨t, rfl⟩ := ry
 obtain ⟨its, r, pl, hz⟩ := I.tuple hq
 obtain ⟨j, h1, h2, h3, h4, h5⟩ := p9 he
 obtain ⟨w, ew, rw'⟩ := r.get h2
 have hl := r.length
 have hn := oq
 have fin : EP X pins σ Q w s := ⟨z, H, I, rw', q⟩
 exact subscriptTail_builtinR (x := w) pl.typeIs slot_tuple_getitem.lookup
  (getItem_tuple (j := j) (Q := fun r s' => r = w ∧ EP X pins σ Q r s') pl (by omega) (by omega) (by rw [List.size_toArray, ← hl]; exact h1) (by simpa using ew) ⟨rfl, fin⟩) hs
theorem Inv.lst {pins : List (Addr × Obj)} {σ : St} {H : Hp} {s : Shared} {p : Addr} {xs : List V} (I : Inv X pins σ H s) (h : H p = some (.lst xs)) :
 ∃ (its : List Value) (n : Nat), Vals xs its ∧ s.heap.get? p = some { cls := .type "list", data := .seq its.toArray n } ∧ xs.length ≤ sizeLine := by
 obtain ⟨z, its, n, r, e⟩ := I.hok p _ h
 exact ⟨its, n, r, e, z⟩
theorem kF (lo hi : Option Int) (n : Nat) : (sliceBounds lo hi none n).1 = ((HT.sIx n 0 lo : Nat) : Int) ∧ (sliceBounds lo hi none n).2.1 = ((HT.sIx n n hi : Nat) : Int) ∧ (sliceBounds lo hi none n).2.2 = 1 := by
 refine ⟨?_, ?_, rfl⟩
 ·cases lo with
  | none => simp [sliceBounds, HT.sIx]
  | some i =>
   simp only [sliceBounds, HT.sIx, Option.getD_none, show (1 : Int) > 0 by decide, if_true]
   by_cases h : i < 0
   ·simp only [h, if_true] <;> omega
   ·simp only [h, if_false] <;> omega
 ·cases hi with
  | none => simp [sliceBounds, HT.sIx]
  | some i =>
   simp only [sliceBounds, HT.sIx, Option.getD_none, show (1 : Int) > 0 by decide, if_true]
   by_cases h : i < 0
   ·simp only [h, if_true] <;> omega
   ·simp only [h, if_false] <;> omega
theorem jB (its : List Value) (lo hi : Option Int) : slicePick its.toArray lo hi none = ((its.drop (HT.sIx its.length 0 lo)).take (HT.sIx its.length its.length hi - HT.sIx its.length 0 lo)).toArray := by
 obtain ⟨h1, h2, h3⟩ := kF lo hi its.toArray.size
 unfold slicePick
 rw [h1, h2, h3]
 simp only [sliceRange_one, pick_run, List.size_toArray] <;> rfl
def rSlL (K : PySem.W.Frag) : V → Option Int → Option Int → Hp → VK → Prop := fun x lo hi H Q => ∃ a xs, x = .ref a ∧ SqL K H a xs ∧ ∀ p, H p = none → Q (.ref p) (upd H p (.lst (kE xs lo hi)))
theorem xA : SlR X (rSlL X.K) := by
 intro pins s σ H x v vl vu lo hi sl Q I rx hs pl pu h
 obtain ⟨a, xs, rfl, hx, q⟩ := h
 cases rx
 obtain ⟨its, r, ht, hz⟩ := I.list hx
 have hlen := r.length
 refine ⟨"list", _, slot_list_getitem.lookup, ht.isList.typeIs, ?_⟩
 refine wpAny_getItem_list_slice ht.isList hs pl pu .none (by simp) ?_ (by rw [List.size_toArray] <;> omega)
 rw [jB, ← hlen]
 refine ⟨.ref s.heap.objs.size, _, I.laid (t' := s.toks) (o := .lst (kE xs lo hi)) (fun b ob q => Heap.get?_push_of_some _ q) (Nat.le_refl _) ?_, rfl, q _ (I.hok.fresh (Nat.le_refl _))⟩
 exact ⟨Nat.le_trans (gG xs lo hi) hz, _, 0, (r.drop (HT.sIx xs.length 0 lo)).take (HT.sIx xs.length xs.length hi - HT.sIx xs.length 0 lo), Heap.get?_push_size _ rfl⟩
theorem kG : bV X (.builtin "len") (fun xs H Q => ∃ p ys, xs = [.ref p] ∧ (SqL X.K H p ys ∨ SqT X.K H p ys) ∧ Q (.int ys.length) H) := by
 intro pins s σ H xs us Q I r h
 obtain ⟨p, ys, rfl, hq, q⟩ := h
 obtain ⟨u, rfl, rx⟩ := vals1 r
 cases rx
 have hn := oq
 rcases hq with hq | hq
 ·obtain ⟨its, r', pl, hz⟩ := I.list hq
  have hlen := r'.length
  exact Calls.call_len_list pl.isList (by simp only [List.size_toArray] <;> omega) ⟨.int ys.length, H, I.tok _, ⟨s.toks + 1, by rw [List.size_toArray, hlen]⟩, q⟩
 ·obtain ⟨its, r', pl, hz⟩ := I.tuple hq
  have hlen := r'.length
  exact len_tuple pl (by simp only [List.size_toArray] <;> omega) ⟨.int ys.length, H, I.tok _, ⟨s.toks + 1, by rw [List.size_toArray, hlen]⟩, q⟩
theorem bV.or {f : Value} {r r' : List V → Hp → VK → Prop} (h : bV X f r) (h' : bV X f r') : bV X f (fun xs H Q => r xs H Q ∨ r' xs H Q) := by
 intro pins s σ H xs us Q I rs q
 rcases q with q | q
 ·exact h pins s σ H xs us Q I rs q
 ·exact h' pins s σ H xs us Q I rs q
theorem kH : bV X (.type "list") (fun xs H Q => ∃ p ys, xs = [.ref p] ∧ (SqL X.K H p ys ∨ SqT X.K H p ys) ∧ ∀ l, H l = none → Q (.ref l) (upd H l (.lst ys))) := by
 intro pins s σ H xs us Q I r h
 obtain ⟨p, ys, rfl, hq, q⟩ := h
 obtain ⟨u, rfl, rx⟩ := vals1 r
 cases rx
 have fin : ∀ (its : List Value), Vals ys its → ys.length ≤ sizeLine → ∀ (h' : Heap) (c' : Nat), (∀ b o', s.heap.get? b = some o' → h'.get? b = some o') →
  h'.get? s.heap.objs.size = some { cls := .type "list", dict := none, data := .seq its.toArray c', slots := #[] } → EP X pins σ Q (.ref s.heap.objs.size) { s with heap := h' } := fun its r' hz h' c' kp e =>
  ⟨.ref s.heap.objs.size, _, I.laid (t' := s.toks) kp (Nat.le_refl _) (show aJ X.prog X.w _ h' _ (.lst ys) from ⟨hz, its, c', r', e⟩), rfl, q _ (I.hok.fresh (Nat.le_refl _))⟩
 rcases hq with hq | hq
 ·obtain ⟨its, r', pl, hz⟩ := I.list hq
  have hlen := r'.length
  obtain ⟨o, ho, hc, n, hd⟩ := pl.isList
  exact call_list_seq p (.inl rfl) ho hc hd (fun h' c' kp e => fin its r' hz h' c' kp e) (by simp only [List.size_toArray] <;> omega)
 ·obtain ⟨its, r', pl, hz⟩ := I.tuple hq
  have hlen := r'.length
  obtain ⟨o, ho, hc, n, hd⟩ := pl
  exact call_list_seq p (.inr rfl) ho hc hd (fun h' c' kp e => fin its r' hz h' c' kp e) (by simp only [List.size_toArray] <;> omega)
theorem jC : bV X (.type "tuple") (fun xs H Q => ∃ p ys, xs = [.ref p] ∧ ((SqL X.K H p ys ∧ ∀ l, H l = none → Q (.ref l) (upd H l (.tup ys))) ∨ (SqT X.K H p ys ∧ Q (.ref p) H))) := by
 intro pins s σ H xs us Q I r h
 obtain ⟨p, ys, rfl, h⟩ := h
 obtain ⟨u, rfl, rx⟩ := vals1 r
 cases rx
 rcases h with ⟨hq, q⟩ | ⟨hq, q⟩
 ·obtain ⟨its, r', pl, hz⟩ := I.list hq
  have hlen := r'.length
  refine call_tuple_list pl.isList (fun h' kp => ?_) (by simp only [List.size_toArray] <;> omega)
  have I1 : Inv X pins σ H { s with heap := h' } := I.kept (t' := s.toks) kp
  have I2 : Inv X pins σ (upd H h'.objs.size (.tup ys)) { s with heap := h'.push { cls := .type "tuple", data := .seq its.toArray } } :=
   I1.laid (t' := s.toks) (fun b o e => Heap.get?_push_of_some _ e) (Nat.le_refl _) (show aJ X.prog X.w _ _ _ (.tup ys) from ⟨hz, its, r', IsTup.new _ _⟩)
  exact ⟨.ref h'.objs.size, _, I2, rfl, q _ (I1.hok.fresh (Nat.le_refl _))⟩
 ·obtain ⟨its, r', pl, hz⟩ := I.tuple hq
  exact call_tuple_same pl ⟨.ref p, H, I, rfl, q⟩
def tyV (K : PySem.W.Frag) (T : String) (x : V) (H : Hp) : Prop := match x with
 | .str _ => T = "str"
 | .int _ => T = "int"
 | .ref p => (T = "list" ∧ ∃ xs, SqL K H p xs) ∨ (T = "tuple" ∧ ∃ o, K.lookup p = some o ∧ o.cls = .type "tuple" ∧ o.dict = none) ∨
  (T = "dict" ∧ ((∃ kvs, H p = some (.dK kvs)) ∨ ∃ kvs, H p = some (.dT kvs))) ∨ (T = "set" ∧ ∃ S n, H p = some (.set S n))
 | _ => False
theorem tZ {pins : List (Addr × Obj)} {σ : St} {H : Hp} {s : Shared} {T : String} {x : V} {v : Value} (I : Inv X pins σ H s) (r : RelV x v) (ty : tyV X.K T x H) :
 s.TypeIs v T ∧ ∀ a, v = .ref a → ∃ ob, s.heap.get? a = some ob ∧ ob.dict = none := by
 cases x with
 | str z =>
  obtain ⟨t, rfl⟩ := r
  cases (show T = "str" from ty)
  exact ⟨typeIs_str s z t, fun _ e => nomatch e⟩
 | int i =>
  obtain ⟨t, rfl⟩ := r
  cases (show T = "int" from ty)
  exact ⟨typeIs_int s i t, fun _ e => nomatch e⟩
 | ref p =>
  cases r
  rcases ty with ⟨rfl, xs, hq⟩ | ⟨rfl, o, hk, hc, hd⟩ | ⟨rfl, hk⟩ | ⟨rfl, S, n, hk⟩
  ·obtain ⟨its, _, pl, _⟩ := I.list hq
   refine ⟨pl.isList.typeIs, fun a e => ?_⟩
   cases e
   obtain ⟨o, n, e, c, hd, _⟩ := pl
   exact ⟨o, e, hd⟩
  ·refine ⟨⟨o, I.kIn p o hk, hc⟩, fun a e => ?_⟩
   cases e
   exact ⟨o, I.kIn _ o hk, hd⟩
  ·have z : ∃ o, s.heap.get? p = some o ∧ o.ExactDict := by
    rcases hk with ⟨kvs, hk⟩ | ⟨kvs, hk⟩
    ·obtain ⟨_, _, _, _, o, _, _, e, ex, _⟩ := I.hok p _ hk
     exact ⟨o, e, ex⟩
    ·obtain ⟨_, _, _, _, o, _, _, e, ex, _⟩ := I.hok p _ hk
     exact ⟨o, e, ex⟩
   obtain ⟨o, e, ex⟩ := z
   refine ⟨⟨o, e, ex.1⟩, fun a e2 => ?_⟩
   cases e2
   exact ⟨o, e, ex.2.1⟩
  ·obtain ⟨o, _, _, _, e, ex, _⟩ := I.hok p _ hk
   refine ⟨⟨o, e, ex.1⟩, fun a e2 => ?_⟩
   cases e2
   exact ⟨o, e, ex.2.1⟩
 | _ => exact False.elim ty
def tBM0 (K : PySem.W.Frag) (T : String) (r : V → List V → Hp → VK → Prop) (to : TE) : TE := fun σ H Q => to σ H fun x H1 => tyV K T x H1 ∧ r x [] H1 Q
def tBM (K : PySem.W.Frag) (T : String) (r : V → List V → Hp → VK → Prop) (to : TE) (t : TA) : TE := fun σ H Q => to σ H fun x H1 => tyV K T x H1 ∧ t σ H1 fun xs H2 => r x xs H2 Q
variable {o e : Expr} {es : List Expr} {to : TE} {t : TA} {name : Str} {apos cpos : Pos} {T id : String} {r : V → List V → Hp → VK → Prop}
theorem t6 (pa : PlainAttrs T) (slot : Slot T name id) (hty : typeOf (.builtin id) = pure (.type "method_descriptor")) (hm : MtR X id r) (ho : PE X o to)
 (hbase : attributeBase o name X.env (eval o X.env) = eval o X.env := by rfl) (hline : (apos.endLine == cpos.line) = true := by rfl) : PE X (.Call (.Attribute o name apos) [] [] cpos) (tBM0 X.K T r to) := by
 intro pins s σ H Q I h
 refine wpAny_Call_method0_late hbase hline (thn (ho pins s σ H _ I h) fun v s1 ⟨x, H1, I1, r1, ty, q1⟩ => ?_)
 obtain ⟨h1, h2⟩ := tZ I1 r1 ty
 exact ⟨T, id, pa, slot, hty, h1, h2, Calls.callWith_builtin rfl (PySem.evalArgs_none (hm pins s1 σ H1 x [] v [] Q I1 r1 .nil q1))⟩
theorem zl (pa : PlainAttrs T) (slot : Slot T name id) (hty : typeOf (.builtin id) = pure (.type "method_descriptor")) (hm : MtR X id r) (ho : PE X o to) (ha : PA X (e :: es) t)
 (hbase : attributeBase o name X.env (eval o X.env) = eval o X.env := by rfl)
 (hfew : ((backTo cpos (starEach (e :: es) X.env)).all (fun x => !x.1) && (backToKw cpos (keywordEach [] X.env)).all (fun x => x.1.isSome)
   && decide ((e :: es).length + ([] : List Keyword).length + (if ([] : List Keyword).isEmpty then 0 else 1) < 30)) = true := by rfl)
 (hline : (apos.endLine == cpos.line) = true := by rfl) (hs : starEach (e :: es) X.env = (false, eval e X.env) :: starEach es X.env := by rfl) (hplain : (backTo cpos (starEach es X.env)).any (·.1) = false := by rfl) :
 PE X (.Call (.Attribute o name apos) (e :: es) [] cpos) (tBM X.K T r to t) := by
 intro pins s σ H Q I h
 refine wpAny_Call_method_late hbase hfew hline rfl (thn (ho pins s σ H _ I h) fun v s1 ⟨x, H1, I1, r1, ty, q1⟩ => ?_)
 obtain ⟨h1, h2⟩ := tZ I1 r1 ty
 refine ⟨T, id, pa, slot, hty, h1, h2, ?_⟩
 have hA := ha cpos pins s1 σ H1 _ I1 q1
 rw [hs] at hA ⊢
 refine Calls.callWith_builtin (by show (false || (backTo cpos (starEach es X.env)).any (·.1)) = false; rw [hplain] <;> rfl) (Calls.evalArgs_plain ?_)
 exact thn hA fun us s2 ⟨vs, H2, I2, r2, q2⟩ => hm pins s2 σ H2 x vs v us Q I2 r1 r2 q2
end
end L2
namespace L2
open PySem PySem.Spec PyProof.Rows
def MtM (X : Cx) (id : String) (r : V → List V → Hp → VK → Prop) : Prop :=
 ∀ (pins : List (Addr × Obj)) (s : Shared) (σ : St) (H : Hp) (x : V) (xs : List V) (v : Value) (us : List Value) (Q : VK), Inv X pins σ H s → RelV x v → Vals xs us → r x xs H Q →
  wpAny (model X.prog X.w) X.A (call (.builtin id) (v :: us)) (EP X pins σ Q) X.xe s
theorem Vals.one : ∀ {x : V} {us : List Value}, Vals [x] us → ∃ u, us = [u] ∧ RelV x u
 | _, _, .cons r .nil => ⟨_, rfl, r⟩
theorem Vals.two : ∀ {x y : V} {us : List Value}, Vals [x, y] us → ∃ u v, us = [u, v] ∧ RelV x u ∧ RelV y v
 | _, _, _, .cons r (.cons q .nil) => ⟨_, _, rfl, r, q⟩
theorem Vals.zero : ∀ {us : List Value}, Vals [] us → us = []
 | _, .nil => rfl
theorem Vals.dropLast {xs : List V} {us : List Value} (h : Vals xs us) : Vals xs.dropLast us.dropLast := by
 induction h with
 | nil => exact .nil
 | cons r t ih =>
  cases t with
  | nil => exact .nil
  | cons q t' => exact .cons r ih
theorem Vals.eraseIdx : ∀ {xs : List V} {us : List Value} (i : Nat), Vals xs us → Vals (xs.eraseIdx i) (us.eraseIdx i)
 | _, _, _, .nil => .nil
 | _, _, 0, .cons _ t => t
 | _, _, i + 1, .cons r t => .cons r (Vals.eraseIdx i t)
theorem Vals.reverse {xs : List V} {us : List Value} (h : Vals xs us) : Vals xs.reverse us.reverse := by
 induction h with
 | nil => exact .nil
 | cons r t ih => rw [List.reverse_cons, List.reverse_cons]; exact Vals.append ih (.cons r .nil)
theorem Vals.rep {xs : List V} {us : List Value} (h : Vals xs us) : ∀ k : Nat, Vals (List.replicate k xs).flatten (List.replicate k us).flatten
 | 0 => .nil
 | k + 1 => by
  rw [List.replicate_succ, List.replicate_succ, List.flatten_cons, List.flatten_cons]
  exact Vals.append h (Vals.rep h k)
theorem oH {α : Type} (l : List α) : l.eraseIdx (l.length - 1) = l.dropLast := by
 induction l with
 | nil => rfl
 | cons a r ih =>
  cases r with
  | nil => rfl
  | cons b r =>
   have e : (a :: b :: r).length - 1 = ((b :: r).length - 1) + 1 := by
    have h1 : (a :: b :: r).length = r.length + 2 := rfl
    have h2 : (b :: r).length = r.length + 1 := rfl
    omega
   rw [e, List.eraseIdx_cons_succ, ih]
   all_goals rfl
theorem foldl_rep (its : List Value) : ∀ (k : Nat) (acc : List Value),
 List.foldl (fun x1 x2 => x1 ++ x2) acc.toArray (List.replicate k its.toArray) = (acc ++ (List.replicate k its).flatten).toArray
 | 0, acc => by simp
 | k + 1, acc => by
  have e : acc.toArray ++ its.toArray = (acc ++ its).toArray := by simp
  have e2 : (acc ++ its) ++ (List.replicate k its).flatten = acc ++ (List.replicate (k + 1) its).flatten := by
   rw [List.replicate_succ, List.flatten_cons, List.append_assoc]
  rw [← e2, ← foldl_rep its k (acc ++ its), ← e, List.replicate_succ, List.foldl_cons]
section
variable {X : Cx} {pins : List (Addr × Obj)} {σ : St} {H : Hp} {s : Shared} {l b : Addr} {xs ys zs : List V}
theorem Inv.rF {its its' : List Value} {n : Nat} {f : Array Value → Array Value} {t' : Nat} (I : Inv X pins σ H s) (hH : H l = some (.lst xs))
 (e : s.heap.get? l = some { cls := .type "list", data := .seq its.toArray n }) (hf : f its.toArray = its'.toArray) (hv : Vals ys its') (hz : ys.length ≤ sizeLine) :
 Inv X pins σ (upd H l (.lst ys)) { s with heap := s.heap.update l (Obj.mapSeq f), toks := t' } := by
 have q := PySem.IsL.update e f
 rw [hf] at q
 refine I.write (x := l) (e := l) (by rw [hH]; exact trivial) (.inl rfl) (fun b' u hb hu => (Heap.get?_update_other s.heap (Obj.mapSeq f) (Ne.symm hb)).trans hu) ⟨_, q⟩ ?_
 exact ⟨hz, its', _, hv, q⟩
theorem Inv.lnew {its : List Value} {t' : Nat} (I : Inv X pins σ H s) (hv : Vals ys its) (hz : ys.length ≤ sizeLine) :
 Inv X pins σ (upd H s.heap.objs.size (.lst ys)) { s with heap := s.heap.push { cls := .type "list", data := .seq its.toArray }, toks := t' } :=
 I.laid (fun _ _ q => Heap.get?_push_of_some _ q) (Nat.le_refl _) ⟨hz, its, 0, hv, Heap.get?_push_size _ rfl⟩
theorem Inv.fresh (I : Inv X pins σ H s) : H s.heap.objs.size = none := I.hok.fresh (Nat.le_refl _)
theorem Inv.lW (I : Inv X pins σ H s) (hH : H l = some (.lst xs)) : xs.length ≤ sizeLine ∧ ∃ (its : List Value) (n : Nat), Vals xs its ∧ xs.length = its.length ∧ s.heap.get? l = some { cls := .type "list", data := .seq its.toArray n } := by
 obtain ⟨z, its, n, r, e⟩ := I.hok l _ hH
 exact ⟨z, its, n, r, r.length, e⟩
theorem iI {n : Nat} (h : n ≤ sizeLine) : Builtin.List.listTooLong n = false := by
 unfold Builtin.List.listTooLong
 exact decide_eq_false (by omega)
end
section
variable {X : Cx}
def xB : V → List V → Hp → VK → Prop := fun x vs H Q => ∃ l xs y, x = .ref l ∧ vs = [y] ∧ H l = some (.lst xs) ∧ xs.length < sizeLine ∧ Q .non (upd H l (.lst (xs ++ [y])))
theorem gp : MtM X "list.append" xB := by
 intro pins s σ H x vs v us Q I rx rv h
 obtain ⟨l, xs, y, rfl, rfl, hH, hz, q⟩ := h
 cases rx
 obtain ⟨u, rfl, ru⟩ := rv.one
 obtain ⟨z, its, n, r, hl, e⟩ := I.lW hH
 refine call_meets F.slot_list_append ⟨_, e, rfl⟩ F.entry_list_append (F.args_list_append_2 _ _) (PySem.list_append l its.toArray n u (by rw [List.size_toArray]; omega)) ⟨e, ?_⟩
 refine ⟨.non, _, I.rF (its' := its ++ [u]) hH e (by simp) (r.append (.cons ru .nil)) ?_, rfl, q⟩
 rw [List.length_append, List.length_singleton]
 omega
def rPop : V → List V → Hp → VK → Prop := fun x vs H Q => ∃ l xs y, x = .ref l ∧ vs = [] ∧ H l = some (.lst xs) ∧ xs[xs.length - 1]? = some y ∧ Q y (upd H l (.lst xs.dropLast))
theorem Aj : MtM X "list.pop" rPop := by
 intro pins s σ H x vs v us Q I rx rv h
 obtain ⟨l, xs, y, rfl, rfl, hH, hy, q⟩ := h
 cases rx
 have hus := rv.zero
 subst hus
 obtain ⟨z, its, n, r, hl, e⟩ := I.lW hH
 obtain ⟨u, hu, ru⟩ := r.get hy
 have hy' : its.toArray[its.toArray.size - 1]? = some u := by
  show its.toArray[its.length - 1]? = some u
  rw [← Array.getElem?_toList, ← hl]
  exact hu
 refine call_meets F.slot_list_pop ⟨_, e, rfl⟩ F.entry_list_pop (F.args_list_pop_1 _) (MeetsSeq.list_pop_last l its.toArray n u hy' (by rw [List.size_toArray]; omega)) ⟨e, ?_⟩
 refine ⟨y, _, I.rF (its' := its.dropLast) hH e ?_ r.dropLast ?_, ru, q⟩
 ·show its.toArray.eraseIdxIfInBounds (its.toArray.size - 1) = its.dropLast.toArray
  rw [List.size_toArray, List.eraseIdxIfInBounds_toArray, oH]
 ·rw [List.length_dropLast]
  omega
def rRep : R2 := fun x y H Q => ∃ l k xs, x = .ref l ∧ y = .int k ∧ H l = some (.lst xs) ∧ -(2 ^ 63) ≤ k ∧ k < 2 ^ 63 ∧ xs.length * k.toNat ≤ sizeLine ∧
 ∀ p, H p = none → Q (.ref p) (upd H p (.lst (List.replicate k.toNat xs).flatten))
theorem len_rep {α : Type} (xs : List α) (k : Nat) : (List.replicate k xs).flatten.length = k * xs.length := by
 induction k with
 | zero => simp
 | succ k ih => rw [List.replicate_succ, List.flatten_cons, List.length_append, ih, Nat.succ_mul, Nat.add_comm]
theorem Ak : OpR X (binaryOp .Mult) rRep := by
 intro pins s σ H x y v u Q I rx ry h
 obtain ⟨l, k, xs, rfl, rfl, hH, h1, h2, hz, q⟩ := h
 cases rx
 obtain ⟨t, rfl⟩ := ry
 obtain ⟨z, its, n, r, hl, e⟩ := I.lW hH
 have hlen : its.toArray.size * k.toNat ≤ sizeLine := by rw [List.size_toArray, ← hl]; exact hz
 have hcap : ¬ its.toArray.size * k.toNat > (2 ^ 63 - 1) / 8 := by
  have : (sizeLine : Nat) ≤ (2 ^ 63 - 1) / 8 := by decide
  omega
 have hfit : ¬ (!Builtin.List.listFitsIndex k) = true := by
  rw [fitsIndex_both h1 h2]
  exact Bool.false_ne_true
 have hlong : ¬ Builtin.List.listTooLong (its.toArray.size * k.toNat) = true := by
  rw [iI hlen]
  exact Bool.false_ne_true
 have hnew : List.foldl (fun x1 x2 => x1 ++ x2) #[] (List.replicate (if its.toArray.isEmpty = true then 0 else k.toNat) its.toArray) = (List.replicate k.toNat its).flatten.toArray := by
  have f0 : ∀ m : Nat, List.foldl (fun x1 x2 => x1 ++ x2) #[] (List.replicate m its.toArray) = (List.replicate m its).flatten.toArray := fun m => by
   have := foldl_rep its m []
   rw [List.nil_append] at this
   exact this
  rw [f0]
  cases its with
  | nil => simp
  | cons a r' => rw [if_neg (by simp)]
 refine wpAny_binaryOp_repeat_ref (T := "list") (U := "int") (by decide) ⟨_, e, rfl⟩ (fun s' => typeIs_int s' k t) noFill_list_mul F.fills_int_mul F.slot_int_rmul repeat_list F.slot_int_index.lookup
  (call_meets F.slot_int_rmul (typeIs_int s k t) F.entry_int_rmul (F.args_int_rmul_2 _ _) (int___rmul___int_list k t l its.toArray n)
    ⟨e, rfl, ⟨_, e, rfl⟩, call_meets F.slot_list_mul ⟨_, e, rfl⟩ F.entry_list_mul (F.args_list_mul_2 _ _) (AutoListH.list___mul___list_int_3 l its.toArray n k t hfit hcap hlong) ⟨e, ?_⟩⟩)
 rw [hnew]
 exact ⟨.ref _, _, I.lnew (t' := s.toks) (r.rep k.toNat) (by rw [len_rep, Nat.mul_comm]; exact hz), rfl, q _ I.fresh⟩
end
section
variable {prog : Program} {w : World} {A : Around} {E : Value → Shared → Prop} {s : Shared}
theorem oJ {a c n : Nat} (hac : a ≤ c) (hc : c ≤ n) : sliceBounds (some (a : Int)) (some (c : Int)) none n = ((a : Int), (c : Int), 1) := by
 simp only [sliceBounds, Option.getD_none]
 have h1 : ¬ ((a : Int) < 0) := by omega
 have h2 : ¬ ((c : Int) < 0) := by omega
 simp only [h1, h2, if_false, show (1 : Int) > 0 by decide, if_true]
 congr 1
 ·omega
 ·congr 1; omega
set_option maxRecDepth 100000 in
theorem wY {l b sl : Addr} {items new : Array Value} {n n2 : Nat} {vl vu : Value} {a c : Nat} {Q : Unit → Shared → Prop}
 (e : s.heap.get? l = some { cls := .type "list", data := .seq items n }) (e2 : s.heap.get? b = some { cls := .type "list", data := .seq new n2 }) (hne : l ≠ b)
 (hs : s.heap.IsSliceOf sl vl vu .none) (pl : IsPart vl (some (a : Int))) (pu : IsPart vu (some (c : Int))) (hac : a ≤ c) (hc : c ≤ items.size)
 (hsz : items.size + new.size ≤ sizeLine) (h : Q () { s with heap := s.heap.update l (Obj.mapSeq fun xs => xs.extract 0 a ++ new ++ xs.extract c xs.size) }) :
 wpAny (model prog w) A (setItem (.ref l) (.ref sl) (.ref b)) Q E s := by
 have hl : s.heap.IsList l items := PySem.IsL.isList e
 have hb : s.heap.IsList b new := PySem.IsL.isList e2
 obtain ⟨os, hos, hcs, hds⟩ := id hs
 have hTs : s.TypeIs (.ref sl) "slice" := ⟨os, hos, hcs⟩
 have hstep : ¬ ((rawPart none == rawInt 0) = true) := Bool.false_ne_true
 have hsame : Builtin.List.listSameRef (.ref l) (.ref b) = false := by
  unfold Builtin.List.listSameRef
  exact beq_eq_false_iff_ne.mpr hne
 have hmax : (max (a : Int) (c : Int)).toNat = c := by omega
 have hz' : ((fun xs : Array Value => xs.extract 0 a ++ new ++ xs.extract c xs.size) items).size ≤ sizeLine + 1 := by
  simp only [Array.size_append, Array.size_extract]
  omega
 unfold setItem
 try with_reducible refine wpAny_holding ?_
 first | refine wpAny_bind (wpAny_pure ?_) | skip
 refine wpAny_bind (wpAny_sequenceKey hl.typeIs (by decide) ?_)
 refine wpAny_bind (wpAny_callSpecial?_slot (name := Str.ofString "__setitem__") hl.typeIs slot_list_setitem
  (wpAny_call_entry slot_list_setitem hl.typeIs entry_list_setitem ?_ (args_list_setitem _ _ _)))
 show wpAny _ _ (Builtin.List.listSubscript? (.ref sl) >>= _) _ _ s
 refine wpAny_bind ?_
 unfold Builtin.List.listSubscript?
 refine wpAny_bind (wpAny_specialOf hTs slice_no_index ?_)
 simp only [Option.isNone_none, if_true]
 refine wpAny_pure ?_
 show wpAny _ _ (typeOf (.ref sl) >>= _) _ _ s
 refine wpAny_bind (wpAny_typeOf hTs ?_)
 first
  | rw [if_neg (by decide)]
  | refine PySem.W.KFB.if_not (by decide) ?_
 rw [listSliceParts_eq]
 refine wpAny_bind (wpAny_bind (wpAny_field hos hds (x := .none) rfl (wpAny_bind (wpAny_listPart .none ?_))))
 rw [if_neg hstep]
 refine wpAny_bind (wpAny_field hos hds (x := vl) rfl (wpAny_bind (wpAny_listPart pl ?_)))
 refine wpAny_bind (wpAny_field hos hds (x := vu) rfl (wpAny_bind (wpAny_listPart pu (wpAny_pure ?_))))
 first
  | simp only [hsame, Bool.false_eq_true, if_false]
  | refine PySem.W.KFB.if_not hsame ?_
  | (dsimp only
     rw [if_neg (by rw [hsame]; exact Bool.false_ne_true)])
 refine wpAny_bind (m := Builtin.List.listAllItems (.ref b) "must assign iterable to extended slice") ?_
 unfold Builtin.List.listAllItems
 refine wpAny_bind (wpAny_typeOf hb.typeIs ?_)
 first
  | refine PySem.W.KFB.if_so (by decide) ?_
  | rw [if_pos (by decide)]
  | simp only [beq_self_eq_true, Bool.true_or, if_true]
 unfold Builtin.List.listItems
 refine wpAny_bind (wpAny_seqItems e2 rfl (wpAny_pure ?_))
 refine wpAny_bind (wpAny_bind (wpAny_seqItems e rfl (wpAny_pure ?_)))
 refine wpAny_bind (wpAny_of_eq ((sliceIndices_raw (some (a : Int)) (some (c : Int)) none items.size (by simp)).trans (congrArg (pure : Int × Int × Int → Sem (Int × Int × Int)) (oJ hac hc))) ?_)
 show wpAny _ _ (if ((1 : Int) == 1) = true then _ else _) _ _ s
 rw [if_pos (by decide)]
 refine wpAny_bind (wpAny_rule ?_)
 first
  | simp only [iI hsz, Bool.false_eq_true, if_false]
  | refine PySem.W.KFB.if_not (iI hsz) ?_
 first | refine wpAny_bind (wpAny_pure ?_) | skip
 show wpAny _ _ (updateSeq l (fun xs => xs.extract 0 ((a : Int)).toNat ++ new ++ xs.extract (max (a : Int) (c : Int)).toNat xs.size) >>= _) _ _ s
 rw [hmax, Int.toNat_natCast]
 refine wpAny_bind (wpAny_updateSeq (hz := Nat.le_trans (Nat.le_add_right _ _) hsz) (_hz' := hz') e rfl ?_)
 refine wpAny_bind (wpAny_letGo ?_)
 first
  | exact wpAny_bind (wpAny_pure (wpAny_pure ⟨.none, rfl, wpAny_pure h⟩))
  | exact wpAny_pure ⟨.none, rfl, wpAny_pure h⟩
end
section
variable {X : Cx}
end
end L2
namespace L2
open PySem PySem.Spec PyProof.Rows
section
variable {κ : Type} [DecidableEq κ]
def iJ (kvs : List (κ × V)) (k : κ) : Option V := (kvs.find? fun kv => decide (kv.1 = k)).map (·.2)
def putK (kvs : List (κ × V)) (k : κ) (v : V) : List (κ × V) :=
 if (kvs.any fun kv => decide (kv.1 = k)) = true then kvs.map (fun kv => if kv.1 = k then (kv.1, v) else kv) else kvs ++ [(k, v)]
def zm (kvs : List (κ × V)) (k : κ) : List (κ × V) := kvs.filter fun kv => decide (kv.1 ≠ k)
theorem iK {p : κ × V} {r : List (κ × V)} {k : κ} (e : p.1 = k) : iJ (p :: r) k = some p.2 := by simp [iJ, List.find?_cons, e]
theorem iL {p : κ × V} {r : List (κ × V)} {k : κ} (e : ¬ p.1 = k) : iJ (p :: r) k = iJ r k := by simp [iJ, List.find?_cons, e]
theorem lX (k : κ) : ∀ kvs : List (κ × V), (kvs.any fun kv => decide (kv.1 = k)) = (iJ kvs k).isSome
 | [] => rfl
 | p :: r => by
  rw [List.any_cons]
  by_cases e : p.1 = k
  ·simp only [iK e, decide_eq_true e, Bool.true_or, Option.isSome_some]
  ·rw [iL e, decide_eq_false e, Bool.false_or]; exact lX k r
theorem lY (kvs : List (κ × V)) (k : κ) (v : V) : (putK kvs k v).length ≤ kvs.length + 1 := by
 unfold putK
 split
 ·rw [List.length_map]; omega
 ·rw [List.length_append, List.length_cons, List.length_nil]; omega
theorem gP.gq {o : Option V} {u : Option Value} (r : gP o u) : o.isSome = u.isSome := by
 cases o with
 | none => cases u with
  | none => rfl
  | some _ => exact (show False from r).elim
 | some _ => cases u with
  | none => exact (show False from r).elim
  | some _ => rfl
theorem gP.getD {o : Option V} {u : Option Value} {d : V} {d' : Value} (r : gP o u) (rd : RelV d d') : RelV (o.getD d) (u.getD d') := by
 cases o with
 | none => cases u with
  | none => exact rd
  | some _ => exact (show False from r).elim
 | some _ => cases u with
  | none => exact (show False from r).elim
  | some _ => exact r
theorem KV.val {kvs : List (κ × V)} {vs : List (κ × Value)} (r : KV kvs vs) (k : κ) : gP (iJ kvs k) (valueAt vs k) := by
 unfold KV at r
 induction r with
 | nil => exact True.intro
 | @cons p q ps qs h t ih =>
  obtain ⟨h1, h2⟩ := h
  by_cases e : p.1 = k
  ·have e' : q.1 = k := h1.symm.trans e
   have b : valueAt (q :: qs) k = some q.2 := by simp [valueAt, List.find?_cons, e']
   rw [iK e, b]; exact h2
  ·have e' : ¬ q.1 = k := fun z => e (h1.trans z)
   have b : valueAt (q :: qs) k = valueAt qs k := by simp [valueAt, List.find?_cons, e']
   rw [iL e, b]; exact ih
theorem KV.any {kvs : List (κ × V)} {vs : List (κ × Value)} (r : KV kvs vs) (k : κ) : (kvs.any fun kv => decide (kv.1 = k)) = vs.any fun kv => decide (kv.1 = k) := by
 unfold KV at r
 induction r with
 | nil => rfl
 | cons h t ih => rw [List.any_cons, List.any_cons, ih, h.1]
theorem KV.repl {kvs : List (κ × V)} {vs : List (κ × Value)} (r : KV kvs vs) (k : κ) {y : V} {u : Value} (ry : RelV y u) :
 KV (kvs.map fun kv => if kv.1 = k then (kv.1, y) else kv) (vs.map fun kv => if kv.1 = k then (kv.1, u) else kv) := by
 unfold KV at r ⊢
 induction r with
 | nil => exact .nil
 | @cons p q ps qs h t ih =>
  rw [List.map_cons, List.map_cons]
  refine .cons ?_ ih
  obtain ⟨h1, h2⟩ := h
  by_cases e : p.1 = k
  ·rw [if_pos e, if_pos (h1.symm.trans e)]; exact ⟨h1, ry⟩
  ·rw [if_neg e, if_neg (fun z => e (h1.trans z))]; exact ⟨h1, h2⟩
theorem KV.put {kvs : List (κ × V)} {vs : List (κ × Value)} (r : KV kvs vs) (k : κ) {y : V} {u : Value} (ry : RelV y u) : KV (putK kvs k y) (stored vs k u) := by
 unfold putK stored
 rw [r.any k]
 by_cases e : (vs.any fun kv => decide (kv.1 = k)) = true
 ·rw [if_pos e, if_pos e]; exact r.repl k ry
 ·rw [if_neg e, if_neg e]; exact Paired.snoc r ⟨rfl, ry⟩
theorem KV.drop {kvs : List (κ × V)} {vs : List (κ × Value)} (r : KV kvs vs) (k : κ) : KV (zm kvs k) (without vs k) := by
 unfold KV at r ⊢
 unfold zm without
 induction r with
 | nil => exact .nil
 | @cons p q ps qs h t ih =>
  obtain ⟨h1, h2⟩ := h
  rw [List.filter_cons, List.filter_cons]
  by_cases e : p.1 = k
  ·have a : ¬ decide (p.1 ≠ k) = true := by simp [e]
   have b : ¬ decide (q.1 ≠ k) = true := by simp [h1.symm.trans e]
   rw [if_neg a, if_neg b]; exact ih
  ·have e' : ¬ q.1 = k := fun z => e (h1.trans z)
   have a : decide (p.1 ≠ k) = true := by simp [e]
   have b : decide (q.1 ≠ k) = true := by simp [e']
   rw [if_pos a, if_pos b]; exact .cons ⟨h1, h2⟩ ih
theorem KV.keys {kvs : List (κ × V)} {vs : List (κ × Value)} (r : KV kvs vs) : kvs.map (·.1) = vs.map (·.1) := by
 unfold KV at r
 induction r with
 | nil => rfl
 | cons h t ih => rw [List.map_cons, List.map_cons, ih, h.1]
theorem KV.length {kvs : List (κ × V)} {vs : List (κ × Value)} (r : KV kvs vs) : kvs.length = vs.length := Paired.length r
end
theorem lZ {P : Program} {w : World} {k : Key} {u : Value} (r : RelV (kV k) u) : (aY P w).is k u = true := by
 cases k with
 | inl i => obtain ⟨t, e⟩ := (show ∃ t, u = Value.int i t from r); subst e; exact lP P w i t
 | inr x => obtain ⟨t, e⟩ := (show ∃ t, u = Value.str x t from r); subst e; exact lQ P w x t
theorem jN {P : Program} {w : World} : ∀ {ks : List Key} {us : List Value}, Vals (ks.map kV) us → ItemsAre (aY P w) ks us
 | [], _, r => by rw [List.map_nil] at r; cases r; exact .nil
 | k :: ks, _, r => by
  rw [List.map_cons] at r
  cases r with
  | cons h t => exact .cons (lZ h) (jN t)
abbrev KT : List (List Key × Addr × V) → List (List Key × Addr × Value) → Prop := Paired fun p q => p.1 = q.1 ∧ p.2.1 = q.2.1 ∧ RelV p.2.2 q.2.2
def atT (kvs : List (List Key × Addr × V)) (k : List Key) : Option V := (kvs.find? fun kv => decide (kv.1 = k)).map (·.2.2)
def kI (k : List Key) (v : V) (x : List Key × Addr × V) : List Key × Addr × V := if x.1 = k then (x.1, x.2.1, v) else x
def l0 (kvs : List (List Key × Addr × V)) (k : List Key) (b : Addr) (v : V) : List (List Key × Addr × V) :=
 if (atT kvs k).isSome = true then kvs.map (kI k v) else kvs ++ [(k, b, v)]
theorem l5 (kvs : List (List Key × Addr × V)) (k : List Key) (b : Addr) (v : V) : (l0 kvs k b v).length ≤ kvs.length + 1 := by
 unfold l0
 split
 ·rw [List.length_map]; omega
 ·rw [List.length_append, List.length_cons, List.length_nil]; omega
theorem KT.val {kvs : List (List Key × Addr × V)} {xs : List (List Key × Addr × Value)} (r : KT kvs xs) (k : List Key) : gP (atT kvs k) ((atKey xs k).map (·.2)) := by
 induction r with
 | nil => exact True.intro
 | @cons p q ps qs h t ih =>
  obtain ⟨h1, _, h2⟩ := h
  by_cases e : p.1 = k
  ·have e' : q.1 = k := h1.symm.trans e
   have b : atKey (q :: qs) k = some q.2 := by simp [atKey, List.find?_cons, e']
   have b2 : atT (p :: ps) k = some p.2.2 := by simp [atT, List.find?_cons, e]
   rw [b2, b]; exact h2
  ·have e' : ¬ q.1 = k := fun z => e (h1.trans z)
   have b : atKey (q :: qs) k = atKey qs k := by simp [atKey, List.find?_cons, e']
   have b2 : atT (p :: ps) k = atT ps k := by simp [atT, List.find?_cons, e]
   rw [b2, b]; exact ih
theorem KT.repl {kvs : List (List Key × Addr × V)} {xs : List (List Key × Addr × Value)} (r : KT kvs xs) (k : List Key) {y : V} {u : Value} (ry : RelV y u) :
 KT (kvs.map (kI k y)) (xs.map (putAt k u)) := by
 induction r with
 | nil => exact .nil
 | @cons p q ps qs h t ih =>
  rw [List.map_cons, List.map_cons]
  refine .cons ?_ ih
  obtain ⟨h1, h2, h3⟩ := h
  unfold putAt kI
  by_cases e : p.1 = k
  ·rw [if_pos e, if_pos (h1.symm.trans e)]; exact ⟨h1, h2, ry⟩
  ·rw [if_neg e, if_neg (fun z => e (h1.trans z))]; exact ⟨h1, h2, h3⟩
theorem KT.put {kvs : List (List Key × Addr × V)} {xs : List (List Key × Addr × Value)} (r : KT kvs xs) (k : List Key) {b : Addr} {y : V} {u : Value} (ry : RelV y u) :
 KT (l0 kvs k b y) (storedH xs k b u) := by
 have e : (atT kvs k).isSome = (atKey xs k).isSome := by
  rw [(r.val k).gq, Option.isSome_map]
 unfold l0 storedH
 rw [e]
 by_cases q : (atKey xs k).isSome = true
 ·rw [if_pos q, if_pos q]; exact r.repl k ry
 ·rw [if_neg q, if_neg q]; exact Paired.snoc r ⟨rfl, rfl, ry⟩
section
variable {P : Program} {w : World} {H : Hp} {h : Heap} {a : Addr}
theorem t8 {u : HO} (ok : HOk P w H h) (e : Rd H a u) : aJ P w H h a u := e.ok ok
theorem jO {kvs : List (Key × V)} (ok : HOk P w H h) (e : Rd H a (.dK kvs)) : kvs.length ≤ sizeLine ∧ (a == sysModules) = false ∧ ∃ vs, KV kvs vs ∧ h.DictOf (aY P w) a vs :=
 show aJ P w H h a (.dK kvs) from t8 ok e
theorem dk_of {kvs : List (Key × V)} (ok : HOk P w H h) (e : H a = some (.dK kvs)) : kvs.length ≤ sizeLine ∧ (a == sysModules) = false ∧ ∃ vs, KV kvs vs ∧ h.DictOf (aY P w) a vs := jO ok (.inl e)
end
section
variable {X : Cx} {pins : List (Addr × Obj)} {σ : St} {H : Hp} {s : Shared} {a : Addr}
theorem iM {ks : List Key} (I : Inv X pins σ H s) (e : SqT X.K H a (ks.map kV)) : (tupleKind (aY X.prog X.w)).is s.heap ks a := by
 obtain ⟨its, r, ⟨o, h1, h2, n, h3⟩, _⟩ := I.tuple e
 exact ⟨o, its.toArray, n, h1, h2, h3, by simpa using jN r⟩
theorem l6 {kvs : List (List Key × Addr × V)} (I : Inv X pins σ H s) (e : Rd H a (.dT kvs)) (hk : ∀ x ∈ kvs, SqT X.K H x.2.1 (x.1.map kV)) : kvs.length ≤ sizeLine ∧ (a == sysModules) = false ∧
 ∃ xs, KT kvs xs ∧ s.heap.DictOfH (tupleKind (aY X.prog X.w)) a xs := by
 obtain ⟨z, y, xs, r, o, es, ep, h1, h2, h3, h4, h5⟩ := (show aJ X.prog X.w H s.heap a (.dT kvs) from t8 I.hok e)
 refine ⟨z, y, xs, r, o, es, ep, h1, h2, h3, h4, ?_, h5⟩
 have all : ∀ {l : List (List Key × Addr × V)} {m : List (List Key × Addr × Value)}, KT l m → (∀ x ∈ l, SqT X.K H x.2.1 (x.1.map kV)) → ∀ x ∈ m, (tupleKind (aY X.prog X.w)).is s.heap x.1 x.2.1 := by
  intro l m q
  induction q with
  | nil => intro _ x hx; exact nomatch hx
  | @cons p q ps qs hq t ih =>
   intro hl x hx
   rcases List.mem_cons.mp hx with e | hx
   ·subst e
    rw [← hq.1, ← hq.2.1]
    exact iM I (hl p List.mem_cons_self)
   ·exact ih (fun y hy => hl y (List.mem_cons_of_mem _ hy)) x hx
 exact all r hk
end
def kJ (K : PySem.W.Frag) (H : Hp) (a : Addr) (y : V) (r : Option V) : Prop :=
 (∃ kvs k, Rd H a (.dK kvs) ∧ y = kV k ∧ r = iJ kvs k) ∨ ∃ kvs k b, Rd H a (.dT kvs) ∧ (∀ x ∈ kvs, SqT K H x.2.1 (x.1.map kV)) ∧ y = .ref b ∧ SqT K H b (k.map kV) ∧ r = atT kvs k
def xC (K : PySem.W.Frag) (H : Hp) (a : Addr) (y v : V) (H' : Hp) : Prop :=
 (∃ kvs k, H a = some (.dK kvs) ∧ y = kV k ∧ kvs.length < sizeLine ∧ H' = upd H a (.dK (putK kvs k v))) ∨
 ∃ kvs k b, H a = some (.dT kvs) ∧ (∀ x ∈ kvs, SqT K H x.2.1 (x.1.map kV)) ∧ y = .ref b ∧ SqT K H b (k.map kV) ∧ kvs.length < sizeLine ∧ H' = upd H a (.dT (l0 kvs k b v))
section
variable {X : Cx} {pins : List (Addr × Obj)} {σ : St} {H : Hp} {s : Shared} {a : Addr} {y v : V} {u r : Value} {o : Option V} {A : Around} {E : Value → Shared → Prop}
theorem Inv.big (I : Inv X pins σ H s) : sysModules < s.heap.objs.size := by
 have h : mainGlobals < s.heap.objs.size := (I.mod.glob.keeps I.bk).lt
 exact Nat.lt_trans (by decide) h
theorem jP {Q : Value → Shared → Prop} (hu : A.units + 1 < cLine) (I : Inv X pins σ H s) (g : kJ X.K H a y (some v)) (ry : RelV y u) (h : ∀ w' s', Inv X pins σ H s' → RelV v w' → Q w' s') :
 wpAny (model X.prog X.w) A (getItem (.ref a) u) Q E s := by
 rcases g with ⟨kvs, k, e, ey, l⟩ | ⟨kvs, k, b, e, hk, ey, eb, l⟩
 ·subst ey
  obtain ⟨z, hd, vs, rel, dd⟩ := jO I.hok e
  obtain ⟨w', hw, rw'⟩ := gP.some_of (v := v) (o := valueAt vs k) (by rw [l]; exact rel.val k)
  exact wpAny_getItem_of (lZ ry) dd.mapOf hw (h w' _ (I.tok _) rw')
 ·subst ey
  cases (show u = Value.ref b from ry)
  obtain ⟨z, hd, xs, rel, dd⟩ := l6 I e hk
  obtain ⟨w', hw, rw'⟩ := gP.some_of (v := v) (o := (atKey xs k).map (·.2)) (by rw [l]; exact rel.val k)
  obtain ⟨p, hp, hp2⟩ := Option.map_eq_some_iff.mp hw
  refine wpAny_getItem_heap (tupleKind_room_in1 hu) (iM I eb) dd hp ?_
  rw [hp2]
  exact h w' _ (I.tok _) rw'
theorem d_in {Q : Value → Shared → Prop} (hu : A.units + 1 < cLine) (I : Inv X pins σ H s) (g : kJ X.K H a y o) (ry : RelV y u) (h : ∀ s', Inv X pins σ H s' → Q (.bool o.isSome) s') :
 wpAny (model X.prog X.w) A (compareOp .In u (.ref a)) Q E s := by
 rcases g with ⟨kvs, k, e, ey, l⟩ | ⟨kvs, k, b, e, hk, ey, eb, l⟩
 ·subst ey
  obtain ⟨z, hd, vs, rel, dd⟩ := jO I.hok e
  refine wpAny_in_of (lZ ry) hd dd.mapOf ?_
  rw [← (rel.val k).gq, ← l]
  exact h _ (I.tok _)
 ·subst ey
  cases (show u = Value.ref b from ry)
  obtain ⟨z, hd, xs, rel, dd⟩ := l6 I e hk
  refine wpAny_in_heap (tupleKind_room_in1 hu) (iM I eb) hd dd ?_
  have q := (rel.val k).gq
  rw [Option.isSome_map] at q
  rw [← q, ← l]
  exact h _ (I.tok _)
theorem qa {h' : Heap} {t' : Nat} {ob : HO} (I : Inv X pins σ H s) (mu : Mut (H a)) (hs : Heap.SameBut a s.heap h') (he : ∃ q, h'.get? a = some q) (new : aJ X.prog X.w (upd H a ob) h' a ob) :
 Inv X pins σ (upd H a ob) { s with heap := h', toks := t' } :=
 I.write (x := a) (e := a) mu (.inl rfl) (fun b q hb z => (hs.2 b hb).trans z) he new
theorem Al {P : Program} {w : World} {H' : Hp} {h' : Heap} {kvs : List (Key × V)} {vs : List (Key × Value)} (z : kvs.length ≤ sizeLine) (hd : (a == sysModules) = false) (rel : KV kvs vs) (dd : h'.DictOf (aY P w) a vs) :
 aJ P w H' h' a (.dK kvs) := ⟨z, hd, vs, rel, dd⟩
theorem jQ {H' : Hp} {Q : Unit → Shared → Prop} (hu : A.units + 1 < cLine) (I : Inv X pins σ H s) (g : xC X.K H a y v H') (ry : RelV y u) (rv : RelV v r) (h : ∀ s', Inv X pins σ H' s' → Q () s') :
 wpAny (model X.prog X.w) A (setItem (.ref a) u r) Q E s := by
 rcases g with ⟨kvs, k, e, ey, l, eH⟩ | ⟨kvs, k, b, e, hk, ey, eb, l, eH⟩
 ·subst ey eH
  obtain ⟨z, hd, vs, rel, dd⟩ := dk_of I.hok e
  have hz : vs.length ≤ sizeLine := by rw [← rel.length]; exact z
  have hl : (putK kvs k v).length ≤ sizeLine := by have := lY kvs k v; omega
  refine wpAny_setItem_pairs (hsz := hz) (lZ ry) dd fun h' dd' hs => h _ ?_
  have he : ∃ q, h'.get? a = some q := let ⟨q, _, _, hq, _⟩ := dd'; ⟨q, hq⟩
  exact qa I (by rw [e]; exact True.intro) hs he (Al hl hd (rel.put k rv) dd')
 ·subst ey eH
  cases (show u = Value.ref b from ry)
  obtain ⟨z, hd, xs, rel, dd⟩ := l6 I (.inl e) hk
  have hz : xs.length ≤ sizeLine := by rw [← Paired.length rel]; exact z
  have hl : (l0 kvs k b v).length ≤ sizeLine := by have := l5 kvs k b v; omega
  refine wpAny_setItem_heap (hsz := hz) (tupleKind_room_in1 hu) (iM I eb) dd fun h' dd' hs => h _ ?_
  obtain ⟨q, es, ep, hq, h2, h3, h4, _, h5⟩ := dd'
  exact qa I (by rw [e]; exact True.intro) hs ⟨q, hq⟩ ⟨hl, hd, _, rel.put k rv, q, es, ep, hq, h2, h3, h4, h5⟩
end
section
variable {X : Cx} {pins : List (Addr × Obj)} {σ : St} {H : Hp} {s : Shared} {a : Addr} {kvs : List (Key × V)} {k : Key} {u : Value} {A : Around} {E : Value → Shared → Prop}
end
def NoSl (i : Expr) : Prop := ∀ ov iv, subscripted i false ov iv = operate [ov, iv] (getItem ov iv)
theorem xD {prog : Program} {w : World} {A : Around} {E : Value → Shared → Prop} {s : Shared} {env : Env} {value slice : Expr} {pos : Pos} {T id : String} {Q : Value → Shared → Prop}
 (hl : typeLookup (.type T) "__getitem__" = pure (some (.builtin id))) (hs : NoSl slice)
 (h : wpAny (model prog w) A (eval value env) (fun o s₁ => wpAny (model prog w) A (eval slice env) (fun i s₂ => s₂.TypeIs o T ∧ wpAny (model prog w) A (getItem o i) Q E s₂) E s₁) E s) :
 wpAny (model prog w) A (eval (.Subscript value slice pos) env) Q E s := by
 refine Subscript_ (wpAny_mono h (fun o s₁ h₁ => wpAny_mono h₁ (fun i s₂ h₂ => ?_) fun _ _ x => x) fun _ _ x => x)
 obtain ⟨hT, h₂⟩ := h₂
 unfold subscriptTail
 refine wpAny_bind ?_
 rw [getitemInPython_of_ne hT.not_modules]
 refine wpAny_bind (wpAny_specialOf hT hl ?_)
 have fin : wpAny (model prog w) A (subscripted slice false o i) (fun r s₃ => wpAny (model prog w) A (letTemporaryGo value o r >>= fun _ => pure r) Q E s₃) E s₂ := by
  rw [hs o i]
  exact wpAny_operating (wpAny_mono h₂ (fun r s₃ h₃ => wpAny_bind (wpAny_letTemporaryGo (wpAny_pure h₃))) fun _ _ x => x)
 first
  | exact wpAny_pure (wpAny_bind fin)
  | exact wpAny_bind (wpAny_pure (wpAny_bind fin))
  | exact wpAny_bind fin
theorem l7 {X : Cx} {pins : List (Addr × Obj)} {σ : St} {H : Hp} {s : Shared} {a : Addr} {y : V} {o : Option V} (I : Inv X pins σ H s) (g : kJ X.K H a y o) : s.TypeIs (.ref a) "dict" := by
 rcases g with ⟨kvs, k, e, _, _⟩ | ⟨kvs, k, b, e, hk, _, _, _⟩
 ·obtain ⟨_, _, vs, _, dd⟩ := jO I.hok e
  exact dd.typeIs
 ·obtain ⟨_, _, xs, _, dd⟩ := l6 I e hk
  exact dd.typeIs
def tDGet (X : Cx) (td ty : TE) : TE := fun σ H Q => td σ H fun x H1 => ty σ H1 fun y H2 => ∃ a v, x = .ref a ∧ kJ X.K H2 a y (some v) ∧ Q v H2
def tDIn (X : Cx) (ty td : TE) : TE := fun σ H Q => ty σ H fun y H1 => td σ H1 fun x H2 => ∃ a o, x = .ref a ∧ kJ X.K H2 a y o ∧ Q (.bl o.isSome) H2
def sDPut (X : Cx) (td ty tv : TE) : TS := fun D σ H => tv σ H fun v H1 => td σ H1 fun x H2 => ty σ H2 fun y H3 => ∃ a H4, x = .ref a ∧ xC X.K H3 a y v H4 ∧ D.nx σ H4
def sDAug (X : Cx) (td ty tv : TE) (rd : V → V → Hp → VK → Prop) : TS := fun D σ H => td σ H fun x H1 => ty σ H1 fun y H2 => ∃ a v, x = .ref a ∧ kJ X.K H2 a y (some v) ∧
 tv σ H2 fun y2 H3 => rd v y2 H3 fun z H4 => ∃ H5, xC X.K H4 a y z H5 ∧ D.nx σ H5
section
variable {X : Cx} {o i e value : Expr} {pos pos' tpos : Pos} {td ty tv : TE}
theorem xE (hu : X.A.units + 1 < cLine) (ho : PE X o td) (hi : PE X i ty) (hs : NoSl i) : PE X (.Subscript o i pos) (tDGet X td ty) := by
 intro pins s σ H Q I h
 refine xD PySem.F.slot_dict_getitem.lookup hs (thn (ho pins s σ H _ I h) fun u s1 ⟨x, H1, I1, rx, q1⟩ => thn (hi pins s1 σ H1 _ I1 q1) fun iv s2 ⟨y, H2, I2, ry, a, v, ex, g, q2⟩ => ?_)
 subst ex
 obtain rfl : u = Value.ref a := rx
 exact ⟨l7 I2 g, jP hu I2 g ry fun w' s3 I3 rw' => ⟨v, H2, I3, rw', q2⟩⟩
theorem Am (hu : X.A.units + 1 < cLine) (hi : PE X i ty) (ho : PE X o td) : PC X .In i o (tDIn X ty td) := by
 intro pins s σ H Q I h
 refine thn (hi pins s σ H _ I h) fun iv s1 ⟨y, H1, I1, ry, q1⟩ => thn (ho pins s1 σ H1 _ I1 q1) fun u s2 ⟨x, H2, I2, rx, a, ov, ex, g, q2⟩ => ?_
 subst ex
 obtain rfl : u = Value.ref a := rx
 exact d_in hu I2 g ry fun s3 I3 => ⟨.bl ov.isSome, H2, I3, rfl, q2⟩
theorem xF (hu : X.A.units + 1 < cLine) (ho : PE X o td) (hi : PE X i ty) (hv : PE X value tv) (hs : swapsWith value (some (.Subscript o i pos')) pos.line X.env = pure false) :
 PS X (.Assign [.Subscript o i pos'] value pos) (sDPut X td ty tv) := by
 intro pins s σ H D I h
 refine wpAny_Assign_Subscript (thn (hv pins s σ H _ I h) fun r s1 ⟨v, H1, I1, rv, q1⟩ => thn (ho pins s1 σ H1 _ I1 q1) fun u s2 ⟨x, H2, I2, rx, q2⟩ => thn (hi pins s2 σ H2 _ I2 q2) fun iv s3 ⟨y, H3, I3, ry, a, H4, ex, g, q3⟩ => ?_) hs
 subst ex
 obtain rfl : u = Value.ref a := rx
 exact jQ hu I3 g ry rv fun s4 I4 => ⟨σ, H4, I4, q3⟩
theorem xG {op : Operator} {rd : V → V → Hp → VK → Prop} (hu : X.A.units + 1 < cLine) (ho : PE X o td) (hi : PE X i ty) (hv : PE X value tv) (hop : InOp X op rd)
 (ha : ∀ ov iv new, augStore i ov iv new = (do holding [new, ov, iv] (setItem ov iv new); release [new, ov, iv] []; pure .next)) : PS X (.AugAssign (.Subscript o i tpos) op value pos) (sDAug X td ty tv rd) := by
 intro pins s σ H D I h
 refine wpAny_AugAssign_SubscriptAny (thn (ho pins s σ H _ I h) fun u s1 ⟨x, H1, I1, rx, q1⟩ => thn (hi pins s1 σ H1 _ I1 q1) fun iv s2 ⟨y, H2, I2, ry, a, v, ex, g, q2⟩ => ?_) ha
 subst ex
 obtain rfl : u = Value.ref a := rx
 refine jP hu I2 g ry fun w' s3 I3 rw' => thn (hv pins s3 σ H2 _ I3 q2) fun w2 s4 ⟨y2, H3, I4, ry2, q3⟩ => thn (hop pins s4 σ H3 v y2 w' w2 _ I4 rw' ry2 q3) fun w3 s5 ⟨z, H4, I5, rz, H5, g5, q4⟩ => ?_
 exact jQ hu I5 g5 ry rz fun s6 I6 => ⟨σ, H5, I6, q4⟩
end
theorem uc {P : Program} {w : World} {H : Hp} (h : Heap) (hb : sysModules < h.objs.size) : aJ P w H (h.push { cls := .type "dict", data := .dict #[] }) h.objs.size (.dK []) :=
 ⟨Nat.zero_le _, beq_eq_false_iff_ne.mpr (Ne.symm (Nat.ne_of_lt hb)), [], .nil, Heap.DictOf.new h⟩
theorem ud {P : Program} {w : World} {H : Hp} (h : Heap) (hb : sysModules < h.objs.size) : aJ P w H (h.push { cls := .type "dict", data := .dict #[] }) h.objs.size (.dT []) :=
 ⟨Nat.zero_le _, beq_eq_false_iff_ne.mpr (Ne.symm (Nat.ne_of_lt hb)), [], .nil, _, #[], 0, Heap.get?_push_size _ rfl, ⟨rfl, rfl, rfl⟩, rfl, rfl, List.nodup_nil⟩
def An : TE := fun _ H Q => ∀ p, H p = none → Q (.ref p) (upd H p (.dK []))
def Ao : TE := fun _ H Q => ∀ p, H p = none → Q (.ref p) (upd H p (.dT []))
section
variable {X : Cx} {pos : Pos}
theorem ue : PE X (.Dict [] [] pos) An := fun pins s σ H Q I h =>
 wpAny_Dict_empty ⟨.ref s.heap.objs.size, _, I.laid (a := s.heap.objs.size) (o := .dK []) (t' := s.toks) (fun _ _ q => Heap.get?_push_of_some _ q) (Nat.le_refl _) (uc s.heap I.big), rfl, h _ (I.hok.fresh (Nat.le_refl _))⟩
theorem uf : PE X (.Dict [] [] pos) Ao := fun pins s σ H Q I h =>
 wpAny_Dict_empty ⟨.ref s.heap.objs.size, _, I.laid (a := s.heap.objs.size) (o := .dT []) (t' := s.toks) (fun _ _ q => Heap.get?_push_of_some _ q) (Nat.le_refl _) (ud s.heap I.big), rfl, h _ (I.hok.fresh (Nat.le_refl _))⟩
end
def Aq (kvs more : List (Key × V)) : List (Key × V) := more.foldl (fun acc kv => putK acc kv.1 kv.2) kvs
theorem KV.merge : ∀ {more : List (Key × V)} {rs : List (Key × Value)} {kvs : List (Key × V)} {vs : List (Key × Value)}, KV more rs → KV kvs vs → KV (Aq kvs more) (merged vs rs) := by
 intro more rs kvs vs r
 unfold KV at r
 induction r generalizing kvs vs with
 | nil => intro q; exact q
 | @cons p q ps qs h t ih =>
  intro r0
  have e : KV (putK kvs p.1 p.2) (stored vs q.1 q.2) := by
   have := r0.put p.1 h.2
   rw [← h.1]; exact this
  exact ih e
structure M1 (X : Cx) (o : Expr) (m : Str) (apos : Pos) (e : Expr) (cpos : Pos) : Prop where
 base : attributeBase o m X.env (eval o X.env) = eval o X.env
 few : ((backTo cpos (starEach [e] X.env)).all (fun x => !x.1) && (backToKw cpos (keywordEach [] X.env)).all (fun x => x.1.isSome)
  && decide (([e] : List Expr).length + ([] : List Keyword).length + (if ([] : List Keyword).isEmpty then 0 else 1) < 30)) = true
 line : (apos.endLine == cpos.line) = true
 trees : backTo cpos (starEach [e] X.env) = [(false, eval e X.env)]
structure M2 (X : Cx) (o : Expr) (m : Str) (apos : Pos) (e f : Expr) (cpos : Pos) : Prop where
 base : attributeBase o m X.env (eval o X.env) = eval o X.env
 few : ((backTo cpos (starEach [e, f] X.env)).all (fun x => !x.1) && (backToKw cpos (keywordEach [] X.env)).all (fun x => x.1.isSome)
  && decide (([e, f] : List Expr).length + ([] : List Keyword).length + (if ([] : List Keyword).isEmpty then 0 else 1) < 30)) = true
 line : (apos.endLine == cpos.line) = true
 trees : backTo cpos (starEach [e, f] X.env) = [(false, eval e X.env), (false, eval f X.env)]
def IsD (H : Hp) (a : Addr) : Prop := (∃ kvs, Rd H a (.dK kvs)) ∨ ∃ kvs, Rd H a (.dT kvs)
theorem Ar {X : Cx} {pins : List (Addr × Obj)} {σ : St} {H : Hp} {s : Shared} {a : Addr} (I : Inv X pins σ H s) (d : IsD H a) :
 s.TypeIs (.ref a) "dict" ∧ (∀ b, Value.ref a = .ref b → ∃ ob, s.heap.get? b = some ob ∧ ob.dict = none) ∧ (a == sysModules) = false := by
 rcases d with ⟨kvs, e⟩ | ⟨kvs, e⟩
 ·obtain ⟨_, hd, vs, _, dd⟩ := jO I.hok e
  refine ⟨dd.typeIs, fun b q => ?_, hd⟩
  cases q
  obtain ⟨ob, _, _, h1, h2, _⟩ := dd
  exact ⟨ob, h1, h2.2.1⟩
 ·obtain ⟨_, hd, xs, _, ob, es, ep, h1, h2, _⟩ := (show aJ X.prog X.w H s.heap a (.dT kvs) from t8 I.hok e)
  refine ⟨⟨ob, h1, h2.1⟩, fun b q => ?_, hd⟩
  cases q
  exact ⟨ob, h1, h2.2.1⟩
section
variable {X : Cx} {pins : List (Addr × Obj)} {σ : St} {H : Hp} {s : Shared} {a : Addr} {y d : V} {u r : Value} {o : Option V} {A : Around} {E : Value → Shared → Prop}
theorem As {Q : Value → Shared → Prop} (hu : A.units + 1 < cLine) (I : Inv X pins σ H s) (g : kJ X.K H a y o) (ry : RelV y u) (rd : RelV d r) (h : ∀ w' s', Inv X pins σ H s' → RelV (o.getD d) w' → Q w' s') :
 wpAny (model X.prog X.w) A (call (.builtin "dict.get") [.ref a, u, r]) Q E s := by
 rcases g with ⟨kvs, k, e, ey, l⟩ | ⟨kvs, k, b, e, hk, ey, eb, l⟩
 ·subst ey
  obtain ⟨z, hd, vs, rel, dd⟩ := jO I.hok e
  refine call_meetsIn PySem.F.slot_dict_get dd.typeIs PySem.F.entry_dict_get (PySem.F.args_dict_get_3 _ _ _) (meets_dict_get_default (aY X.prog X.w) a (lZ ry) hd r) ⟨_, dd.mapOf, h _ _ (I.tok _) ?_⟩
  rw [l]
  exact (rel.val k).getD rd
 ·subst ey
  cases (show u = Value.ref b from ry)
  obtain ⟨z, hd, xs, rel, dd⟩ := l6 I e hk
  refine call_meetsIn PySem.F.slot_dict_get dd.typeIs PySem.F.entry_dict_get (PySem.F.args_dict_get_3 _ _ _) (meetsH_dict_get_default (tupleKind (aY X.prog X.w)) a b hd r) ⟨tupleKind_room_in1 hu, k, xs, iM I eb, dd, h _ _ (I.tok _) ?_⟩
  rw [l]
  exact (rel.val k).getD rd
end
def Au (X : Cx) (td ty tx : TE) : TE := fun σ H Q => td σ H fun x H1 => ∃ a, x = .ref a ∧ IsD H1 a ∧ ty σ H1 fun y H2 => tx σ H2 fun z H3 => ∃ o, kJ X.K H3 a y o ∧ Q (o.getD z) H3
section
variable {X : Cx} {o e f : Expr} {apos cpos : Pos} {td ty tx : TE}
theorem ug (hu : X.A.units + 1 < cLine) (ho : PE X o td) (he : PE X e ty) (hf : PE X f tx) (m : M2 X o "get" apos e f cpos) : PE X (.Call (.Attribute o "get" apos) [e, f] [] cpos) (Au X td ty tx) := by
 intro pins s σ H Q I h
 refine wpAny_Call_method m.base m.few m.line PySem.F.plainAttrs_dict PySem.F.slot_dict_get PySem.F.type_dict_get (thn (ho pins s σ H _ I h) fun u s1 ⟨x, H1, I1, rx, a, ex, d, q1⟩ => ?_)
 subst ex
 obtain rfl : u = Value.ref a := rx
 obtain ⟨t1, t2, _⟩ := Ar I1 d
 refine ⟨t1, t2, ?_⟩
 rw [m.trees]
 refine Calls.callWith_builtin rfl (Calls.evalArgs_plain (Calls.spliced_cons (thn (he pins s1 σ H1 _ I1 q1) fun iv s2 ⟨y, H2, I2, ry, q2⟩ =>
  Calls.spliced_cons (thn (hf pins s2 σ H2 _ I2 q2) fun fv s3 ⟨z, H3, I3, rz, ov, g, q3⟩ => Calls.spliced_nil ?_))))
 exact As hu I3 g ry rz fun w' s4 I4 rw' => ⟨_, H3, I4, rw', q3⟩
end
section
variable {X : Cx} {pins : List (Addr × Obj)} {σ : St} {H : Hp} {s : Shared} {a : Addr} {kvs : List (Key × V)} {A : Around} {E : Value → Shared → Prop}
end
section
variable {X : Cx} {pins : List (Addr × Obj)} {σ : St} {H : Hp} {s : Shared} {a : Addr} {y : V} {u : Value} {A : Around} {E : Value → Shared → Prop}
end
end L2
namespace Att
open PySem PySem.W PySem.Calls PyProof.Rows
theorem gR {P : Params} {h : Heap} : ∀ (ns : List Int) (vs : List Value), WellAll P h vs (ns.map WData.int) → IntsAre vs ns := by
 intro ns
 induction ns with
 | nil =>
  intro vs w
  rw [List.map_nil] at w
  cases w
  exact .nil
 | cons n ns ih =>
  intro vs w
  rw [List.map_cons] at w
  cases w with
  | cons a b =>
   cases a
   exact .cons _ _ (ih _ b)
theorem rG {l : OpenLaw} {n : Nat} (hn : l.most = some n) {P : Params} {h : Heap} {args : List WData} {vals : List Value}
 (hpre : l.row.toRowW.claim.pre args = true) (hwl : WellAll P h vals args) :
 ∃ a vs ns, vals = [Value.ref a] ∧ args = [WData.list (ns.map WData.int)] ∧ h.get? a = some { cls := .type "list", data := .seq vs.toArray } ∧ IntsAre vs ns ∧ ns.length ≤ n := by
 have hsh : WShape.hasAll [] args [.list .int] = true := (pre_splitW hpre).1
 have hc : l.pre.holds [] { args := args } = true := (pre_splitW hpre).2
 obtain ⟨d, r, rfl, h1, h2⟩ := hasAllW_cons hsh
 obtain rfl := hasAllW_nil h2
 obtain ⟨xs, rfl, h3⟩ := hasW_list h1
 obtain ⟨ns, rfl⟩ := items_int h3
 have hlen : ns.length ≤ n := by
  unfold OpenLaw.pre at hc
  have h4 : (WTm.not (.lt (.lit (.int (n : Int))) (.len (.arg 0)))).holds [] { args := [.list (ns.map .int)] } = true := by
   have h4 := (holds_andW hc).1
   rw [hn] at h4
   exact h4
  have h5 := condW_of h4 (w_not (w_lt w_lit (w_len_list (w_arg rfl))))
  rw [List.length_map] at h5
  refine Nat.le_of_not_lt fun q => ?_
  have q' : (n : Int) < ((ns.length : Nat) : Int) := by omega
  first
   | (rw [decide_eq_true q'] at h5; exact absurd h5 (by decide))
   | (simp at h5; omega)
 cases hwl with
 | cons w1 w2 =>
  cases w2
  cases w1 with
  | list ho hall => exact ⟨_, _, ns, rfl, rfl, ho, gR ns _ hall, hlen⟩
theorem rH (l : OpenLaw) (args : List WData) : l.row.toRowW.claim.post args (.bool true) args = true :=
 postW_of (r := l.row.toRowW) (X := (true == true))
  (show WShape.has [] (.bool true) .bool = true by first | rfl | decide | simp [WShape.has, WShape.arms, WShape.armsAll])
  (show (WTm.eq .res (.lit (.bool true))).value [] { args := args, res := some (.bool true), after := args } = some (.bool (true == true)) from w_eq_bool (w_res rfl) w_lit) rfl
theorem l8 {l : OpenLaw} {n : Nat} {q : Program} {loose : List Str} {XP : (Str → Option Value) → Heap → Prop} {YP : World → Heap → Prop} {d : DefRec}
 (hn : l.most = some n) (hdf : d.params.defaults = [])
 (call : ∀ (w : World) (s₀ s₁ : Shared) (mg mb : Str → Option Value) (fa : Addr) (o : Obj) (pm cd doc : Value) (a : Addr) (vs : List Value) (ns : List Int),
   Ground q loose [] XP w s₀ mg mb s₁.heap → YP w s₁.heap →
   s₁.heap.get? fa = some o → o.data = .func (docDef d.name d.params d.body d.scope pm cd doc) → s₁.heap.CodeRec cd d.name → mg d.name = some (.ref fa) →
   s₁.heap.get? a = some { cls := .type "list", data := .seq vs.toArray } → IntsAre vs ns → ns.length ≤ n → s₁.gens = #[] →
   codeAny (model l.prog w) callerA (.call (.ref fa) ⟨[.ref a], []⟩) (fun r s' => r = .ok (.ret (.bool true)) ∧ OldK s₁.heap s'.heap ∧ s'.os = s₁.os ∧ AllBare s'.gens) s₁) :
 WalkO q loose XP YP l.row.toRowW d [] (fun f vs => PySem.call f vs) := by
 intro w s₀ s₁ mg mb G Y fa o pm cd doc dV kV ho hd hcd hD hmg hg args vals as hpre hlay hrd hwl hlo
 obtain rfl : dV = .none := Dflts.none hD hdf
 obtain rfl : kV = .none := Dflts.noKw hD
 obtain ⟨a, vs, ns, rfl, rfl, hobj, hints, hlen⟩ := rG hn hpre hwl
 refine enter_call (codeAny_mono (call w s₀ s₁ mg mb fa o pm cd doc a vs ns G Y ho (fd_plain hd) hcd hmg hobj hints hlen hg) fun r s' hq => ?_)
 obtain ⟨rfl, h2, h3, h4⟩ := hq
 exact ⟨.inl ⟨.bool true, .bool true, [], rfl, fun _ => rfl, .bool true, rH l _, fun _ => ⟨List.Pairwise.nil, fun _ hm => (nomatch hm)⟩⟩, h2, h3, h4⟩
section
variable {prog : Program} {w : World} {A : Around} {E : Value → Shared → Prop} {s : Shared} {K : Frag}
def ledger (h : Heap) (L d : Addr) : List (Addr × Obj) := (List.range h.objs.size).filterMap fun a => if a = L ∨ a = d then none else (h.get? a).map fun o => (a, o)
end
end Att
namespace L2
open PySem PySem.Spec PyProof.Rows
theorem jR : ∀ {vs : List Value} {ns : List Int}, IntsAre vs ns → Vals (ns.map V.int) vs
 | _, _, .nil => .nil
 | _, _, .cons n t h => .cons ⟨t, rfl⟩ (jR h)
def Only (H : Hp) : Prop := ∀ b, H b = none ∨ ∃ o xs, H b = some (.frz o (.lst xs))
theorem uh {P : Program} {w : World} {K : PySem.W.Frag} {mg mb : Str → Option Value} {CX : CXT} {k : Nat} {fa a : Addr} {fd : FuncData} {x : Str} {sp : Sp} {s₁ : Shared} {vs : List Value} {ns : List Int}
 (KX : K.In s₁.heap) (hns : s₁.heap.Ns mainGlobals mg) (hb : s₁.heap.Ns builtinsNs mb) (hbb : ∀ x : Str, x ≠ "__name__" → mb x = bootBuiltins x) (hlim : s₁.heap.NoLimit) (hg : s₁.gens = #[])
 (ha : s₁.heap.get? a = some { cls := .type "list", data := .seq vs.toArray }) (hi : IntsAre vs ns) (hl : ns.length ≤ sizeLine) (hr : cL k callerA)
 (F : ∀ base : Heap, K.In base → base.Ns mainGlobals mg → aX P w K mg base CX k fa fd [x] sp) (hbind : ∀ (s : Shared) (u : Value), BindsTo s fd ⟨[u], []⟩ [(x, u)])
 (hsp : ∀ H : Hp, Only H → SqL K H a (ns.map V.int) → sp [.ref a] H (fun v _ => v = .bl true) fun _ _ _ => False)
 (hCX : ∀ H e s', CX [] H s₁ (fun _ _ _ => False) e s' → False) :
 codeAny (model P w) callerA (.call (.ref fa) ⟨[.ref a], []⟩) (fun r s' => r = .ok (.ret (.bool true)) ∧ OldK s₁.heap s'.heap ∧ s'.os = s₁.os ∧ AllBare s'.gens) s₁ := by
 have rv := jR hi
 have lenV := hi.length
 have core : ∀ H : Hp, Only H → SqL K H a (ns.map V.int) → HOk P w H s₁.heap → (∀ b, H b ≠ none → b = a) → (H a ≠ none → K.lookup a = none) →
  codeAny (model P w) callerA (.call (.ref fa) ⟨[.ref a], []⟩) (fun r s' => r = .ok (.ret (.bool true)) ∧ OldK s₁.heap s'.heap ∧ s'.os = s₁.os ∧ AllBare s'.gens) s₁ := by
  intro H hO hS hok hA hK
  have base_of : ∀ {b : Addr} {o : Obj}, s₁.heap.get? b = some o → H b = none → (kC s₁.heap H).get? b = some o := fun e n => tG e n
  have noA : ∀ {b : Addr} {o : Obj} {es : Array DictEntry} {ep : Nat}, s₁.heap.get? b = some o → o.data = .dict es ep → H b = none := fun {b o es ep} e d => by
   cases q : H b with
   | none => rfl
   | some u =>
    have e' : b = a := hA b (by rw [q]; simp)
    subst e'
    rw [ha] at e; cases e
    have d' : Data.seq vs.toArray _ = Data.dict es ep := d
    cases d'
  have nsK : ∀ {b : Addr} {m : Str → Option Value}, s₁.heap.Ns b m → (kC s₁.heap H).Ns b m := fun {b m} ⟨o, es, ep, e, d, r⟩ => ⟨o, es, ep, base_of e (noA e d), d, r⟩
  have hKb : K.In (kC s₁.heap H) := fun b o e => base_of (KX b o e) (by
   cases q : H b with
   | none => rfl
   | some u =>
    have e' : b = a := hA b (by rw [q]; simp)
    subst e'
    rw [hK (by rw [q]; simp)] at e; cases e)
  have hM : Mod K mg (kC s₁.heap H) := ⟨hKb, nsK hns, ⟨mb, nsK hb, hbb⟩, let ⟨mc, h1, h2⟩ := hlim; ⟨mc, nsK h1, h2⟩⟩
  have e0 : oB P w K mg (kC s₁.heap H) callerA [] s₁ H := ⟨rfl, hM, fun b o e => wZ e, Nat.le_of_eq (ri _ _), trivial, fun b hb => absurd (show b ∈ ([] : List Addr) from hb) (by simp), hok, .of_eq hg⟩
  refine codeAny_mono ((F _ hKb (nsK hns)).run callerA [] s₁ H ⟨[.ref a], []⟩ [.ref a] [.ref a] _ _ hr e0 (hbind s₁ (.ref a)) (.cons rfl .nil) (hsp H hO hS)) fun r s' h => ?_
  cases r with
  | error e => exact (hCX H e s' h).elim
  | ok fl =>
   cases fl with
   | next => exact False.elim h
   | brk => exact False.elim h
   | cont => exact False.elim h
   | ret u =>
    obtain ⟨v, H', os, bare, un, hok', r', q⟩ := h
    have q' : v = .bl true := q
    subst q'
    obtain rfl : u = Value.bool true := r'
    refine ⟨rfl, OldK.of_keep fun b o e => ?_, os, bare⟩
    cases q : H b with
    | none => exact un.keep b o e q (by intro z; exact absurd (show b ∈ ([] : List Addr) from z) (by simp)) (by simp)
    | some u =>
     rcases hO b with z | ⟨ob, xs, z⟩
     ·rw [q] at z; cases z
     ·have z2 := un.frzs b ob _ z
      obtain ⟨e1, _⟩ := hok b _ z
      obtain ⟨e2, _⟩ := hok' b _ z2
      rw [e] at e1; cases e1
      exact e2
 cases hk : K.lookup a with
 | some o =>
  have e := KX a o hk
  rw [ha] at e
  cases e
  refine core (fun _ => none) (fun _ => .inl rfl) (.inr ⟨_, vs.toArray, _, hk, rfl, rfl, rfl, by rw [List.size_toArray, lenV]; exact hl, by simpa using rv⟩) (fun b u z => by have z' : (none : Option HO) = some u := z; cases z') (fun b z => absurd rfl z) fun z => absurd rfl z
 | none =>
  refine core (fun b => if b = a then some (.frz { cls := .type "list", data := .seq vs.toArray } (.lst (ns.map V.int))) else none) (fun b => ?_) (.inl (.inr ⟨{ cls := .type "list", data := .seq vs.toArray }, if_pos rfl⟩)) (fun b u z => ?_) (fun b z => ?_) fun _ => hk
  ·by_cases hb : b = a
   ·exact .inr ⟨_, _, if_pos hb⟩
   ·exact .inl (if_neg hb)
  ·by_cases hb : b = a
   ·have z' := (if_pos hb).symm.trans z
    cases z'
    subst hb
    exact ⟨ha, by rw [List.length_map]; exact hl, vs, _, rv, ha⟩
   ·have z' := (if_neg hb).symm.trans z
    cases z'
  ·by_cases hb : b = a
   ·exact hb
   ·exact absurd (if_neg hb) z
end L2
namespace L2
open PySem PySem.Spec PyProof.Rows
abbrev KOf {K : PySem.W.Frag} {h : Heap} (_ : K.In h) : PySem.W.Frag := K
theorem xH {l : PySem.W.OpenLaw} {n k : Nat} {q : Program} {loose : List Str} {XP : (Str → Option Value) → Heap → Prop} {YP : World → Heap → Prop} {d : DefRec} {K : Params → PySem.W.Frag} {CX : World → CXT} {sp : World → Sp} {x : Str}
 (hn : l.most = some n) (hn2 : n ≤ sizeLine) (hdf : d.params.defaults = []) (hr : cL k callerA)
 (hY : ∀ (w : World) (h : Heap), YP w h → (K w.params).In h)
 (F : ∀ (w : World) (mg : Str → Option Value) (fa : Addr) (h : Heap), (K w.params).In h → h.Ns mainGlobals mg → mg d.name = some (.ref fa) →
   ∃ fd : FuncData, (∀ (s : Shared) (u : Value), BindsTo s fd ⟨[u], []⟩ [(x, u)]) ∧
    ∀ base : Heap, (K w.params).In base → base.Ns mainGlobals mg → aX l.prog w (K w.params) mg base (CX w) k fa fd [x] (sp w))
 (hsp : ∀ (w : World) (H : Hp) (a : Addr) (ns : List Int), ns.length ≤ n → Only H → SqL (K w.params) H a (ns.map V.int) → sp w [.ref a] H (fun v _ => v = .bl true) fun _ _ _ => False)
 (hCX : ∀ (w : World) (H : Hp) (s : Shared) (e : Value) (s' : Shared), CX w [] H s (fun _ _ _ => False) e s' → False) :
 PySem.W.WalkO q loose XP YP l.row.toRowW d [] (fun f vs => PySem.call f vs) := by
 refine Att.l8 hn hdf fun w s₀ s₁ mg mb fa o pm cd doc a vs ns G Y ho hd hcd hmg hobj hints hlen hg => ?_
 have KX := hY w _ Y
 obtain ⟨fd, hb, hF⟩ := F w mg fa _ KX G.T.g hmg
 exact uh KX G.T.g G.T.b G.T.builtins G.T.nolimit hg hobj hints (Nat.le_trans hlen hn2) hr hF hb (fun H hO hS => hsp w H a ns hlen hO hS) fun H e s' => hCX w H s₁ e s'
end L2
namespace L2
open PySem PySem.Spec PyProof.Rows
def cT (s : Stmt) : Arguments := match s with
 | .FunctionDef _ a _ _ _ _ _ _ _ _ => a
 | _ => { posonlyargs := [], args := [], vararg := none, kwonlyargs := [], kw_defaults := [], kwarg := none, defaults := [] }
def aB (s : Stmt) : List Stmt := match s with
 | .FunctionDef _ _ b _ _ _ _ _ _ _ => b
 | _ => []
def aa (s : Stmt) : Scope := match s with
 | .FunctionDef _ _ _ _ _ _ sc _ _ _ => sc
 | _ => { kind := .function, names := [], isGenerator := false, isCoroutine := false }
abbrev CX0 : CXT := fun _ _ _ _ _ _ => False
structure Fun (K : PySem.W.Frag) (x qual : Str) (st : Stmt) (f : Addr) (fd : FuncData) : Prop where
 ex : ∃ (oc : Value) (od : Option Addr) (kV doc pm : Value) (an : Option Addr) (cdv ct : Value) (osl : Array (Option Value)),
  fd = PySem.W.fnOf x qual (cT st) (aB st) (aa st) .none kV doc pm an cdv ct ∧ K.lookup f = some ⟨oc, od, .func fd, osl⟩ ∧ PySem.W.codeIn K cdv qual = true
 kp : PySem.W.keepIn K (.ref f) = true
section
variable {P : Program} {w : World} {K : PySem.W.Frag} {mg : Str → Option Value} {base : Heap}
theorem Fun.ok {x qual : Str} {st : Stmt} {f : Addr} {fd : FuncData} {N ps : List Str} {k : Nat} {sp : Sp} (F : Fun K x qual st f fd) (S : aD N ps (aa st)) (len : ∀ vs H Q E, sp vs H Q E → vs.length = ps.length)
 (hbody : ∀ (cdv : Value) (A : Around) (outer : List Env) (s : Shared) (H : Hp) (vs : List V) (Q : VK) (E : XK), cL k (A.deeper (envOfC qual (aa st) s.heap.objs.size f cdv)) → sp vs H Q E →
   ∃ t, PSs (lT CX0 P w K mg base N qual (aa st) f cdv A outer s H E).nox (aB st) t ∧ t { nx := fun _ H' => Q .non H', rt := Q } (start N vs) H) : aX P w K mg base CX0 (k + 1) f fd ps sp := by
 obtain ⟨oc, od, kV, doc, pm, an, cdv, ct, osl, rfl, lk, hcd⟩ := F.ex
 refine tT lk hcd S len fun A outer s H vs Q E hr hsp => ?_
 obtain ⟨t, h, q⟩ := hbody cdv A outer s H vs Q E hr hsp
 exact ⟨t, h.nox, q⟩
theorem Fun.binds {x qual : Str} {st : Stmt} {f : Addr} {fd : FuncData} {ps : List Str} (F : Fun K x qual st f fd)
 (h : ∀ (kV doc pm : Value) (an : Option Addr) (cdv ct : Value) (us : List Value), us.length = ps.length → bindArgs (PySem.W.fnOf x qual (cT st) (aB st) (aa st) .none kV doc pm an cdv ct) ⟨us, []⟩ = pure (ps.zip us)) : Binds K fd ps [] := by
 obtain ⟨oc, od, kV, doc, pm, an, cdv, ct, osl, rfl, lk, hcd⟩ := F.ex
 exact .all (h kV doc pm an cdv ct)
theorem Av {x qual : Str} {st : Stmt} {f : Addr} {oc : Value} {od an : Option Addr} {osl : Array (Option Value)} {kV doc pm cdv ct : Value} (l : K.lookup f = some ⟨oc, od, .func (PySem.W.fnOf x qual (cT st) (aB st) (aa st) .none kV doc pm an cdv ct), osl⟩)
 (c : PySem.W.codeIn K cdv qual = true) (k : PySem.W.keepIn K (.ref f) = true) : Fun K x qual st f (PySem.W.fnOf x qual (cT st) (aB st) (aa st) .none kV doc pm an cdv ct) := ⟨⟨oc, od, kV, doc, pm, an, cdv, ct, osl, rfl, l, c⟩, k⟩
end
theorem hu_of {A : Around} {k : Nat} (hr : cL k A) : A.units + 1 < cLine := Nat.lt_of_le_of_lt (Nat.add_le_add_left (by decide : 1 ≤ 64) _) hr.units
theorem bz {n : Nat} (h : n ≤ 1000) : n < sizeLine := Nat.lt_of_le_of_lt h (by decide)
section
variable {X : Cx}
end
def aC (H H' : Hp) : Prop := ∀ b o, H b = some o → H' b = some o
theorem aC.refl (H : Hp) : aC H H := fun _ _ h => h
theorem aC.trans {H H1 H2 : Hp} (a : aC H H1) (b : aC H1 H2) : aC H H2 := fun c o h => b c o (a c o h)
theorem aC.free {H H' : Hp} (e : aC H H') {l : Addr} (h : H' l = Option.none) : H l = Option.none := by
 cases q : H l with
 | none => rfl
 | some o =>
  rw [e l o q] at h
  cases h
theorem aC.seq {K : PySem.W.Frag} {H H' : Hp} {a : Addr} {xs : List V} (e : aC H H') (h : SqL K H a xs) : SqL K H' a xs := by
 rcases h with (h | ⟨o, h⟩) | h
 ·exact .inl (.inl (e _ _ h))
 ·exact .inl (.inr ⟨o, e _ _ h⟩)
 ·exact .inr h
end L2
namespace L2
open PySem PySem.Spec PyProof.Rows
section
variable {X : Cx}
end
end L2
namespace L2
open PySem PySem.Spec PyProof.Rows
section
variable {κ : Type} [DecidableEq κ]
end
end L2
set_option Elab.async false
set_option linter.all false
set_option maxRecDepth 100000
namespace EV
open PySem PySem.Spec PyProof.Rows L2
inductive D where
 | non | bl (b : Bool) | int (i : Int) | str (x : Str) | tup (ds : List D) | lst (ds : List D) | exc (C : Addr)
 | fdK (ks : List Key) (ds : List D) | fdT (ks : List (List Key)) (ds : List D) | adr (a : Addr)
def oM (a C : Addr) : Heap → Prop := fun h => ∃ o, h.get? a = some o ∧ o.cls = .ref C ∧ ∃ vs, o.data = .fields vs
mutual
def Rep (K : PySem.W.Frag) (H : Hp) : D → V → Prop
 | .non, v => v = .non
 | .bl b, v => v = .bl b
 | .int i, v => v = .int i
 | .str x, v => v = .str x
 | .tup ds, v => ∃ a xs, v = .ref a ∧ SqT K H a xs ∧ aj K H ds xs
 | .lst ds, v => ∃ a xs, v = .ref a ∧ SqL K H a xs ∧ aj K H ds xs
 | .exc C, v => ∃ a, v = .ref a ∧ H a = some (.ext (oM a C))
 | .fdK ks ds, v => ∃ a ys o, v = .ref a ∧ H a = some (.frz o (.dK ys)) ∧ ys.map (·.1) = ks ∧ aj K H ds (ys.map (·.2))
 | .fdT ks ds, v => ∃ a ys o, v = .ref a ∧ H a = some (.frz o (.dT ys)) ∧ ys.map (·.1) = ks ∧ (∀ y ∈ ys, SqT K H y.2.1 (y.1.map kV)) ∧ aj K H ds (ys.map (·.2.2))
 | .adr a, v => v = .ref a
def aj (K : PySem.W.Frag) (H : Hp) : List D → List V → Prop
 | [], xs => xs = []
 | d :: ds, xs => ∃ x r, xs = x :: r ∧ Rep K H d x ∧ aj K H ds r
end
theorem aq {K : PySem.W.Frag} {H H' : Hp} {a : Addr} {xs : List V} (e : aC H H') (h : SqT K H a xs) : SqT K H' a xs := by
 rcases h with (h | ⟨o, h⟩) | h
 ·exact .inl (.inl (e _ _ h))
 ·exact .inl (.inr ⟨o, e _ _ h⟩)
 ·exact .inr h
mutual
theorem Rep.mono {K : PySem.W.Frag} {H H' : Hp} (e : aC H H') : ∀ (d : D) {v : V}, Rep K H d v → Rep K H' d v
 | .non, _, h => by simpa [Rep] using h
 | .bl b, _, h => by simpa [Rep] using h
 | .int i, _, h => by simpa [Rep] using h
 | .str x, _, h => by simpa [Rep] using h
 | .tup ds, _, h => by
  simp only [Rep] at h ⊢
  obtain ⟨a, xs, e1, h1, h2⟩ := h
  exact ⟨a, xs, e1, aq e h1, aj.mono e ds h2⟩
 | .lst ds, _, h => by
  simp only [Rep] at h ⊢
  obtain ⟨a, xs, e1, h1, h2⟩ := h
  exact ⟨a, xs, e1, e.seq h1, aj.mono e ds h2⟩
 | .exc C, _, h => by
  simp only [Rep] at h ⊢
  obtain ⟨a, e1, h1⟩ := h
  exact ⟨a, e1, e _ _ h1⟩
 | .fdK ks ds, _, h => by
  simp only [Rep] at h ⊢
  obtain ⟨a, ys, o, e1, h1, h2, h3⟩ := h
  exact ⟨a, ys, o, e1, e _ _ h1, h2, aj.mono e ds h3⟩
 | .fdT ks ds, _, h => by
  simp only [Rep] at h ⊢
  obtain ⟨a, ys, o, e1, h1, h2, h3, h4⟩ := h
  exact ⟨a, ys, o, e1, e _ _ h1, h2, fun y hy => aq e (h3 y hy), aj.mono e ds h4⟩
 | .adr a, _, h => by simpa [Rep] using h
theorem aj.mono {K : PySem.W.Frag} {H H' : Hp} (e : aC H H') : ∀ (ds : List D) {xs : List V}, aj K H ds xs → aj K H' ds xs
 | [], _, h => by simpa [aj] using h
 | d :: ds, _, h => by
  simp only [aj] at h ⊢
  obtain ⟨x, r, e1, h1, h2⟩ := h
  exact ⟨x, r, e1, Rep.mono e d h1, aj.mono e ds h2⟩
end
section
variable {K : PySem.W.Frag} {H : Hp} {v : V}
theorem ak {i : Int} : Rep K H (.int i) v ↔ v = .int i := by simp only [Rep]
theorem bQ {i : Bool} : Rep K H (.bl i) v ↔ v = .bl i := by simp only [Rep]
theorem aW : Rep K H .non v ↔ v = .non := by simp only [Rep]
theorem cU {i : Str} : Rep K H (.str i) v ↔ v = .str i := by simp only [Rep]
theorem aA {ds : List D} : Rep K H (.tup ds) v ↔ ∃ a xs, v = .ref a ∧ SqT K H a xs ∧ aj K H ds xs := by simp only [Rep]
theorem aI {ds : List D} : Rep K H (.lst ds) v ↔ ∃ a xs, v = .ref a ∧ SqL K H a xs ∧ aj K H ds xs := by simp only [Rep]
theorem fC {ks : List Key} {ds : List D} : Rep K H (.fdK ks ds) v ↔ ∃ a ys o, v = .ref a ∧ H a = some (.frz o (.dK ys)) ∧ ys.map (·.1) = ks ∧ aj K H ds (ys.map (·.2)) := by simp only [Rep]
theorem kK {ks : List (List Key)} {ds : List D} : Rep K H (.fdT ks ds) v ↔ ∃ a ys o, v = .ref a ∧ H a = some (.frz o (.dT ys)) ∧ ys.map (·.1) = ks ∧ (∀ y ∈ ys, SqT K H y.2.1 (y.1.map kV)) ∧ aj K H ds (ys.map (·.2.2)) := by simp only [Rep]
theorem xJ {C : Addr} : Rep K H (.exc C) v ↔ ∃ a, v = .ref a ∧ H a = some (.ext (oM a C)) := by simp only [Rep]
theorem av {xs : List V} : aj K H [] xs ↔ xs = [] := by simp only [aj]
theorem az {d : D} {ds : List D} {xs : List V} : aj K H (d :: ds) xs ↔ ∃ x r, xs = x :: r ∧ Rep K H d x ∧ aj K H ds r := by simp only [aj]
theorem aj.length : ∀ {ds : List D} {xs : List V}, aj K H ds xs → ds.length = xs.length
 | [], _, h => by rw [av] at h; subst h; rfl
 | d :: ds, _, h => by
  rw [az] at h
  obtain ⟨x, r, rfl, _, h2⟩ := h
  simp [aj.length h2]
theorem aj.get : ∀ {ds : List D} {xs : List V} {i : Nat} {d : D}, aj K H ds xs → ds[i]? = some d → ∃ x, xs[i]? = some x ∧ Rep K H d x
 | [], _, _, _, _, e => by simp at e
 | d :: ds, _, i, d', h, e => by
  rw [az] at h
  obtain ⟨x, r, rfl, h1, h2⟩ := h
  cases i with
  | zero => simp at e; subst e; exact ⟨x, by simp, h1⟩
  | succ i =>
   obtain ⟨y, e2, h3⟩ := aj.get (i := i) (d := d') h2 (by simpa using e)
   exact ⟨y, by simpa using e2, h3⟩
theorem aj.get' : ∀ {ds : List D} {xs : List V} {i : Nat} {x : V}, aj K H ds xs → xs[i]? = some x → ∃ d, ds[i]? = some d ∧ Rep K H d x := fun {ds xs i x} h e => by
 have hl := h.length
 have hi : i < xs.length := (List.getElem?_eq_some_iff.mp e).1
 obtain ⟨y, e2, h2⟩ := h.get (i := i) (d := ds[i]'(by omega)) (by simp)
 rw [e] at e2; cases e2
 exact ⟨_, by simp, h2⟩
theorem aj.append : ∀ {ds es : List D} {xs ys : List V}, aj K H ds xs → aj K H es ys → aj K H (ds ++ es) (xs ++ ys)
 | [], _, _, _, h, g => by rw [av] at h; subst h; exact g
 | d :: ds, _, _, _, h, g => by
  rw [az] at h
  obtain ⟨x, r, rfl, h1, h2⟩ := h
  exact az.mpr ⟨x, r ++ _, rfl, h1, aj.append h2 g⟩
theorem aj.drop : ∀ (n : Nat) {ds : List D} {xs : List V}, aj K H ds xs → aj K H (ds.drop n) (xs.drop n)
 | 0, _, _, h => h
 | n + 1, [], _, h => by rw [av] at h; subst h; exact av.mpr rfl
 | n + 1, d :: ds, _, h => by
  rw [az] at h
  obtain ⟨x, r, rfl, h1, h2⟩ := h
  exact aj.drop n h2
theorem aj.take : ∀ (n : Nat) {ds : List D} {xs : List V}, aj K H ds xs → aj K H (ds.take n) (xs.take n)
 | 0, _, _, h => av.mpr rfl
 | n + 1, [], _, h => by rw [av] at h; subst h; exact av.mpr rfl
 | n + 1, d :: ds, _, h => by
  rw [az] at h
  obtain ⟨x, r, rfl, h1, h2⟩ := h
  exact az.mpr ⟨x, r.take n, rfl, h1, aj.take n h2⟩
theorem aj.dropLast {ds : List D} {xs : List V} (h : aj K H ds xs) : aj K H ds.dropLast xs.dropLast := by
 rw [List.dropLast_eq_take, List.dropLast_eq_take, h.length]; exact h.take _
theorem aj.one {d : D} {v : V} (h : Rep K H d v) : aj K H [d] [v] := az.mpr ⟨v, [], rfl, h, av.mpr rfl⟩
theorem aj.cons {d : D} {v : V} {ds : List D} {xs : List V} (h : Rep K H d v) (t : aj K H ds xs) : aj K H (d :: ds) (v :: xs) := az.mpr ⟨v, xs, rfl, h, t⟩
theorem jS : ∀ (ns : List Int), aj K H (ns.map D.int) (ns.map V.int)
 | [] => av.mpr rfl
 | n :: ns => .cons (ak.mpr rfl) (jS ns)
end
inductive Sl where
 | un
 | va (d : D)
 | ow (ds : List D)
 | oT (kvs : List (List Key × D))
 | oK (kvs : List (Key × D))
 | aw (a : Addr) (ds : List D)
 | aT (a : Addr) (kvs : List (List Key × D))
 | aK (a : Addr) (kvs : List (Key × D))
def KVR (K : PySem.W.Frag) (H : Hp) {κ : Type} : List (κ × D) → List (κ × V) → Prop := Paired fun a b => a.1 = b.1 ∧ Rep K H a.2 b.2
theorem KVR.mono {K : PySem.W.Frag} {H H' : Hp} {κ : Type} {ks : List (κ × D)} {xs : List (κ × V)} (e : aC H H') (h : KVR K H ks xs) : KVR K H' ks xs :=
 Paired.mapP h fun a b z => ⟨z.1, Rep.mono e _ z.2⟩
def TVR (K : PySem.W.Frag) (H : Hp) : List (List Key × D) → List (List Key × Addr × V) → Prop := Paired fun a b => a.1 = b.1 ∧ SqT K H b.2.1 (a.1.map kV) ∧ Rep K H a.2 b.2.2
theorem TVR.mono {K : PySem.W.Frag} {H H' : Hp} {ks : List (List Key × D)} {xs : List (List Key × Addr × V)} (e : aC H H') (h : TVR K H ks xs) : TVR K H' ks xs :=
 Paired.mapP h fun a b z => ⟨z.1, aq e z.2.1, Rep.mono e _ z.2.2⟩
def aQ (K : PySem.W.Frag) (fr : Addr → Prop) (H Hf : Hp) : Sl → V → Prop
 | .un, _ => False
 | .va d, v => Rep K Hf d v
 | .ow ds, v => ∃ p xs, v = .ref p ∧ fr p ∧ H p = some (.lst xs) ∧ Hf p = none ∧ aj K Hf ds xs
 | .oT kvs, v => ∃ p xs, v = .ref p ∧ fr p ∧ H p = some (.dT xs) ∧ Hf p = none ∧ TVR K Hf kvs xs
 | .oK kvs, v => ∃ p xs, v = .ref p ∧ fr p ∧ H p = some (.dK xs) ∧ Hf p = none ∧ KVR K Hf kvs xs
 | .aw a ds, v => ∃ p xs, v = .ref p ∧ (fr p ∧ p = a) ∧ H p = some (.lst xs) ∧ Hf p = none ∧ aj K Hf ds xs
 | .aT a kvs, v => ∃ p xs, v = .ref p ∧ (fr p ∧ p = a) ∧ H p = some (.dT xs) ∧ Hf p = none ∧ TVR K Hf kvs xs
 | .aK a kvs, v => ∃ p xs, v = .ref p ∧ (fr p ∧ p = a) ∧ H p = some (.dK xs) ∧ Hf p = none ∧ KVR K Hf kvs xs
def Sl.owned : Sl → Bool
 | .ow _ => true | .oT _ => true | .oK _ => true | .aw _ _ => true | .aT _ _ => true | .aK _ _ => true | _ => false
structure Grw (H Hf H' Hf' : Hp) : Prop where
 s : aC H H'
 f : aC Hf Hf'
 b : aC Hf' H'
 n : ∀ b, Hf b = none → H b ≠ none → (∀ xs, H b ≠ some (.tup xs)) → Hf' b = none
theorem Grw.refl {H Hf : Hp} (b : aC Hf H) : Grw H Hf H Hf := ⟨.refl _, .refl _, b, fun _ h _ _ => h⟩
theorem Grw.trans {H Hf H1 Hf1 H2 Hf2 : Hp} (a : Grw H Hf H1 Hf1) (b : Grw H1 Hf1 H2 Hf2) : Grw H Hf H2 Hf2 :=
 ⟨a.s.trans b.s, a.f.trans b.f, b.b, fun c h1 h2 h3 => by
   cases q : H c with
   | none => exact absurd q h2
   | some o =>
    have e := a.s c o q
    exact b.n c (a.n c h1 h2 h3) (by rw [e]; simp) (by intro xs; rw [e, ← q]; exact h3 xs)⟩
theorem Grw.new {H Hf : Hp} (b : aC Hf H) {p : Addr} {o : HO} (hp : H p = none) : Grw H Hf (upd H p o) (upd Hf p o) := by
 have hf : Hf p = none := b.free hp
 refine ⟨fun c u h => ?_, fun c u h => ?_, fun c u h => ?_, fun c h1 h2 _ => ?_⟩
 ·rw [ah (au h hp)]; exact h
 ·rw [ah (au h hf)]; exact h
 ·by_cases e : c = p
  ·subst e; rw [ai] at h ⊢; exact h
  ·rw [ah e] at h ⊢; exact b c u h
 ·by_cases e : c = p
  ·subst e; exact absurd hp h2
  ·rw [ah e]; exact h1
theorem Grw.dZ {H Hf : Hp} (b : aC Hf H) {p : Addr} {o : HO} (hp : H p = none) : Grw H Hf (upd H p o) Hf :=
 ⟨(Grw.new b hp (o := o)).s, .refl _, fun c u h => (Grw.new b hp (o := o)).s c u (b c u h), fun _ h _ _ => h⟩
inductive At {α : Type} : List α → Nat → α → Prop where
 | z {x : α} {l : List α} : At (x :: l) 0 x
 | s {x y : α} {l : List α} {i : Nat} : At l i x → At (y :: l) (i + 1) x
theorem At.get {α : Type} {l : List α} {i : Nat} {x : α} (h : At l i x) : l[i]? = some x := by
 induction h with
 | z => rfl
 | s _ ih => simpa using ih
theorem At.mem {α : Type} {l : List α} {i : Nat} {x : α} (h : At l i x) : x ∈ l := List.mem_of_getElem? h.get
inductive SSet {α : Type} : List α → Nat → α → List α → Prop where
 | z {x r : α} {l : List α} : SSet (x :: l) 0 r (r :: l)
 | s {r y : α} {l l' : List α} {i : Nat} : SSet l i r l' → SSet (y :: l) (i + 1) r (y :: l')
theorem SSet.eq {α : Type} {l l' : List α} {i : Nat} {r : α} (h : SSet l i r l') : l' = l.set i r := by
 induction h with
 | z => rfl
 | s _ ih => simp [ih]
structure StR (K : PySem.W.Frag) (H₀ Hf₀ : Hp) (σ : L2.St) (H Hf : Hp) (ρ : List Sl) : Prop where
 bas : Grw H₀ Hf₀ H Hf
 len : σ.length = ρ.length
 at_ : ∀ (i : Nat) (r : Sl), ρ[i]? = some r → r ≠ .un → ∃ v, σ[i]? = some (some v) ∧ aQ K (fun p => H₀ p = none) H Hf r v
 sep : ∀ (i j : Nat) (r r' : Sl) (p : Addr), i ≠ j → ρ[i]? = some r → ρ[j]? = some r' → r.owned = true → r'.owned = true → σ[i]? = some (some (.ref p)) → σ[j]? ≠ some (some (.ref p))
structure ExcS (P : Program) (w : World) (outer : List Env) (H : Hp) (s : Shared) (a C : Addr) (H' : Hp) (s' : Shared) : Prop where
 os : s'.os = s.os
 bare : AllBare s'.gens
 un : Un (frs outer) [] H H' s.heap s'.heap
 hok : HOk P w H' s'.heap
 new : s.heap.get? a = none
 free : H' a = none
 fly : ∃ (t : Addr) (B : Heap), Heap.FlyingW B outer a (.ref C) (.ref t) s'.heap ∧ (∀ b o, s.heap.get? b = some o → b ∉ frs outer → ∃ o', s'.heap.get? b = some o' ∧ B.get? b = some o') ∧
  ∀ b o, H' b ≠ none → s'.heap.get? b = some o → B.get? b = some o
def CXE (P : Program) (w : World) : CXT := fun outer H s E e s' => ∃ a C H', e = .ref a ∧ ExcS P w outer H s a C H' s' ∧ E (.ref C) (some a) H'
structure Ctx (P : Program) (w : World) (K : PySem.W.Frag) (mg : Str → Option Value) (base : Heap) (k : Nat) (N : List Str) (sc : Scope) (bk : Bool) where
 X : Cx
 eP : X.prog = P
 ew : X.w = w
 eK : X.K = K
 emg : X.mg = mg
 eb : X.base = base
 eN : X.N = N
 esc : X.env.scope = sc
 calm : X.calm = true
 top : bk = false → X.stack = X.env :: X.outer ∧ X.env.frame = some X.env.locals ∧ X.ex = []
 cb : bk = false → ∀ (pins : List (Addr × Obj)) (σ : L2.St) (H : Hp) (s : Shared), Inv X pins σ H s → ∀ (x : Str) (c : Addr), X.env.cells.lookup x = some c → X.s₀.heap.objs.size ≤ c
 fn : ∀ x, bk = false ∨ sc.names.lookup x = some .local → X.fn x = true ∨ X.env.scope.names.lookup x = some .local
 room : cL k X.A
 nd : N.Nodup
 vis : ∀ x ∈ N, Loc sc x
 Hf : Hp
 B : Hp
 RX : Addr → List Sl → Prop
 exc : ∀ (C a : Addr) (pins : List (Addr × Obj)) (σ : L2.St) (H Hf' : Hp) (ρ : List Sl) (s : Shared) (H' : Hp) (s' : Shared), Inv X pins σ H s → StR X.K B Hf σ H Hf' ρ → RX C ρ → ExcS X.prog X.w X.stack H s a C H' s' → aC H H' → X.xe (.ref a) s'
 RM : Addr → List Sl → Prop
 mde : ∀ (C a : Addr) (pins : List (Addr × Obj)) (σ : L2.St) (H Hf' : Hp) (ρ : List Sl) (s : Shared) (h' : Heap) (us : List Value), Inv X pins σ H s → StR X.K B Hf σ H Hf' ρ → RM C ρ → Heap.MadeExcOf s.heap h' a (.ref C) us → X.xe (.ref a) { s with heap := h' }
theorem aQ.grw {K : PySem.W.Frag} {fr : Addr → Prop} {H Hf H' Hf' : Hp} (g : Grw H Hf H' Hf') : ∀ {r : Sl} {v : V}, aQ K fr H Hf r v → aQ K fr H' Hf' r v
 | .un, _, h => h
 | .va d, _, h => Rep.mono g.f d h
 | .ow ds, _, ⟨p, xs, e, f, h1, h2, h3⟩ => ⟨p, xs, e, f, g.s _ _ h1, g.n p h2 (by rw [h1]; simp) (by intro ys; rw [h1]; simp), h3.mono g.f⟩
 | .oT kvs, _, ⟨p, xs, e, f, h1, h2, h3⟩ => ⟨p, xs, e, f, g.s _ _ h1, g.n p h2 (by rw [h1]; simp) (by intro ys; rw [h1]; simp), h3.mono g.f⟩
 | .oK kvs, _, ⟨p, xs, e, f, h1, h2, h3⟩ => ⟨p, xs, e, f, g.s _ _ h1, g.n p h2 (by rw [h1]; simp) (by intro ys; rw [h1]; simp), h3.mono g.f⟩
 | .aw a ds, _, ⟨p, xs, e, f, h1, h2, h3⟩ => ⟨p, xs, e, f, g.s _ _ h1, g.n p h2 (by rw [h1]; simp) (by intro ys; rw [h1]; simp), h3.mono g.f⟩
 | .aT a kvs, _, ⟨p, xs, e, f, h1, h2, h3⟩ => ⟨p, xs, e, f, g.s _ _ h1, g.n p h2 (by rw [h1]; simp) (by intro ys; rw [h1]; simp), h3.mono g.f⟩
 | .aK a kvs, _, ⟨p, xs, e, f, h1, h2, h3⟩ => ⟨p, xs, e, f, g.s _ _ h1, g.n p h2 (by rw [h1]; simp) (by intro ys; rw [h1]; simp), h3.mono g.f⟩
theorem aQ.weak {K : PySem.W.Frag} {fr fr' : Addr → Prop} {H Hf : Hp} (hf : ∀ p, fr p → fr' p) : ∀ {r : Sl} {v : V}, aQ K fr H Hf r v → aQ K fr' H Hf r v
 | .un, _, h => h
 | .va d, _, h => h
 | .ow ds, _, ⟨p, xs, e, f, h⟩ => ⟨p, xs, e, hf p f, h⟩
 | .oT ds, _, ⟨p, xs, e, f, h⟩ => ⟨p, xs, e, hf p f, h⟩
 | .oK ds, _, ⟨p, xs, e, f, h⟩ => ⟨p, xs, e, hf p f, h⟩
 | .aw a ds, _, ⟨p, xs, e, f, h⟩ => ⟨p, xs, e, ⟨hf p f.1, f.2⟩, h⟩
 | .aT a ds, _, ⟨p, xs, e, f, h⟩ => ⟨p, xs, e, ⟨hf p f.1, f.2⟩, h⟩
 | .aK a ds, _, ⟨p, xs, e, f, h⟩ => ⟨p, xs, e, ⟨hf p f.1, f.2⟩, h⟩
section
variable {P : Program} {w : World} {K : PySem.W.Frag} {mg : Str → Option Value} {base : Heap} {k : Nat} {N : List Str} {sc : Scope} {bk : Bool}
def Ctx.fr (c : Ctx P w K mg base k N sc bk) (p : Addr) : Prop := c.B p = none
abbrev aL (c : Ctx P w K mg base k N sc bk) (σ : L2.St) (H Hf : Hp) (ρ : List Sl) : Prop := StR c.X.K c.B c.Hf σ H Hf ρ
variable {σ : L2.St} {H Hf H' Hf' H₀ Hf₀ : Hp} {ρ : List Sl}
theorem StR.grw (S : StR K H₀ Hf₀ σ H Hf ρ) (g : Grw H Hf H' Hf') : StR K H₀ Hf₀ σ H' Hf' ρ :=
 ⟨S.bas.trans g, S.len, fun i r h hr => let ⟨v, e, q⟩ := S.at_ i r h hr; ⟨v, e, q.grw g⟩, S.sep⟩
theorem StR.sb (S : StR K H₀ Hf₀ σ H Hf ρ) : aC Hf H := S.bas.b
theorem StR.va (S : StR K H₀ Hf₀ σ H Hf ρ) {i : Nat} {d : D} (h : ρ[i]? = some (.va d)) : ∃ v, σ[i]? = some (some v) ∧ Rep K Hf d v := S.at_ i _ h (by simp)
theorem StR.set (S : StR K H₀ Hf₀ σ H Hf ρ) {H1 Hf1 : Hp} (g : Grw H Hf H1 Hf1) {i : Nat} {r : Sl} {v : V} (hr : aQ K (fun p => H p = none) H1 Hf1 r v) :
 StR K H₀ Hf₀ (σ.set i (some v)) H1 Hf1 (ρ.set i r) := by
 have S1 := S.grw g
 have fr0 : ∀ p, H p = none → H₀ p = none := fun p h => S.bas.s.free h
 have fresh : ∀ p, r.owned = true → v = .ref p → H p = none := fun p ho e => by
  subst e
  cases r with
  | un => cases ho
  | va d => cases ho
  | ow ds => obtain ⟨p', xs, e, h, _⟩ := hr; cases e; exact h
  | oT ds => obtain ⟨p', xs, e, h, _⟩ := hr; cases e; exact h
  | oK ds => obtain ⟨p', xs, e, h, _⟩ := hr; cases e; exact h
  | aw a ds => obtain ⟨p', xs, e, h, _⟩ := hr; cases e; exact h.1
  | aT a ds => obtain ⟨p', xs, e, h, _⟩ := hr; cases e; exact h.1
  | aK a ds => obtain ⟨p', xs, e, h, _⟩ := hr; cases e; exact h.1
 have old : ∀ (j : Nat) (r' : Sl) (p : Addr), ρ[j]? = some r' → r'.owned = true → σ[j]? = some (some (.ref p)) → H p ≠ none := fun j r' p h ho hs => by
  obtain ⟨v', e, q⟩ := S.at_ j r' h (by rintro rfl; cases ho)
  rw [hs] at e; cases e
  cases r' with
  | un => cases ho
  | va d => cases ho
  | ow ds => obtain ⟨p', xs, e, _, h, _⟩ := q; cases e; rw [h]; simp
  | oT ds => obtain ⟨p', xs, e, _, h, _⟩ := q; cases e; rw [h]; simp
  | oK ds => obtain ⟨p', xs, e, _, h, _⟩ := q; cases e; rw [h]; simp
  | aw a ds => obtain ⟨p', xs, e, _, h, _⟩ := q; cases e; rw [h]; simp
  | aT a ds => obtain ⟨p', xs, e, _, h, _⟩ := q; cases e; rw [h]; simp
  | aK a ds => obtain ⟨p', xs, e, _, h, _⟩ := q; cases e; rw [h]; simp
 refine ⟨S1.bas, by simp [S.len], fun j r' hj hu => ?_, fun j j' r1 r2 p hne h1 h2 o1 o2 e1 e2 => ?_⟩
 ·by_cases q : j = i
  ·subst q
   have hi : j < ρ.length := by
    have := (List.getElem?_eq_some_iff.mp hj).1
    simpa using this
   rw [List.getElem?_set_self hi] at hj; cases hj
   exact ⟨v, List.getElem?_set_self (by rw [S.len]; exact hi), hr.weak fr0⟩
  ·rw [List.getElem?_set_ne (Ne.symm q)] at hj ⊢
   exact S1.at_ j r' hj hu
 ·have hlt : ∀ {j : Nat} {r : Sl}, (ρ.set i r)[j]? = some r → j < ρ.length := fun {j r} h => by
   have := (List.getElem?_eq_some_iff.mp h).1
   simpa using this
  by_cases q1 : j = i
  ·subst q1
   have hi : j < ρ.length := by have := (List.getElem?_eq_some_iff.mp h1).1; simpa using this
   rw [List.getElem?_set_self hi] at h1; cases h1
   rw [List.getElem?_set_self (by rw [S.len]; exact hi)] at e1
   rw [List.getElem?_set_ne hne] at h2 e2
   exact old j' r2 p h2 o2 e2 (fresh p o1 (by simpa using e1))
  ·by_cases q2 : j' = i
   ·subst q2
    have hi : j' < ρ.length := by have := (List.getElem?_eq_some_iff.mp h2).1; simpa using this
    rw [List.getElem?_set_self hi] at h2; cases h2
    rw [List.getElem?_set_self (by rw [S.len]; exact hi)] at e2
    rw [List.getElem?_set_ne (Ne.symm hne)] at h1 e1
    exact old j r1 p h1 o1 e1 (fresh p o2 (by simpa using e2))
   ·rw [List.getElem?_set_ne (Ne.symm q1)] at h1 e1
    rw [List.getElem?_set_ne (Ne.symm q2)] at h2 e2
    exact S.sep j j' r1 r2 p hne h1 h2 o1 o2 e1 e2
theorem StR.weak {ρ' : List Sl} (S : StR K H₀ Hf₀ σ H Hf ρ) (hl : ρ'.length = ρ.length) (h : ∀ (i : Nat) (r : Sl), ρ'[i]? = some r → r ≠ .un → ρ[i]? = some r) : StR K H₀ Hf₀ σ H Hf ρ' :=
 ⟨S.bas, by rw [S.len, hl], fun i r e hu => S.at_ i r (h i r e hu) hu, fun i j r r' p hne h1 h2 o1 o2 => S.sep i j r r' p hne (h i r h1 (by rintro rfl; cases o1)) (h j r' h2 (by rintro rfl; cases o2)) o1 o2⟩
end
end EV
set_option Elab.async false
set_option linter.all false
set_option maxRecDepth 100000
namespace EV
open PySem PySem.Spec PyProof.Rows L2
section
variable {P : Program} {w : World} {K : PySem.W.Frag} {mg : Str → Option Value} {base : Heap} {k : Nat} {N : List Str} {sc : Scope} {bk : Bool}
def bE (X : Cx) (e : Expr) : TE := fun σ H Q => ∀ pins s, Inv X pins σ H s → wpAny (model X.prog X.w) X.A (eval e X.env) (EP X pins σ Q) X.xe s
theorem pbE {X : Cx} {e : Expr} : PE X e (bE X e) := fun pins s σ H Q I h => h pins s I
theorem bw {X : Cx} {e : Expr} {t : TE} (h : PE X e t) {σ : L2.St} {H : Hp} {Q : VK} (q : t σ H Q) : bE X e σ H Q := fun pins s I => h pins s σ H Q I q
def bT (X : Cx) (e : Expr) : TT := fun σ H Q => ∀ pins s, Inv X pins σ H s → wpAny (model X.prog X.w) X.A (isTrue e X.env (eval e X.env)) (TP X pins σ Q) X.xe s
theorem pbT {X : Cx} {e : Expr} : PT X e (bT X e) := fun pins s σ H Q I h => h pins s I
theorem qb {X : Cx} {e : Expr} {t : TT} (h : PT X e t) {σ : L2.St} {H : Hp} {Q : Bool → Hp → Prop} (q : t σ H Q) : bT X e σ H Q := fun pins s I => h pins s σ H Q I q
def bA (X : Cx) (es : List Expr) : TA := fun σ H Q => ∀ pos pins s, Inv X pins σ H s → wpAny (model X.prog X.w) X.A (spliced (backTo pos (starEach es X.env))) (AP X pins σ Q) X.xe s
theorem pbA {X : Cx} {es : List Expr} : PA X es (bA X es) := fun pos pins s σ H Q I h => h pos pins s I
theorem um {X : Cx} {es : List Expr} {t : TA} (h : PA X es t) {σ : L2.St} {H : Hp} {Q : List V → Hp → Prop} (q : t σ H Q) : bA X es σ H Q := fun pos pins s I => h pos pins s σ H Q I q
def bS (X : Cx) (st : Stmt) : TS := fun D σ H => ∀ pins s, Inv X pins σ H s → wpAny (model X.prog X.w) X.A (exec st X.env) (SP X pins D) X.xe s
theorem pbS {X : Cx} {st : Stmt} : PS X st (bS X st) := fun pins s σ H D I h => h pins s I
theorem cB {X : Cx} {st : Stmt} {t : TS} (h : PS X st t) {σ : L2.St} {H : Hp} {D : Ends} (q : t D σ H) : bS X st D σ H := fun pins s I => h pins s σ H D I q
def bSs (X : Cx) (st : List Stmt) : TS := fun D σ H => ∀ pins s, Inv X pins σ H s → wpAny (model X.prog X.w) X.A (execs st X.env) (SP X pins D) X.xe s
theorem oN {X : Cx} {st : List Stmt} : PSs X st (bSs X st) := fun pins s σ H D I h => h pins s I
theorem uo {X : Cx} {st : List Stmt} {t : TS} (h : PSs X st t) {σ : L2.St} {H : Hp} {D : Ends} (q : t D σ H) : bSs X st D σ H := fun pins s I => h pins s σ H D I q
def bG (X : Cx) (tg : Expr) : TG := fun v σ H Q => ∀ pins s u, Inv X pins σ H s → RelV v u → wpAny (model X.prog X.w) X.A (assign tg X.env u) (fun _ s' => ∃ σ' H', Inv X pins σ' H' s' ∧ Q σ' H') X.xe s
theorem pbG {X : Cx} {tg : Expr} : PG X tg (bG X tg) := fun pins s σ H v u Q I r h => h pins s u I r
theorem uq {X : Cx} {tg : Expr} {t : TG} (h : PG X tg t) {v : V} {σ : L2.St} {H : Hp} {Q : L2.St → Hp → Prop} (q : t v σ H Q) : bG X tg v σ H Q := fun pins s u I r => h pins s σ H v u Q I r q
variable (c : Ctx P w K mg base k N sc bk)
def EvX (e : Expr) (ρ : List Sl) (R : Sl → Prop) : Prop :=
 ∀ (σ : L2.St) (H Hf : Hp) (Q : VK), aL c σ H Hf ρ → (∀ r v H' Hf', R r → aQ c.X.K (fun p => H p = none) H' Hf' r v → Grw H Hf H' Hf' → Q v H') → bE c.X e σ H Q
def EvE (e : Expr) (ρ : List Sl) (R : D → Prop) : Prop :=
 ∀ (σ : L2.St) (H Hf : Hp) (Q : VK), aL c σ H Hf ρ → (∀ d v H' Hf', R d → Rep c.X.K Hf' d v → Grw H Hf H' Hf' → Q v H') → bE c.X e σ H Q
def EvT (e : Expr) (ρ : List Sl) (R : Bool → Prop) : Prop :=
 ∀ (σ : L2.St) (H Hf : Hp) (Q : Bool → Hp → Prop), aL c σ H Hf ρ → (∀ b H' Hf', R b → Grw H Hf H' Hf' → Q b H') → bT c.X e σ H Q
def EvA (es : List Expr) (ρ : List Sl) (R : List D → Prop) : Prop :=
 ∀ (σ : L2.St) (H Hf : Hp) (Q : List V → Hp → Prop), aL c σ H Hf ρ → (∀ ds vs H' Hf', R ds → aj c.X.K Hf' ds vs → Grw H Hf H' Hf' → Q vs H') → bA c.X es σ H Q
structure Pt where
 rt : Sl → Prop
 bk : List Sl → Prop := fun _ => False
 ct : List Sl → Prop := fun _ => False
structure uu (nx : List Sl → Prop) (p : Pt) (D : Ends) : Prop where
 nx : ∀ σ H Hf ρ, aL c σ H Hf ρ → nx ρ → D.nx σ H
 rt : ∀ r v H Hf, Grw c.B c.Hf H Hf → aQ c.X.K c.fr H Hf r v → p.rt r → D.rt v H
 bk : ∀ σ H Hf ρ, aL c σ H Hf ρ → p.bk ρ → D.bk σ H
 ct : ∀ σ H Hf ρ, aL c σ H Hf ρ → p.ct ρ → D.ct σ H
def EvS (st : Stmt) (ρ : List Sl) (nx : List Sl → Prop) (p : Pt) : Prop :=
 ∀ (σ : L2.St) (H Hf : Hp) (D : Ends), aL c σ H Hf ρ → uu c nx p D → bS c.X st D σ H
def bu (st : List Stmt) (ρ : List Sl) (nx : List Sl → Prop) (p : Pt) : Prop :=
 ∀ (σ : L2.St) (H Hf : Hp) (D : Ends), aL c σ H Hf ρ → uu c nx p D → bSs c.X st D σ H
def EvG (tg : Expr) (d : D) (ρ : List Sl) (R : List Sl → Prop) : Prop :=
 ∀ (σ : L2.St) (H Hf : Hp) (v : V) (Q : L2.St → Hp → Prop), aL c σ H Hf ρ → Rep c.X.K Hf d v → (∀ σ' H' Hf' ρ', aL c σ' H' Hf' ρ' → Grw H Hf H' Hf' → R ρ' → Q σ' H') → bG c.X tg v σ H Q
variable {c}
def Sl.fz : Sl → Option D
 | .va d => some d
 | .ow ds => some (.lst ds)
 | _ => none
def FzP (R : D → Prop) (r : Sl) : Prop := ∃ d, r.fz = some d ∧ R d
theorem Aw {K : PySem.W.Frag} {H Hf H' Hf' : Hp} {r : Sl} {v : V} {d : D} (e : r.fz = some d) (h : aQ K (fun p => H p = none) H' Hf' r v) (g : Grw H Hf H' Hf') :
 ∃ Hf2, Rep K Hf2 d v ∧ Grw H Hf H' Hf2 := by
 cases r with
 | un => cases e
 | va d' => cases e; exact ⟨Hf', h, g⟩
 | oT _ => cases e
 | oK _ => cases e
 | aw _ _ => cases e
 | aT _ _ => cases e
 | aK _ _ => cases e
 | ow ds =>
  cases e
  obtain ⟨p, xs, rfl, hp, h1, h2, h3⟩ := h
  have sf : aC Hf' (upd Hf' p (.lst xs)) := fun b o e => by rw [ah (au e h2)]; exact e
  have sb : aC (upd Hf' p (.lst xs)) H' := fun b o e => by
   by_cases q : b = p
   ·subst q; rw [ai] at e; rw [h1]; exact e
   ·rw [ah q] at e; exact g.b b o e
  refine ⟨upd Hf' p (.lst xs), aI.mpr ⟨p, xs, rfl, .inl (.inl ai), h3.mono sf⟩, g.s, g.f.trans sf, sb, fun b q1 q2 q3 => ?_⟩
  have e := g.n b q1 q2 q3
  by_cases q : b = p
  ·subst q; exact absurd hp q2
  ·rw [ah q]; exact e
theorem e_x {e : Expr} {ρ : List Sl} {R : D → Prop} (h : EvX c e ρ (FzP R)) : EvE c e ρ R := fun σ H Hf Q S q =>
 h σ H Hf Q S fun r v H' Hf' ⟨d, e1, rd⟩ rs g => let ⟨Hf2, h1, g2⟩ := Aw e1 rs g; q d v H' Hf2 rd h1 g2
theorem x_e {e : Expr} {ρ : List Sl} {R : Sl → Prop} (h : EvE c e ρ fun d => R (.va d)) : EvX c e ρ R := fun σ H Hf Q S q =>
 h σ H Hf Q S fun d v H' Hf' rd h1 g => q (.va d) v H' Hf' rd h1 g
theorem EvE.imp {e : Expr} {ρ : List Sl} {R R' : D → Prop} (h : EvE c e ρ R) (hi : ∀ d, R d → R' d) : EvE c e ρ R' := fun σ H Hf Q S q => h σ H Hf Q S fun d v H' Hf' rd => q d v H' Hf' (hi d rd)
theorem EvX.imp {e : Expr} {ρ : List Sl} {R R' : Sl → Prop} (h : EvX c e ρ R) (hi : ∀ d, R d → R' d) : EvX c e ρ R' := fun σ H Hf Q S q => h σ H Hf Q S fun d v H' Hf' rd => q d v H' Hf' (hi d rd)
theorem EvT.imp {e : Expr} {ρ : List Sl} {R R' : Bool → Prop} (h : EvT c e ρ R) (hi : ∀ d, R d → R' d) : EvT c e ρ R' := fun σ H Hf Q S q => h σ H Hf Q S fun d H' Hf' rd => q d H' Hf' (hi d rd)
def D.flat : D → Prop
 | .non => True | .bl _ => True | .int _ => True | .str _ => True | _ => False
theorem qe {x : Str} {pos : Pos} {ρ : List Sl} {R : D → Prop} {i : Nat} {d : D} (hN : At N i x) (hs : At ρ i (.va d)) (hR : R d)
 (hd : (x == ("__debug__" : Str)) = false := by decide) (hcd : (x == ("__classdict__" : Str)) = false := by decide) :
 EvE c (.Name x pos) ρ R := fun σ H Hf Q S q => by
 obtain ⟨v, e, r⟩ := S.va hs.get
 exact bw (n9 (X := c.X) (i := i) (by rw [c.eN]; exact hN.get) (by rw [c.esc]; rcases c.vis x hN.mem with h | h; exact .inl h; exact .inr (.inl h)) hd hcd) ⟨v, e, q d v H Hf hR r (.refl S.sb)⟩
theorem e_int {i : Int} {j : Nat} {pos : Pos} {ρ : List Sl} {R : D → Prop} (hR : R (.int i)) : EvE c (.Constant (.int i) j pos) ρ R := fun σ H Hf Q S q =>
 bw zJ (q _ _ H Hf hR (ak.mpr rfl) (.refl S.sb))
theorem e_bl {i : Bool} {j : Nat} {pos : Pos} {ρ : List Sl} {R : D → Prop} (hR : R (.bl i)) : EvE c (.Constant (.bool i) j pos) ρ R := fun σ H Hf Q S q =>
 bw pY (q _ _ H Hf hR (bQ.mpr rfl) (.refl S.sb))
theorem oO {x : Str} {pos : Pos} {ρ : List Sl} {R : D → Prop} {i : Int} {t : Tok} (hm : mg x = some (.int i t)) (hR : R (.int i)) (hg : sc.names.lookup x = some .globalImplicit := by with_unfolding_all rfl) (hd : (x == ("__debug__" : Str)) = false := by decide) :
 EvE c (.Name x pos) ρ R := fun σ H Hf Q S q =>
 bw (w6 (X := c.X) (v := .int i) (u := .int i t) (by unfold Gl Env.kindOf; rw [c.esc]; exact hg) (by rw [c.emg]; exact hm) ⟨t, rfl⟩ hd) (q _ _ H Hf hR (ak.mpr rfl) (.refl S.sb))
def OpD (K : PySem.W.Frag) (r : R2) (p : D → D → (Sl → Prop) → Prop) : Prop :=
 ∀ (x y : D) (v u : V) (H Hf : Hp) (Q : VK) (R : Sl → Prop), aC Hf H → Rep K Hf x v → Rep K Hf y u → p x y R →
  (∀ z v' H' Hf', R z → aQ K (fun p => H p = none) H' Hf' z v' → Grw H Hf H' Hf' → Q v' H') → r v u H Q
theorem kL {a b : Expr} {op : Operator} {pos : Pos} {ρ : List Sl} {R : Sl → Prop} {r : R2} {p : D → D → (Sl → Prop) → Prop} (ho : OpR c.X (binaryOp op) r) (hd : OpD c.X.K r p)
 (h : EvE c a ρ fun x => EvE c b ρ fun y => p x y R) : EvX c (.BinOp a op b pos) ρ R := fun σ H Hf Q S q =>
 bw (tP ho pbE pbE) (h σ H Hf _ S fun x v1 H1 Hf1 h1 r1 g1 => h1 σ H1 Hf1 _ (S.grw g1) fun y v2 H2 Hf2 h2 r2 g2 =>
  hd x y v1 v2 H2 Hf2 Q R g2.b (Rep.mono g2.f x r1) r2 h2 fun z v' H' Hf' hz rz g3 =>
   q z v' H' Hf' hz (rz.weak fun p hp => (g1.trans g2).s.free hp) ((g1.trans g2).trans g3))
theorem jT {K : PySem.W.Frag} {C : Int → Int → Prop} {f : Int → Int → Int} : OpD K (rI C fun i j => .int (f i j)) fun x y R => ∃ i j, x = .int i ∧ y = .int j ∧ C i j ∧ R (.va (.int (f i j))) := by
 rintro x y v u H Hf Q R s rx ry ⟨i, j, rfl, rfl, hC, hR⟩ q
 rw [ak] at rx ry
 exact ⟨i, j, rx, ry, hC, q (.va (.int (f i j))) _ H Hf hR (show Rep K Hf (.int (f i j)) _ from ak.mpr rfl) (.refl s)⟩
theorem uv {K : PySem.W.Frag} {f : Int → Int → Int} : OpD K (rI0 fun i j => .int (f i j)) fun x y R => ∃ i j, x = .int i ∧ y = .int j ∧ R (.va (.int (f i j))) := by
 rintro x y v u H Hf Q R s rx ry ⟨i, j, rfl, rfl, hR⟩ q
 rw [ak] at rx ry
 exact ⟨i, j, rx, ry, q (.va (.int (f i j))) _ H Hf hR (show Rep K Hf (.int (f i j)) _ from ak.mpr rfl) (.refl s)⟩
theorem gH {e : Expr} {ρ : List Sl} {R : D → Prop} (h : EvX c e ρ fun r => ∃ d, r = .va d ∧ R d) : EvE c e ρ R := e_x (h.imp fun r ⟨d, e, hr⟩ => ⟨d, by subst e; rfl, hr⟩)
def gI : D → D → Bool
 | .non, .non => true | .non, .int _ => true | .int _, .non => true | .non, .bl _ => true | .bl _, .non => true | .non, .str _ => true | .str _, .non => true
 | .int _, .int _ => true | .bl _, .bl _ => true | .str _, .str _ => true | .int _, .str _ => true | .str _, .int _ => true | .bl _, .str _ => true | .str _, .bl _ => true
 | _, _ => false
noncomputable instance : DecidableEq D := fun _ _ => Classical.propDecidable _
inductive EqO : Nat → D → D → Prop where
 | sc {n : Nat} {x y : D} (h : gI x y = true) : EqO n x y
 | tup {n : Nat} {ds es : List D} (h : ∀ (i : Nat) (d e : D), ds[i]? = some d → es[i]? = some e → EqO n d e) : EqO (n + 1) (.tup ds) (.tup es)
 | lst {n : Nat} {ds es : List D} (h : ∀ (i : Nat) (d e : D), ds[i]? = some d → es[i]? = some e → EqO n d e) : EqO (n + 1) (.lst ds) (.lst es)
 | ln {n : Nat} {ds : List D} : EqO n (.lst ds) .non
 | nl {n : Nat} {ds : List D} : EqO n .non (.lst ds)
 | tn {n : Nat} {ds : List D} : EqO n (.tup ds) .non
 | nt {n : Nat} {ds : List D} : EqO n .non (.tup ds)
def jD (ds es : List D) : Prop := ∀ (i : Nat) (d e : D), ds[i]? = some d → es[i]? = some e → EqO 40 d e
def EqOk (x y : D) : Prop := gI x y = true ∨ ∃ ds es, ((x = .tup ds ∧ y = .tup es) ∨ (x = .lst ds ∧ y = .lst es)) ∧ jD ds es
section
variable {a b : Expr} {pos : Pos} {ρ : List Sl} {R : D → Prop}
structure Sd (A B : Prop) : Prop where
 s : A
 r : B
structure If2 (A B : Prop) (x : Bool) : Prop where
 t : x = true → A
 f : x = false → B
theorem if2_t {A B : Prop} (h1 : A) : If2 A B true := ⟨fun _ => h1, fun h => by cases h⟩
theorem if2_f {A B : Prop} (h1 : B) : If2 A B false := ⟨fun h => (by cases h), fun _ => h1⟩
theorem xK {A B p : Prop} {i : Decidable p} (h1 : p → A) (h2 : ¬ p → B) : If2 A B (@decide p i) := ⟨fun h => h1 (of_decide_eq_true h), fun h => h2 (of_decide_eq_false h)⟩
theorem xM {A B : Prop} {x : Bool} (h : If2 B A x) : If2 A B (!x) := ⟨fun e => h.f (by simpa using e), fun e => h.t (by simpa using e)⟩
def EqP (x y : D) (T : Bool → Prop) : Prop := EqOk x y ∧ T (decide (x = y))
theorem xN {i j : Int} {T : Bool → Prop} (h : T (decide (i = j))) : EqP (.int i) (.int j) T := ⟨.inl rfl, by
 have e : decide (D.int i = D.int j) = decide (i = j) := by simp
 rw [e]; exact h⟩
theorem xO {ds es : List D} {T : Bool → Prop} (h : Sd (jD ds es) (T (decide (ds = es)))) : EqP (.tup ds) (.tup es) T := ⟨.inr ⟨ds, es, .inl ⟨rfl, rfl⟩, h.s⟩, by
 have e : decide (D.tup ds = D.tup es) = decide (ds = es) := by simp
 rw [e]; exact h.r⟩
theorem xP {ds es : List D} {T : Bool → Prop} (h : Sd (jD ds es) (T (decide (ds = es)))) : EqP (.lst ds) (.lst es) T := ⟨.inr ⟨ds, es, .inr ⟨rfl, rfl⟩, h.s⟩, by
 have e : decide (D.lst ds = D.lst es) = decide (ds = es) := by simp
 rw [e]; exact h.r⟩
def I2 (k : Int → Int → Prop) : D → D → Prop := fun x y => ∃ i j, x = .int i ∧ y = .int j ∧ k i j
theorem i2 {k : Int → Int → Prop} {i j : Int} (h : k i j) : I2 k (.int i) (.int j) := ⟨i, j, rfl, rfl, h⟩
def I1 (k : Int → Prop) : D → Prop := fun x => ∃ i, x = .int i ∧ k i
theorem i1 {k : Int → Prop} {i : Int} (h : k i) : I1 k (.int i) := ⟨i, rfl, h⟩
def B1 (k : Bool → Prop) : D → Prop := fun x => ∃ i, x = .bl i ∧ k i
theorem b1 {k : Bool → Prop} {i : Bool} (h : k i) : B1 k (.bl i) := ⟨i, rfl, h⟩
theorem e_sub (h : EvE c a ρ fun x => EvE c b ρ fun y => I2 (fun i j => R (.int (i - j))) x y) : EvE c (.BinOp a .Sub b pos) ρ R :=
 gH (kL zY uv (h.imp fun x hx => hx.imp fun y ⟨i, j, e1, e2, r⟩ => ⟨i, j, e1, e2, _, rfl, r⟩))
def big : Int := 2 ^ 20000
def MulOk (i j : Int) : Prop := IntMulOk i j
def qf (j : Int) : Prop := 0 < j ∧ j.natAbs.log2 < 9000
theorem xQ : OpR c.X (binaryOp .Mult) (rI MulOk fun i j => .int (i * j)) := opI fun _ _ _ _ _ _ _ hc q => mul_int q hc
theorem uw : OpR c.X (binaryOp .FloorDiv) (rI (fun _ j => qf j) fun i j => .int (i / j)) := opI fun i j _ _ _ _ _ hc q => by
 have h1 : (0 : Int) < j := hc.1
 exact floordiv_int (by omega) (by rw [Int.fdiv_eq_ediv_of_nonneg i (by omega)]; exact q) (.inl (PyProof.noPylong_of_log2 hc.2))
theorem e_mul (h : EvE c a ρ fun x => EvE c b ρ fun y => I2 (fun i j => Sd (MulOk i j) (R (.int (i * j)))) x y) : EvE c (.BinOp a .Mult b pos) ρ R :=
 gH (kL xQ jT (h.imp fun x hx => hx.imp fun y ⟨i, j, e1, e2, ⟨hc, r⟩⟩ => ⟨i, j, e1, e2, hc, _, rfl, r⟩))
theorem Ax (h : EvE c a ρ fun x => EvE c b ρ fun y => I2 (fun i j => Sd (qf j) (R (.int (i / j)))) x y) : EvE c (.BinOp a .FloorDiv b pos) ρ R :=
 gH (kL uw jT (h.imp fun x hx => hx.imp fun y ⟨i, j, e1, e2, ⟨hc, r⟩⟩ => ⟨i, j, e1, e2, hc, _, rfl, r⟩))
theorem e_mod (h : EvE c a ρ fun x => EvE c b ρ fun y => I2 (fun i j => Sd (0 < j) (R (.int (i % j)))) x y) : EvE c (.BinOp a .Mod b pos) ρ R :=
 gH (kL zZ jT (h.imp fun x hx => hx.imp fun y ⟨i, j, e1, e2, ⟨hc, r⟩⟩ => ⟨i, j, e1, e2, hc, _, rfl, r⟩))
theorem e_pow (h : EvE c a ρ fun x => EvE c b ρ fun y => I2 (fun i j => Sd (tR i j) (R (.int (i ^ j.toNat)))) x y) : EvE c (.BinOp a .Pow b pos) ρ R :=
 gH (kL z0 jT (h.imp fun x hx => hx.imp fun y ⟨i, j, e1, e2, ⟨hc, r⟩⟩ => ⟨i, j, e1, e2, hc, _, rfl, r⟩))
theorem e_neg (h : EvE c a ρ (I1 fun i => R (.int (-i)))) : EvE c (.UnaryOp .USub a pos) ρ R := fun σ H Hf Q S q =>
 bw (pe_un Ad pbE) (h σ H Hf _ S fun x v H' Hf' hx r g => by
  obtain ⟨i, rfl, hR⟩ := hx
  rw [ak] at r
  exact ⟨i, r, q _ _ H' Hf' hR (ak.mpr rfl) g⟩)
def xR (K : PySem.W.Frag) (r : R2) (p : D → D → (Bool → Prop) → Prop) : Prop :=
 ∀ (x y : D) (v u : V) (H Hf : Hp) (Q : VK) (R : Bool → Prop), aC Hf H → Rep K Hf x v → Rep K Hf y u → p x y R → (∀ b, R b → Q (.bl b) H) → r v u H Q
theorem uz {op : CmpOp} {r : R2} {p : D → D → (Bool → Prop) → Prop} {T : Bool → Prop} (ho : OpR c.X (compareOp op) r) (hd : xR c.X.K r p) (h : EvE c a ρ fun x => EvE c b ρ fun y => p x y T)
 (hm : behindInMarks op b = false) : EvT c (.Compare a [op] [b] pos) ρ T := fun σ H Hf Q S q =>
 qb (xq ho pbE pbE hm) (h σ H Hf _ S fun x v1 H1 Hf1 h1 r1 g1 => h1 σ H1 Hf1 _ (S.grw g1) fun y v2 H2 Hf2 h2 r2 g2 =>
  hd x y v1 v2 H2 Hf2 _ T g2.b (Rep.mono g2.f x r1) r2 h2 fun z hz => ⟨z, rfl, q _ H2 Hf2 hz (g1.trans g2)⟩)
theorem cmp_I {K : PySem.W.Frag} {f : Int → Int → Bool} : xR K (rI0 fun i j => .bl (f i j)) fun x y R => I2 (fun i j => R (f i j)) x y := by
 rintro x y v u H Hf Q R s rx ry ⟨i, j, rfl, rfl, hR⟩ q
 rw [ak] at rx ry
 exact ⟨i, j, rx, ry, q _ hR⟩
theorem qg {x y : D} {v u : V} {K : PySem.W.Frag} {H : Hp} (h : gI x y = true) (rx : Rep K H x v) (ry : Rep K H y u) : xo v u = true ∧ decide (v = u) = decide (x = y) := by
 cases x <;> cases y <;> simp [gI] at h <;> simp only [ak, bQ, aW, cU] at rx ry <;> subst rx <;> subst ry <;> simp [xo]
variable {T : Bool → Prop}
theorem t_gt (h : EvE c a ρ fun x => EvE c b ρ fun y => I2 (fun i j => T (decide (j < i))) x y) : EvT c (.Compare a [.Gt] [b] pos) ρ T := uz op_gt cmp_I h (om b)
end
end
end EV
set_option Elab.async false
set_option linter.all false
set_option maxRecDepth 100000
namespace EV
open PySem PySem.Spec PyProof.Rows L2
section
variable {P : Program} {w : World} {K : PySem.W.Frag} {mg : Str → Option Value} {base : Heap} {k : Nat} {N : List Str} {sc : Scope} {bk : Bool} {c : Ctx P w K mg base k N sc bk}
variable {a b e : Expr} {es rest : List Expr} {pos : Pos} {ρ : List Sl} {R : D → Prop} {T : Bool → Prop}
def bW (X : Cx) (e : Expr) : TT := fun σ H Q => ∀ whole pins s, Inv X pins σ H s → wpAny (model X.prog X.w) X.A (isTrue e X.env whole) (TP X pins σ Q) X.xe s
theorem pbW {X : Cx} {e : Expr} : PW X e (bW X e) := fun whole pins s σ H Q I h => h whole pins s I
theorem qh {X : Cx} {e : Expr} {t : TT} (h : PW X e t) {σ : L2.St} {H : Hp} {Q : Bool → Hp → Prop} (q : t σ H Q) : bW X e σ H Q := fun whole pins s I => h whole pins s σ H Q I q
def EvW (c : Ctx P w K mg base k N sc bk) (e : Expr) (ρ : List Sl) (R : Bool → Prop) : Prop :=
 ∀ (σ : L2.St) (H Hf : Hp) (Q : Bool → Hp → Prop), aL c σ H Hf ρ → (∀ b H' Hf', R b → Grw H Hf H' Hf' → Q b H') → bW c.X e σ H Q
theorem t_w (h : EvW c e ρ T) : EvT c e ρ T := fun σ H Hf Q S q pins s I => h σ H Hf Q S q _ pins s I
theorem Ay (h : EvT c a ρ T) : EvW c (.BoolOp .And [a] pos) ρ T := fun σ H Hf Q S q => qh (pw_and1 pbT) (h σ H Hf Q S q)
theorem w_or1 (h : EvT c a ρ T) : EvW c (.BoolOp .Or [a] pos) ρ T := fun σ H Hf Q S q => qh (pw_or1 pbT) (h σ H Hf Q S q)
theorem w_and (h : EvT c a ρ (If2 (EvW c (.BoolOp .And (b :: rest) pos) ρ T) (T false))) : EvW c (.BoolOp .And (a :: b :: rest) pos) ρ T := fun σ H Hf Q S q =>
 qh (pw_and pbT pbW) (h σ H Hf _ S fun x H' Hf' hx g => by
  cases x with
  | true => exact hx.t rfl σ H' Hf' Q (S.grw g) fun y H2 Hf2 hy g2 => q y H2 Hf2 hy (g.trans g2)
  | false => exact q false H' Hf' (hx.f rfl) g)
theorem w_or (h : EvT c a ρ (If2 (T true) (EvW c (.BoolOp .Or (b :: rest) pos) ρ T))) : EvW c (.BoolOp .Or (a :: b :: rest) pos) ρ T := fun σ H Hf Q S q =>
 qh (pw_or pbT pbW) (h σ H Hf _ S fun x H' Hf' hx g => by
  cases x with
  | false => exact hx.f rfl σ H' Hf' Q (S.grw g) fun y H2 Hf2 hy g2 => q y H2 Hf2 hy (g.trans g2)
  | true => exact q true H' Hf' (hx.t rfl) g)
theorem t_not (h : EvT c a ρ fun x => T (!x)) : EvT c (.UnaryOp .Not a pos) ρ T := fun σ H Hf Q S q =>
 qb (zM pbT) (h σ H Hf _ S fun x H' Hf' hx g => q _ H' Hf' hx g)
theorem e_one {op : BoolOp} (h : EvE c a ρ R) : EvE c (.BoolOp op [a] pos) ρ R := fun σ H Hf Q S q => bw (zN pbE) (h σ H Hf Q S q)
theorem e_and (h : EvE c a ρ (B1 (If2 (EvE c (.BoolOp .And (b :: rest) pos) ρ R) (R (.bl false))))) : EvE c (.BoolOp .And (a :: b :: rest) pos) ρ R := fun σ H Hf Q S q =>
 bw (zO pbE pbE) (h σ H Hf _ S fun x v H' Hf' ⟨k, e, h1⟩ r g => by
  subst e
  rw [bQ] at r
  refine ⟨k, r, ?_⟩
  cases k with
  | true => rw [if_pos rfl]; exact h1.t rfl σ H' Hf' Q (S.grw g) fun y v2 H2 Hf2 hy r2 g2 => q y v2 H2 Hf2 hy r2 (g.trans g2)
  | false => rw [if_neg Bool.false_ne_true]; exact q _ _ H' Hf' (h1.f rfl) (bQ.mpr rfl) g)
theorem e_not (h : EvE c a ρ (B1 fun k => R (.bl (!k)))) : EvE c (.UnaryOp .Not a pos) ρ R := fun σ H Hf Q S q =>
 bw (zP pbE) (h σ H Hf _ S fun x v H' Hf' ⟨k, e, h1⟩ r g => by
  subst e; rw [bQ] at r
  exact ⟨k, r, q _ _ H' Hf' h1 (bQ.mpr rfl) g⟩)
theorem t_val (h : EvE c e ρ (B1 T)) (he : ∀ (env : Env) whole, isTrue e env whole = (do let v ← whole; standAt e.pos; holding [v] (truthy v)) := by intro _ _; with_unfolding_all rfl) : EvT c e ρ T := fun σ H Hf Q S q =>
 qb (zL pbE (he _)) (h σ H Hf _ S fun x v H' Hf' ⟨k, e, h1⟩ r g => by
  subst e; rw [bQ] at r
  exact ⟨k, r, q k H' Hf' h1 g⟩)
theorem fD {R : List D → Prop} (h : R []) : EvA c [] ρ R := fun σ H Hf Q S q => um cF (q [] [] H Hf h (av.mpr rfl) (.refl S.sb))
theorem bR {R : List D → Prop} (h : EvE c e ρ fun d => EvA c es ρ fun ds => R (d :: ds)) (hs : ∀ env, starEach (e :: es) env = (false, eval e env) :: starEach es env := by intro _; with_unfolding_all rfl) : EvA c (e :: es) ρ R := fun σ H Hf Q S q =>
 um (bq pbE pbA (hs _)) (h σ H Hf _ S fun d v H1 Hf1 h1 r1 g1 => h1 σ H1 Hf1 _ (S.grw g1) fun ds vs H2 Hf2 h2 r2 g2 => q _ _ H2 Hf2 h2 (.cons (Rep.mono g2.f d r1) r2) (g1.trans g2))
theorem e_tup {j : Nat} (h : EvA c es ρ fun ds => Sd (ds.length ≤ sizeLine) (R (.tup ds))) : EvE c (.Tuple es j pos) ρ R := fun σ H Hf Q S q =>
 bw (Ae pbA) (h σ H Hf _ S fun ds vs H' Hf' ⟨hl, hR⟩ r g => ⟨by rw [← r.length]; exact hl, fun p hp => by
  have g2 := Grw.new g.b hp (o := .tup vs)
  exact q _ _ _ _ hR (aA.mpr ⟨p, vs, rfl, .inl (.inl ai), r.mono g2.f⟩) (g.trans g2)⟩)
theorem zo {R : Sl → Prop} (h : EvA c es ρ fun ds => Sd (ds.length ≤ sizeLine) (R (.ow ds))) : EvX c (.List es pos) ρ R := fun σ H Hf Q S q =>
 bw (Af pbA) (h σ H Hf _ S fun ds vs H' Hf' ⟨hl, hR⟩ r g => ⟨by rw [← r.length]; exact hl, fun p hp => by
  have g2 := Grw.dZ g.b hp (o := .lst vs)
  exact q _ _ _ _ hR ⟨p, vs, rfl, g.s.free hp, ai, g.b.free hp, r⟩ (g.trans g2)⟩)
variable {st : Stmt} {sts : List Stmt} {nx : List Sl → Prop} {p : Pt}
theorem Az (h : nx ρ) : bu c [] ρ nx p := fun σ H Hf D S o => uo w9 (o.nx σ H Hf ρ S h)
theorem cC (h : EvS c st ρ (fun ρ' => bu c sts ρ' nx p) p) : bu c (st :: sts) ρ nx p := fun σ H Hf D S o =>
 uo (tK pbS oN) (h σ H Hf { D with nx := bSs c.X sts D } S ⟨fun σ' H' Hf' ρ' S' q => q σ' H' Hf' D S' o, o.rt, o.bk, o.ct⟩)
theorem jU (h : EvX c e ρ p.rt) : EvS c (.Return (some e) pos) ρ nx p := fun σ H Hf D S o =>
 cB (tL pbE) (h σ H Hf _ S fun r v H' Hf' hr rs g => o.rt r v H' Hf' (S.bas.trans g) (rs.weak fun p hp => S.bas.s.free hp) hr)
theorem uA {x : Str} {pos2 : Pos} {i : Nat} {r : Sl} (hN : At N i x) (hi : At ρ i r) (hu : r.owned = true) (h : p.rt r)
 (hd : (x == ("__debug__" : Str)) = false := by decide) (hcd : (x == ("__classdict__" : Str)) = false := by decide) :
 EvS c (.Return (some (.Name x pos2)) pos) ρ nx p := fun σ H Hf D S o => by
 obtain ⟨v, e, rs⟩ := S.at_ i r hi.get (by rintro rfl; cases hu)
 exact cB (tL (n9 (X := c.X) (i := i) (by rw [c.eN]; exact hN.get) (by rw [c.esc]; rcases c.vis x hN.mem with h | h; exact .inl h; exact .inr (.inl h)) hd hcd)) ⟨v, e, o.rt r v H Hf S.bas rs h⟩
theorem s_if {A B : List Stmt} {t : Expr} (h : EvT c t ρ (If2 (bu c A ρ nx p) (bu c B ρ nx p))) : EvS c (.If t A B pos) ρ nx p := fun σ H Hf D S o =>
 cB (ps_if pbT oN oN) (h σ H Hf _ S fun x H' Hf' hx g => by
  cases x with
  | true => rw [if_pos rfl]; exact hx.t rfl σ H' Hf' D (S.grw g) o
  | false => rw [if_neg Bool.false_ne_true]; exact hx.f rfl σ H' Hf' D (S.grw g) o)
def Nx (ρ : List Sl) (i : Nat) (R : List Sl → Prop) (r : Sl) : Prop := ∃ ρ', SSet ρ i r ρ' ∧ R ρ'
theorem nxt {ρ ρ' : List Sl} {i : Nat} {R : List Sl → Prop} {r : Sl} (h : SSet ρ i r ρ') (hr : R ρ') : Nx ρ i R r := ⟨ρ', h, hr⟩
theorem s_set {x : Str} {pos2 : Pos} {i : Nat} (hN : At N i x) (h : EvX c e ρ (Nx ρ i nx))
 (hs : ∀ env, swapsWith e (some (.Name x pos2)) pos.line env = pure false := by intro _; with_unfolding_all rfl) (hf : bk = false ∨ sc.names.lookup x = some .local := by first | exact .inl rfl | exact .inr (by with_unfolding_all rfl)) : EvS c (.Assign [.Name x pos2] e pos) ρ nx p := fun σ H Hf D S o =>
 cB (zT (X := c.X) (i := i) (by rw [c.eN]; exact c.nd) (by rw [c.eN]; exact hN.get) (by rw [c.esc]; exact c.vis x hN.mem) pbE (hs _) (c.fn x hf)) (h σ H Hf _ S fun r v H' Hf' ⟨ρ', hs, hx⟩ rs g => o.nx _ H' Hf' _ (hs.eq ▸ S.set g rs) hx)
theorem dH {x : Str} {d : D} {R : List Sl → Prop} {i : Nat} (hN : At N i x) (h : Nx ρ i R (.va d)) (hf : bk = false ∨ sc.names.lookup x = some .local := by first | exact .inl rfl | exact .inr (by with_unfolding_all rfl)) : EvG c (.Name x pos) d ρ R := fun σ H Hf v Q S r q => by
 obtain ⟨ρ', hs, h⟩ := h
 exact uq (kD (X := c.X) (i := i) (by rw [c.eN]; exact c.nd) (by rw [c.eN]; exact hN.get) (by rw [c.esc]; exact c.vis x hN.mem) (c.fn x hf)) (q _ H Hf _ (hs.eq ▸ S.set (.refl S.sb) (r := .va d) r) (.refl S.sb) h)
def rJ (c : Ctx P w K mg base k N sc bk) (ts : List Expr) (ds : List D) (ρ : List Sl) (R : List Sl → Prop) : Prop :=
 ∀ (σ : L2.St) (H Hf : Hp) (vs : List V) (Q : L2.St → Hp → Prop), aL c σ H Hf ρ → aj c.X.K Hf ds vs → (∀ σ' H' Hf' ρ', aL c σ' H' Hf' ρ' → Grw H Hf H' Hf' → R ρ' → Q σ' H') →
  ∀ pins s us, Inv c.X pins σ H s → Vals vs us → wpAny (model c.X.prog c.X.w) c.X.A (assignInOrder ((assignEach ts c.X.env).map (·.2)) us) (fun _ s' => ∃ σ' H', Inv c.X pins σ' H' s' ∧ Q σ' H') c.X.xe s
theorem AA {R : List Sl → Prop} (h : R ρ) : rJ c [] [] ρ R := fun σ H Hf vs Q S r q pins s us I rv => by
 rw [av] at r; subst r
 exact xh pins s σ H [] us Q I rv ⟨rfl, q σ H Hf ρ S (.refl S.sb) h⟩
theorem xS {x : Str} {d : D} {ds : List D} {ts : List Expr} {R : List Sl → Prop} {i : Nat} (hN : At N i x) (h : Nx ρ i (fun ρ' => rJ c ts ds ρ' R) (.va d))
 (hs : ∀ env, (assignEach (.Name x pos :: ts) env).map (·.2) = assign (.Name x pos) env :: (assignEach ts env).map (·.2) := by intro _; with_unfolding_all rfl) (hf : bk = false ∨ sc.names.lookup x = some .local := by first | exact .inl rfl | exact .inr (by with_unfolding_all rfl)) : rJ c (.Name x pos :: ts) (d :: ds) ρ R := fun σ H Hf vs Q S r q pins s us I rv => by
 obtain ⟨ρ', hs', h⟩ := h
 rw [az] at r
 obtain ⟨v, vr, rfl, r1, r2⟩ := r
 have hp : PGs c.X ts (fun vs' σ' H' Q' => ∀ pins s us, Inv c.X pins σ' H' s → Vals vs' us → wpAny (model c.X.prog c.X.w) c.X.A (assignInOrder ((assignEach ts c.X.env).map (·.2)) us) (fun _ s' => ∃ σ'' H'', Inv c.X pins σ'' H'' s' ∧ Q' σ'' H'') c.X.xe s) :=
  fun pins s σ H vs us Q I r h => h pins s us I r
 refine tM (kD (X := c.X) (i := i) (by rw [c.eN]; exact c.nd) (by rw [c.eN]; exact hN.get) (by rw [c.esc]; exact c.vis x hN.mem) (c.fn x hf)) hp (hs _) pins s σ H _ us Q I rv ⟨v, vr, rfl, ?_⟩
 have S1 := S.set (i := i) (.refl S.sb) (r := .va d) (v := v) r1
 rw [← hs'.eq] at S1
 exact h _ H Hf vr Q S1 r2 q
theorem g_tup {ts : List Expr} {j : Nat} {d : D} {ds : List D} {R : List Sl → Prop} (he : d = .tup ds) (hl : ds.length = ts.length) (h : rJ c ts ds ρ R)
 (hn : ∀ env, (assignEach ts env).length = ts.length := by intro _; with_unfolding_all rfl) (hst : ∀ env, (assignEach ts env).findIdx? (·.1) = none := by intro _; with_unfolding_all rfl) : EvG c (.Tuple ts j pos) d ρ R := fun σ H Hf v Q S r q => by
 subst he
 rw [aA] at r
 obtain ⟨a, xs, rfl, h1, h2⟩ := r
 have hp : PGs c.X ts (fun vs' σ' H' Q' => ∀ pins s us, Inv c.X pins σ' H' s → Vals vs' us → wpAny (model c.X.prog c.X.w) c.X.A (assignInOrder ((assignEach ts c.X.env).map (·.2)) us) (fun _ s' => ∃ σ'' H'', Inv c.X pins σ'' H'' s' ∧ Q' σ'' H'') c.X.xe s) :=
  fun pins s σ H vs us Q I r h => h pins s us I r
 refine uq (zQ (X := c.X) (k := j) (n := ts.length) c.calm hp (hn _) (hst _)) ⟨a, xs, rfl, aq S.sb h1, by rw [← h2.length, hl], ?_⟩
 exact h σ H Hf xs Q S h2 fun σ' H' Hf' ρ' S' g' hR => q σ' H' Hf' ρ' S' g' hR
theorem s_aug {x : Str} {pos2 : Pos} {op : Operator} {f : Int → Int → Int} {C : Int → Int → Prop} (ho : OpR c.X (inplaceOp op) (rI C fun i j => .int (f i j))) {i : Nat} {m : Int} (hN : At N i x) (hi : At ρ i (.va (.int m)))
 (h : EvE c e ρ (I1 fun j => Sd (C m j) (Nx ρ i nx (.va (.int (f m j)))))) (hf : bk = false ∨ sc.names.lookup x = some .local := by first | exact .inl rfl | exact .inr (by with_unfolding_all rfl)) : EvS c (.AugAssign (.Name x pos2) op e pos) ρ nx p := fun σ H Hf D S o => by
 obtain ⟨v, e1, r1⟩ := S.va hi.get
 rw [ak] at r1; subst r1
 have hip : PIp c.X op (rI C fun i j => .int (f i j)) := fun pins s σ H x y v u Q I rx ry h => ho pins s σ H x y v u Q I rx ry h
 refine cB (zU (X := c.X) (i := i) (by rw [c.eN]; exact c.nd) (by rw [c.eN]; exact hN.get) (by rw [c.esc]; exact c.vis x hN.mem) pbE hip (c.fn x hf)) ⟨_, e1, h σ H Hf _ S fun d v H' Hf' ⟨j, ed, ⟨hC, ρ', hs, hn⟩⟩ r g => ?_⟩
 subst ed; rw [ak] at r
 have S2 := S.set g (i := i) (r := .va (.int (f m j))) (show Rep c.X.K Hf' (.int (f m j)) (.int (f m j)) from ak.mpr rfl)
 rw [← hs.eq] at S2
 exact ⟨m, j, rfl, r, hC, o.nx _ H' Hf' _ S2 hn⟩
theorem AB {x : Str} {pos2 : Pos} {i : Nat} {m : Int} (hN : At N i x) (hi : At ρ i (.va (.int m))) (h : EvE c e ρ (I1 fun j => Nx ρ i nx (.va (.int (m - j))))) (hf : bk = false ∨ sc.names.lookup x = some .local := by first | exact .inl rfl | exact .inr (by with_unfolding_all rfl)) :
 EvS c (.AugAssign (.Name x pos2) .Sub e pos) ρ nx p :=
 s_aug (C := fun _ _ => True) (f := fun i j => i - j) (fun pins s σ H x y v u Q I rx ry ⟨i, j, e1, e2, _, q⟩ => xm pins s σ H x y v u Q I rx ry ⟨i, j, e1, e2, q⟩) hN hi (h.imp fun d ⟨j, e, q⟩ => ⟨j, e, trivial, q⟩) hf
theorem qi {t : Expr} {body : List Stmt} (hq : c.X.xe = fun _ _ => False) (I : Nat → List Sl → Prop) {m₀ : Nat} (h0 : I m₀ ρ)
 (h : ∀ m ρ', I m ρ' → EvT c t ρ' (If2 (bu c body ρ' (fun r => ∃ m', m' < m ∧ I m' r) { ct := fun r => ∃ m', m' < m ∧ I m' r, bk := nx, rt := p.rt }) (nx ρ'))) :
 EvS c (.While t body [] pos) ρ nx p := fun σ H Hf D S o =>
 cB (tN (by rw [hq]; exact PassesOwn.never) pbT oN) ⟨fun m σ H => ∃ Hf ρ', aL c σ H Hf ρ' ∧ I m ρ', ⟨m₀, Hf, ρ, S, h0⟩, fun m σ H ⟨Hf, ρ', S, hI⟩ => h m ρ' hI σ H Hf _ S fun x H' Hf' hx g => by
  cases x with
  | false => rw [if_neg Bool.false_ne_true]; exact o.nx σ H' Hf' ρ' (S.grw g) (hx.f rfl)
  | true =>
   rw [if_pos rfl]
   refine ⟨fun σ' H' => ∃ m', m' < m ∧ ∃ Hf ρ', aL c σ' H' Hf ρ' ∧ I m' ρ', fun σ' H' ⟨m', hl, hh⟩ => ⟨m', hl, hh⟩, ?_⟩
   exact hx.t rfl σ H' Hf' _ (S.grw g) ⟨fun σ H Hf ρ S ⟨m', hl, hi⟩ => ⟨m', hl, Hf, ρ, S, hi⟩, o.rt, fun σ H Hf ρ S q => o.nx σ H Hf ρ S q, fun σ H Hf ρ S ⟨m', hl, hi⟩ => ⟨m', hl, Hf, ρ, S, hi⟩⟩⟩
end
end EV
set_option Elab.async false
set_option linter.all false
set_option maxRecDepth 100000
namespace EV
open PySem PySem.Spec PyProof.Rows L2
theorem aF {n : Nat} (h : n ≤ 1000) : n ≤ sizeLine := Nat.le_of_lt (bz h)
theorem uB {j : Int} (h : 0 < j) (h2 : j.natAbs.log2 < 9000) : qf j := ⟨h, h2⟩
inductive Res where
 | ok (r : Sl)
 | ex (C : Addr)
abbrev Fn := List D → Res → Prop
def spF (K : PySem.W.Frag) (F : Fn) : Sp := fun vs H Q E => ∃ Hf ds r, aC Hf H ∧ aj K Hf ds vs ∧ F ds r ∧ match r with
 | .ok sl => ∀ v H' Hf', Grw H Hf H' Hf' → aQ K (fun p => H p = none) H' Hf' sl v → Q v H'
 | .ex C => ∀ a H', aC H H' → E (.ref C) (some a) H'
structure Cal (P : Program) (w : World) (K : PySem.W.Frag) (mg : Str → Option Value) (base : Heap) (k : Nat) (x : Str) (F : Fn) : Prop where
 ex : ∃ f fd ps, mg x = some (.ref f) ∧ PySem.W.keepIn K (.ref f) = true ∧ Binds K fd ps [] ∧ aX P w K mg base (CXE P w) k f fd ps (spF K F)
theorem Cal.mono {P : Program} {w : World} {K : PySem.W.Frag} {mg : Str → Option Value} {base : Heap} {j k : Nat} {x : Str} {F : Fn} (h : Cal P w K mg base j x F) (hl : j ≤ k) : Cal P w K mg base k x F := by
 obtain ⟨f, fd, ps, a, b, c, d⟩ := h.ex
 exact ⟨f, fd, ps, a, b, c, d.mono hl⟩
section
variable {P : Program} {w : World} {K : PySem.W.Frag} {mg : Str → Option Value} {base : Heap} {k : Nat} {N : List Str} {sc : Scope} {bk : Bool} {c : Ctx P w K mg base k N sc bk}
variable {a b e : Expr} {es rest : List Expr} {pos : Pos} {ρ : List Sl} {R : D → Prop} {T : Bool → Prop}
def RsP (c : Ctx P w K mg base k N sc bk) (ρ : List Sl) (R : Sl → Prop) : Res → Prop
 | .ok sl => R sl
 | .ex C => c.RX C ρ
theorem xT {x : Str} {F : Fn} {j : Nat} (h : Cal P w K mg base j x F) (hj : j ≤ k) : ∃ f, mg x = some (.ref f) ∧ PySem.W.keepIn K (.ref f) = true ∧
 ∀ (pins : List (Addr × Obj)) (σ : L2.St) (H Hf : Hp) (s : Shared) (us : List Value) (vs : List V) (ds : List D) (r : Res) (Q : VK), Inv c.X pins σ H s → aL c σ H Hf ρ → Vals vs us → aj c.X.K Hf ds vs → F ds r →
  (∀ sl v H' Hf', r = .ok sl → aQ c.X.K (fun p => H p = none) H' Hf' sl v → Grw H Hf H' Hf' → Q v H') → (∀ C, r = .ex C → c.RX C ρ) → wpAny (model c.X.prog c.X.w) c.X.A (call (.ref f) us) (EP c.X pins σ Q) c.X.xe s := by
 obtain ⟨f, fd, ps, hm, hk, hb, hF⟩ := h.ex
 refine ⟨f, hm, hk, fun pins σ H Hf s us vs ds r Q I S rv rs hr q hx => ?_⟩
 have hF' : aX c.X.prog c.X.w c.X.K c.X.mg c.X.base (CXE c.X.prog c.X.w) k f fd ps (spF c.X.K F) := by rw [c.eP, c.ew, c.eK, c.emg, c.eb]; exact hF.mono hj
 have hsp : spF c.X.K F vs H Q (fun cv ao H' => ∃ C, r = .ex C ∧ cv = .ref C ∧ aC H H') := by
  refine ⟨Hf, ds, r, S.bas.b, rs, hr, ?_⟩
  cases r with
  | ok sl => exact fun v H' Hf' g rs2 => q sl v H' Hf' rfl rs2 g
  | ex C => exact fun a H' s2 => ⟨C, rfl, rfl, s2⟩
 have hl : us.length = ps.length := by rw [← rv.length]; exact hF'.len _ _ _ _ hsp
 have hb' : Binds c.X.K fd ps [] := by rw [c.eK]; exact hb
 have hb2 := hb' s us I.kIn (by simpa using hl)
 rw [List.append_nil] at hb2
 refine wpAny_call (codeAny_mono (hF'.run c.X.A c.X.stack s H ⟨us, []⟩ us vs Q _ c.room I.env0 hb2 rv hsp) fun r' s' hq => ?_)
 cases r' with
 | error e =>
  obtain ⟨a, C, H', rfl, hE, C', e1, e2, sm⟩ := hq
  cases e2
  exact c.exc C a pins σ H Hf ρ s H' s' I S (hx C e1) hE sm
 | ok fl =>
  cases fl with
  | ret u => exact I.after hq
  | next => exact False.elim hq
  | brk => exact False.elim hq
  | cont => exact False.elim hq
theorem x_call {x : Str} {p : Pos} {F : Fn} {j : Nat} {R : Sl → Prop} (h : Cal P w K mg base j x F) (hj : j ≤ k)
 (ha : EvA c (e :: es) ρ fun ds => ∃ r, F ds r ∧ RsP c ρ R r)
 (hg : sc.names.lookup x = some .globalImplicit := by with_unfolding_all rfl) (hdb : (x == ("__debug__" : Str)) = false := by decide) (he : ∀ env, starEach (e :: es) env = (false, eval e env) :: starEach es env := by intro _; with_unfolding_all rfl)
 (hpl : ∀ env, (backTo pos (starEach es env)).any (·.1) = false := by intro _; with_unfolding_all rfl) : EvX c (.Call (.Name x p) (e :: es) [] pos) ρ R := fun σ H Hf Q S q pins s I => by
 obtain ⟨f, hm, hk, run⟩ := xT (c := c) (ρ := ρ) h hj
 refine wpAny_Call_Name_kw (gZ I (by unfold Gl Env.kindOf; rw [c.esc]; exact hg) (by rw [c.emg]; exact hm) ?_ hdb)
 refine PySem.W.callWith_K (h₀ := c.X.base) I.ok.mod.kin (by rw [c.eK]; exact hk) (thn (ha σ H Hf (fun vs H1 => ∃ Hf1 ds, (∃ r, F ds r ∧ RsP c ρ R r) ∧ aj c.X.K Hf1 ds vs ∧ Grw H Hf H1 Hf1) S (fun ds vs H1 Hf1 hr rs g => ⟨Hf1, ds, hr, rs, g⟩) pos pins s I) fun us s1 ⟨vs, H1, I1, rv, Hf1, ds, ⟨r, hF, hR⟩, rs, g⟩ => ⟨I1.kIn, ?_⟩) (he _) (hpl _)
 refine run pins σ H1 Hf1 s1 us vs ds r Q I1 (S.grw g) rv rs hF (fun sl v H' Hf' e1 rs2 g2 => ?_) fun C e1 => ?_
 ·subst e1
  exact q sl v H' Hf' hR (rs2.weak fun p hp => g.s.free hp) (g.trans g2)
 ·subst e1
  exact hR
theorem bg {x : Str} {p : Pos} {F : Fn} {j : Nat} (h : Cal P w K mg base j x F) (hj : j ≤ k)
 (ha : EvA c (e :: es) ρ fun ds => ∃ r, F ds r ∧ RsP c ρ (FzP R) r)
 (hg : sc.names.lookup x = some .globalImplicit := by with_unfolding_all rfl) (hdb : (x == ("__debug__" : Str)) = false := by decide) (he : ∀ env, starEach (e :: es) env = (false, eval e env) :: starEach es env := by intro _; with_unfolding_all rfl)
 (hpl : ∀ env, (backTo pos (starEach es env)).any (·.1) = false := by intro _; with_unfolding_all rfl) : EvE c (.Call (.Name x p) (e :: es) [] pos) ρ R := e_x (x_call h hj ha hg hdb he hpl)
def eE (N : List Str) (ds : List D) : List Sl := ds.map .va ++ List.replicate (N.length - ds.length) .un
theorem uC {K : PySem.W.Frag} {H₀ Hf₀ : Hp} {N : List Str} {vs : List V} {ds : List D} (r : aj K Hf₀ ds vs) (sb : aC Hf₀ H₀) : StR K H₀ Hf₀ (L2.start N vs) H₀ Hf₀ (eE N ds) := by
 have hl := r.length
 refine ⟨.refl sb, by simp [L2.start, eE, hl], fun i r' h hu => ?_, fun i j r1 r2 p hne h1 h2 o1 o2 => ?_⟩
 ·by_cases q : i < ds.length
  ·have e : (eE N ds)[i]? = some (.va ds[i]) := by
    unfold eE
    rw [List.getElem?_append_left (by simpa using q)]; simp [q]
   rw [e] at h; cases h
   obtain ⟨x, e2, rx⟩ := r.get (i := i) (d := ds[i]) (by simp)
   refine ⟨x, ?_, rx⟩
   unfold L2.start
   rw [List.getElem?_append_left (by simp; omega)]
   simp [e2]
  ·unfold eE at h
   rw [List.getElem?_append_right (by simp; omega)] at h
   have := List.mem_of_getElem? h
   exact absurd (List.eq_of_mem_replicate this) hu
 ·exfalso
  unfold eE at h1
  by_cases q : i < (ds.map Sl.va).length
  ·rw [List.getElem?_append_left q] at h1
   rw [List.getElem?_map] at h1
   cases z : ds[i]? with
   | none => rw [z] at h1; cases h1
   | some d => rw [z] at h1; cases h1; cases o1
  ·rw [List.getElem?_append_right (by omega)] at h1
   have e3 := List.eq_of_mem_replicate (List.mem_of_getElem? h1)
   subst e3; cases o1
theorem cN {x qual : Str} {st : Stmt} {f : Addr} {fd : FuncData} {ps : List Str} {k : Nat} {F : Fn} (Fu : Fun K x qual st f fd) (Sc : aD N ps (aa st)) (Vi : ∀ x ∈ N, Loc (aa st) x) (ar : ∀ ds r, F ds r → ds.length = ps.length)
 (hok : ∀ ds r, F ds r → ∃ sl, r = .ok sl)
 (body : ∀ (c : Ctx P w K mg base k N (aa st) false), c.X.xe = (fun _ _ => False) → ∀ ds sl, F ds (.ok sl) → bu c (aB st) (eE N ds) (fun _ => sl = .va .non) { rt := fun r => r = sl }) :
 aX P w K mg base (CXE P w) (k + 1) f fd ps (spF K F) := by
 obtain ⟨oc, od, kV, doc, pm, an, cdv, ct, osl, rfl, lk, hcd⟩ := Fu.ex
 refine tT lk hcd Sc (fun vs H Q E ⟨Hf, ds, r, _, rs, hF, _⟩ => by rw [← rs.length]; exact ar _ _ hF) fun A outer s H vs Q E hr ⟨Hf, ds, r, sb, rs, hF, hq⟩ => ?_
 obtain ⟨sl, rfl⟩ := hok _ _ hF
 let X : Cx := (lT (CXE P w) P w K mg base N qual (aa st) f cdv A outer s H E).nox
 let c : Ctx P w K mg base k N (aa st) false :=
  { X := X, eP := rfl, ew := rfl, eK := rfl, emg := rfl, eb := rfl, eN := rfl, esc := rfl, calm := rfl, top := fun _ => ⟨rfl, rfl, rfl⟩, cb := fun _ _ _ _ _ I x c h => I.ok.cab x c rfl h, fn := fun _ _ => .inl rfl, B := H, room := hr, nd := Sc.nd, vis := Vi, Hf := Hf, RX := fun _ _ => False, exc := fun _ _ _ _ _ _ _ _ _ _ _ _ h _ _ => h.elim, RM := fun _ _ => False, mde := fun _ _ _ _ _ _ _ _ _ _ _ _ h _ => h.elim }
 refine ⟨_, PSs.nox (t := bSs X (aB st)) (oN (X := X)), ?_⟩
 refine body c rfl ds sl hF (L2.start N vs) H Hf _ (uC rs sb) ⟨fun σ H' Hf' ρ S e => ?_, fun r v H' Hf' g rv e => ?_, fun _ _ _ _ _ h => h.elim, fun _ _ _ _ _ h => h.elim⟩
 ·subst e
  exact hq .non H' Hf' S.bas (show Rep K Hf' .non .non from aW.mpr rfl)
 ·have e : r = sl := e
  subst e
  exact hq v H' Hf' g rv
def CalD (K : PySem.W.Frag) (r : List V → Hp → VK → Prop) (p : List D → (Sl → Prop) → Prop) : Prop :=
 ∀ (ds : List D) (vs : List V) (H Hf : Hp) (Q : VK) (R : Sl → Prop), aC Hf H → aj K Hf ds vs → p ds R → (∀ z v' H' Hf', R z → aQ K (fun p => H p = none) H' Hf' z v' → Grw H Hf H' Hf' → Q v' H') → r vs H Q
theorem x_bty {x : Str} {id : String} {p : Pos} {r : List V → Hp → VK → Prop} {q : List D → (Sl → Prop) → Prop} {R : Sl → Prop} (hc : bV c.X (.type id) r) (hd : CalD c.X.K r q) (hm : mg x = none) (hv : bootBuiltins x = some (.type id))
 (ha : EvA c (e :: es) ρ fun ds => q ds R) (hg : sc.names.lookup x = some .globalImplicit := by with_unfolding_all rfl) (hn : x ≠ "__name__" := by decide) (hdb : (x == ("__debug__" : Str)) = false := by decide)
 (he : ∀ env, starEach (e :: es) env = (false, eval e env) :: starEach es env := by intro _; with_unfolding_all rfl) (hpl : ∀ env, (backTo pos (starEach es env)).any (·.1) = false := by intro _; with_unfolding_all rfl) : EvX c (.Call (.Name x p) (e :: es) [] pos) ρ R := fun σ H Hf Q S qq =>
 bw (jM hc (by unfold Gl Env.kindOf; rw [c.esc]; exact hg) (by rw [c.emg]; exact hm) hv pbA hn hdb (he _) (hpl _))
  (ha σ H Hf _ S fun ds vs H1 Hf1 h1 rs g => hd ds vs H1 Hf1 Q R g.b rs h1 fun z v' H' Hf' hz rz g2 => qq z v' H' Hf' hz (rz.weak fun p hp => g.s.free hp) (g.trans g2))
theorem jV {K : PySem.W.Frag} {H : Hp} {d : D} {vs : List V} (h : aj K H [d] vs) : ∃ v, vs = [v] ∧ Rep K H d v := by
 rw [az] at h
 obtain ⟨x, r, rfl, h1, h2⟩ := h
 rw [av] at h2; subst h2
 exact ⟨x, rfl, h1⟩
def uD (K : PySem.W.Frag) (r : List V → Hp → VK → Prop) (p : List D → (D → Prop) → Prop) : Prop :=
 ∀ (ds : List D) (vs : List V) (H Hf : Hp) (Q : VK) (R : D → Prop), aC Hf H → aj K Hf ds vs → p ds R → (∀ d v H' Hf', R d → Rep K Hf' d v → Grw H Hf H' Hf' → Q v H') → r vs H Q
theorem jW {x : Str} {id : String} {p : Pos} {r : List V → Hp → VK → Prop} {q : List D → (D → Prop) → Prop} (hc : bV c.X (.builtin id) r) (hd : uD c.X.K r q) (hm : mg x = none) (hv : bootBuiltins x = some (.builtin id))
 (ha : EvA c (e :: es) ρ fun ds => q ds R) (hg : sc.names.lookup x = some .globalImplicit) (hn : x ≠ "__name__") (hdb : (x == ("__debug__" : Str)) = false)
 (he : ∀ env, starEach (e :: es) env = (false, eval e env) :: starEach es env) (hpl : ∀ env, (backTo pos (starEach es env)).any (·.1) = false) : EvE c (.Call (.Name x p) (e :: es) [] pos) ρ R := fun σ H Hf Q S qq =>
 bw (tU hc (by unfold Gl Env.kindOf; rw [c.esc]; exact hg) (by rw [c.emg]; exact hm) hv pbA hn hdb (he _) (hpl _))
  (ha σ H Hf _ S fun ds vs H1 Hf1 h1 rs g => hd ds vs H1 Hf1 Q R g.b rs h1 fun z v' H' Hf' hz rz g2 => qq z v' H' Hf' hz rz (g.trans g2))
theorem e_bty {x : Str} {id : String} {p : Pos} {r : List V → Hp → VK → Prop} {q : List D → (D → Prop) → Prop} (hc : bV c.X (.type id) r) (hd : uD c.X.K r q) (hm : mg x = none) (hv : bootBuiltins x = some (.type id))
 (ha : EvA c (e :: es) ρ fun ds => q ds R) (hg : sc.names.lookup x = some .globalImplicit) (hn : x ≠ "__name__") (hdb : (x == ("__debug__" : Str)) = false)
 (he : ∀ env, starEach (e :: es) env = (false, eval e env) :: starEach es env) (hpl : ∀ env, (backTo pos (starEach es env)).any (·.1) = false) : EvE c (.Call (.Name x p) (e :: es) [] pos) ρ R := fun σ H Hf Q S qq =>
 bw (jM hc (by unfold Gl Env.kindOf; rw [c.esc]; exact hg) (by rw [c.emg]; exact hm) hv pbA hn hdb (he _) (hpl _))
  (ha σ H Hf _ S fun ds vs H1 Hf1 h1 rs g => hd ds vs H1 Hf1 Q R g.b rs h1 fun z v' H' Hf' hz rz g2 => qq z v' H' Hf' hz rz (g.trans g2))
section
variable {p : Pos}
end
end
end EV
set_option Elab.async false
set_option linter.all false
set_option maxRecDepth 100000
namespace EV
open PySem PySem.Spec PySem.Calls PyProof.Rows L2
theorem AD {P : Program} {w : World} {H : Hp} {h : Heap} {a : Addr} {o : HO} (x : aJ P w H h a o) : ∃ u, h.get? a = some u := by
 cases o with
 | lst xs => obtain ⟨_, _, _, _, e⟩ := x; exact ⟨_, e⟩
 | tup xs => obtain ⟨_, _, _, ob, e, _⟩ := x; exact ⟨_, e⟩
 | dK kvs => obtain ⟨_, _, _, _, o, _, _, e, _⟩ := x; exact ⟨_, e⟩
 | dT kvs => obtain ⟨_, _, _, _, o, _, _, e, _⟩ := x; exact ⟨_, e⟩
 | set S n => obtain ⟨o, _, _, _, e, _⟩ := x; exact ⟨_, e⟩
 | ins C dx fs => obtain ⟨_, _, _, e, _⟩ := x; exact ⟨_, e⟩
 | own y => exact x
 | xd fs => obtain ⟨_, ⟨_, _, _, e, _⟩, _⟩ := x; exact ⟨_, e⟩
 | rng lo hi => obtain ⟨_, _, _, e⟩ := x; exact ⟨_, e⟩
 | frz ob u => obtain ⟨e, _⟩ := x; exact ⟨_, e⟩
 | tbl ps => exact ⟨_, x⟩
 | met f y => exact ⟨_, x⟩
 | ext φ => exact x.2.1
section
variable {P : Program} {w : World} {K : PySem.W.Frag} {mg : Str → Option Value} {base : Heap} {N : List Str} {qual : Str} {scope : Scope} {f : Addr} {cd : Value} {A : Around} {outer : List Env} {s : Shared} {H : Hp} {E : XK}
def Ctx.nox {k : Nat} {sc : Scope} {bk : Bool} (c : Ctx P w K mg base k N sc bk) : Ctx P w K mg base k N sc bk :=
 { X := c.X.nox, eP := c.eP, ew := c.ew, eK := c.eK, emg := c.emg, eb := c.eb, eN := c.eN, esc := c.esc, calm := c.calm, top := c.top, cb := fun hb pins σ H s I => c.cb hb pins σ H s I.cu, fn := c.fn, room := c.room, nd := c.nd, vis := c.vis, B := c.B, Hf := c.Hf, RX := fun _ _ => False, RM := fun _ _ => False, exc := fun _ _ _ _ _ _ _ _ _ _ _ _ h _ _ => h.elim, mde := fun _ _ _ _ _ _ _ _ _ _ _ _ h _ => h.elim }
end
section
variable {P : Program} {w : World} {K : PySem.W.Frag} {mg : Str → Option Value} {base : Heap} {k : Nat} {N : List Str} {sc : Scope} {bk : Bool} {c : Ctx P w K mg base k N sc bk} {ρ : List Sl} {nx : List Sl → Prop} {p : Pt} {pos np cpos : Pos} {e : Expr}
end
end EV
set_option Elab.async false
set_option linter.all false
set_option maxRecDepth 100000
namespace EV
open PySem PySem.Spec PySem.Calls PyProof.Rows L2
open PySem.W Builtin Builtin.ObjectAttr Builtin.Getset_descriptor
structure ExK (K : PySem.W.Frag) (C : Addr) : Prop where
 ga : PySem.W.findIn K (.ref C) "__getattribute__" = some (some (.builtin "BaseException.__getattribute__"))
 hk : PySem.W.findIn K (.ref C) "__getattr__" = some none
 ca : PySem.W.findIn K (.ref C) "__class__" = some (some (.builtin "object.__class__"))
 gt : PySem.W.specialIn K (.builtin "object.__class__") "__get__" = some (some (.builtin "getset_descriptor.__get__"))
 tk : PySem.W.takesIn K (.builtin "object.__class__") = some true
 mo : PySem.W.mroIn K C (.type "object") = some true
 mb : PySem.W.mroIn K C (.type "BaseException") = some true
section
variable {prog : Program} {w : World} {A : Around} {E : Value → Shared → Prop} {s : Shared} {K : PySem.W.Frag} {x C : Addr} {R : Result → Shared → Prop}
theorem qj {M : Model} {h : Heap} (p : oM x C h) : Looks M h (typeOf (.ref x)) (.ref C) := by
 obtain ⟨o, ho, hc, _⟩ := p
 rw [← hc]
 exact (Looks.ld ho).andThen .now
theorem jE {tp : Value} (X : K.In s.heap) (L : Looks (model prog w) s.heap (typeOf (.ref x)) (.ref C)) (hm : PySem.W.mroIn K C (.type "object") = some true)
 (h : R (.ok (.ret (.ref C))) s) : codeAny (model prog w) A (.call (.builtin "getset_descriptor.__get__") ⟨[.builtin "object.__class__", .ref x, tp], []⟩) R s := by
 obtain ⟨hh, g, dr, t, os⟩ := s
 have L0 := L
 have L1 := looks_mroIn (M := model prog w) X hm
 refine codeAny_call_builtin KF.slot_gs.plain KF.entry_gs (KF.slot_gs.check _ _ _ _ _ _ _ _ KF.type_class (KF.args_gs _ _ _) ?_)
 unfold Builtin.«getset_descriptor.__get__» descrGet
 rw [dga_obj]
 refine wpAny_bind (wpAny_pure ?_)
 unfold descrGetter descrCheckInstance descrNameAndClass isInstance
 simp only [KF.owner_class]
 repeat lk
 refine ⟨Code.quiet_builtin _ (by decide +kernel), codeAny_builtin KF.entry_class ?_⟩
 unfold Builtin.«object.__class__» shownTypeOf
 repeat lk
 exact h
theorem uE {M : Model} {h : Heap} (X : K.In h) (k : ExK K C) : Looks M h (find (.ref x) (.ref C) "__class__") (.bind (.builtin "getset_descriptor.__get__") (.builtin "object.__class__")) := by
 have L1 := looks_findIn (M := M) X k.ca
 have L2 : Looks M h (getOf (some (.builtin "object.__class__"))) (some (.builtin "getset_descriptor.__get__")) := looks_specialIn X k.gt
 have L3 := looks_takesIn (M := M) X k.tk
 unfold find
 refine L1.andThen (L2.andThen ?_)
 refine Looks.andThen (a := some (.builtin "getset_descriptor.__get__", .builtin "object.__class__")) ?_ (Looks.tag .now)
 unfold dataDescriptor?
 exact L3.andThen .now
theorem rK {Q : Option Value → Shared → Prop} (X : K.In s.heap) (p : oM x C s.heap) (k : ExK K C) (h : Q (some (.ref C)) { s with toks := s.toks + 1 }) : wpAny (model prog w) A (getAttr? (.ref x) "__class__") Q E s := by
 obtain ⟨hh, g, d, t, os⟩ := s
 have L0 : Looks (model prog w) hh (typeOf (.ref x)) (.ref C) := qj p
 have L1 := looks_findIn (M := model prog w) X k.ga
 have L2 := looks_findIn (M := model prog w) X k.hk
 have L3 := looks_mroIn (M := model prog w) X k.mb
 have L4 := uE (M := model prog w) (x := x) X k
 unfold getAttr? getAttrBy? getAttrBy
 refine wpAny_bind (wpAny_mkText (wpAny_bind (wpAny_attempt (wpAny_holding (wpAny_bind (L0.at (wpAny_bind (L1.at ?_))))))))
 dsimp only
 have hx2 : (Value.builtin "BaseException.__getattribute__" == Value.builtin "object.__getattribute__") = false := by decide +kernel
 rw [hx2, Bool.and_false, if_neg Bool.false_ne_true]
 unfold getAttrByItsOwn hookBefore
 rw [if_pos (by rfl)]
 refine wpAny_bind (L2.at ?_)
 refine wpAny_bind (wpAny_attempt (wpAny_holding ?_))
 unfold callGetattribute
 rw [if_neg (by simp)]
 unfold boundAndCalled
 have f3 := PySem.F.attrBase_ValueError.ga.bind (.ref x)
 rw [f3]
 refine wpAny_bind (wpAny_pure ?_)
 refine wpAny_call (codeAny_call_builtin PySem.F.attrBase_ValueError.ga.plain PySem.F.entry_bexc_ga ?_)
 have hk : builtinKind "BaseException.__getattribute__" = some .slot := by decide +kernel
 have hsplit : splitId "BaseException.__getattribute__" = some ("BaseException", "__getattribute__") := by decide +kernel
 have ha := PySem.F.args_bexc_ga (.ref x) (Value.str (Str.ofString "__class__") t)
 simp only [checkBuiltinCall, hk, hsplit]
 dsimp only [List.cons_append, List.nil_append]
 have LI : Looks (model prog w) hh (isInstance (.ref x) (.type "BaseException")) true := L0.andThen L3
 refine wpAny_bind (LI.at ?_)
 rw [if_neg (by decide)]
 refine wpAny_mono (Q := fun _ s1 => s1 = ⟨hh, g, d, t + 1, os⟩) (E := fun _ _ => False) ?_ (fun _ s1 e1 => ?_) (fun _ _ z => z.elim)
 ·repeat (any_goals (first | assumption | rfl | wp_step))
 subst e1
 unfold «object.__getattribute__»
 repeat (first | with_reducible refine wpAny_call ?_ | lk)
 refine jE X L0 k.mo ?_
 repeat lk
 exact h
theorem uF (k : ExK K C) : PySem.W.KitX K (.ref x) (.ref C) (oM x C) where
 ty := fun _ _ _ p => qj p
 it := fun _ _ X _ => by
  have hdct : ∃ cd, PySem.W.clsIn K C = some cd := by
   obtain ⟨cd, h1, _⟩ := Option.bind_eq_some_iff.mp (show (PySem.W.clsIn K C).bind _ = some true from k.mo)
   exact ⟨cd, h1⟩
  obtain ⟨cdD, hcD⟩ := hdct
  unfold PySem.W.clsIn at hcD
  split at hcD
  ·rename_i c' d' cd' sl' ho
   intro A' Q' E' s' k q
   unfold isType loadHead
   exact wpAny_bind (wpAny_loadPart (k _ _ (X _ _ ho)) (wpAny_pure q))
  ·cases hcD
 ne := fun h tp dd its n sl X htp => by
  obtain ⟨cdD, hcD, _⟩ := Option.bind_eq_some_iff.mp (show (PySem.W.clsIn K C).bind _ = some true from k.mo)
  refine Bool.eq_false_iff.mpr fun q => ?_
  have e : C = tp := Value.ref.inj (beq_iff_eq.mp q)
  subst e
  unfold PySem.W.clsIn at hcD
  split at hcD
  ·rename_i c' d' cd' sl' ho
   have z := (X _ _ ho).symm.trans htp
   cases z
  ·cases hcD
 ca := fun X p h => rK X p k h
end
inductive TyD (K : PySem.W.Frag) : D → Value → Prop where
 | non : TyD K .non (.type "NoneType")
 | bl {x : Bool} : TyD K (.bl x) (.type "bool")
 | int {i : Int} : TyD K (.int i) (.type "int")
 | str {x : Str} : TyD K (.str x) (.type "str")
 | lst {ds : List EV.D} : TyD K (.lst ds) (.type "list")
 | tup {ds : List EV.D} : TyD K (.tup ds) (.type "tuple")
 | exc {C : Addr} (k : ExK K C) : TyD K (.exc C) (.ref C)
section
variable {X : Cx} {pins : List (Addr × Obj)} {σ : L2.St} {H Hf : Hp} {s : Shared} {A : Around} {E : Value → Shared → Prop} {Q : Value → Shared → Prop} {cv t : Value} {b : Bool}
theorem xU {d : EV.D} {v : V} {u : Value} (I : Inv X pins σ H s) (sb : aC Hf H) (rx : RelV v u) (rd : Rep X.K Hf d v) (ty : TyD X.K d t) (e : PySem.W.kitOne X.K t cv = some b) (h : ∀ tk, Q (.bool b) { s with toks := tk }) :
 wpAny (model X.prog X.w) A (call (.builtin "isinstance") [u, cv]) Q E s := by
 cases ty with
 | non => rw [aW] at rd; subst rd; cases (show u = Value.none from rx); exact PySem.W.kia_one PySem.W.kitx_none I.kIn True.intro e (fun z => nomatch z) h
 | bl => rw [bQ] at rd; subst rd; cases (show u = Value.bool _ from rx); exact PySem.W.kia_one PySem.W.kitx_bool I.kIn True.intro e (fun z => nomatch z) h
 | int => rw [ak] at rd; subst rd; obtain ⟨t, q⟩ := (show ∃ t, u = Value.int _ t from rx); cases q; exact PySem.W.kia_one PySem.W.kitx_int I.kIn True.intro e (fun z => nomatch z) h
 | str => rw [cU] at rd; subst rd; obtain ⟨t, q⟩ := (show ∃ t, u = Value.str _ t from rx); cases q; exact PySem.W.kia_one PySem.W.kitx_str I.kIn True.intro e (fun z => nomatch z) h
 | lst =>
  rw [aI] at rd
  obtain ⟨a, xs, rfl, h1, _⟩ := rd
  cases (show u = Value.ref a from rx)
  obtain ⟨its, _, p, _⟩ := I.list (sb.seq h1)
  obtain ⟨o, n1, p1, p2, _⟩ := p
  exact PySem.W.kia_one PySem.W.kitx_list I.kIn ⟨o, p1, p2⟩ e (fun z => nomatch z) h
 | tup =>
  rw [aA] at rd
  obtain ⟨a, xs, rfl, h1, _⟩ := rd
  cases (show u = Value.ref a from rx)
  obtain ⟨its, _, p, _⟩ := I.tuple (aq sb h1)
  obtain ⟨o, p1, p2, _⟩ := p
  exact PySem.W.kia_one PySem.W.kitx_tuple I.kIn ⟨o, p1, p2⟩ e (fun z => nomatch z) h
 | @exc C k =>
  rw [xJ] at rd
  obtain ⟨a, rfl, h1⟩ := rd
  cases (show u = Value.ref a from rx)
  have p : oM a C s.heap := (show aJ X.prog X.w H s.heap a (.ext (oM a C)) from I.hok a _ (sb _ _ h1)).1
  exact PySem.W.kia_one (uF k) I.kIn p e (fun z => nomatch z) h
end
section
variable {P : Program} {w : World} {K : PySem.W.Frag} {mg : Str → Option Value} {base : Heap} {k : Nat} {N : List Str} {sc : Scope} {bk : Bool} {c : Ctx P w K mg base k N sc bk} {ρ : List Sl} {pos np cp : Pos} {e : Expr} {R : EV.D → Prop}
def fE (mg : Str → Option Value) (x : Str) (cv : Value) : Prop := (∃ C, cv = .ref C ∧ mg x = some (.ref C)) ∨ (∃ T, cv = .type T ∧ mg x = none ∧ bootBuiltins x = some (.type T) ∧ x ≠ "__name__")
theorem rL : bootBuiltins (Str.ofString "isinstance") = some (.builtin "isinstance") := by decide +kernel
theorem kM {x : Str} {cv : Value} (hm : mg (Str.ofString "isinstance") = none) (hc : fE mg x cv) (h : EvE c e ρ fun d => ∃ t b, TyD K d t ∧ PySem.W.kitOne K t cv = some b ∧ R (.bl b))
 (hgi : sc.names.lookup (Str.ofString "isinstance") = some .globalImplicit := by with_unfolding_all rfl) (hgx : sc.names.lookup x = some .globalImplicit := by with_unfolding_all rfl) (hdx : (x == ("__debug__" : Str)) = false := by decide)
 (he : ∀ env, starEach [e, .Name x cp] env = (false, eval e env) :: starEach [.Name x cp] env := by intro _; with_unfolding_all rfl) (he2 : ∀ env, starEach [.Name x cp] env = [(false, eval (.Name x cp) env)] := by intro _; with_unfolding_all rfl)
 (hpl : ∀ env, (backTo pos (starEach [.Name x cp] env)).any (·.1) = false := by intro _; with_unfolding_all rfl) : EvE c (.Call (.Name (Str.ofString "isinstance") np) [e, .Name x cp] [] pos) ρ R := fun σ H Hf Q S q pins s I => by
 refine wpAny_Call_Name_kw (ck I (by unfold Gl Env.kindOf; rw [c.esc]; exact hgi) (by rw [c.emg]; exact hm) rL ?_ (by decide) (by decide))
 have hx : ∀ (s1 : Shared) (H1 : Hp) (Q' : Value → Shared → Prop), Inv c.X pins σ H1 s1 → Q' cv s1 → wpAny (model c.X.prog c.X.w) c.X.A (eval (.Name x cp) c.X.env) Q' c.X.xe s1 := fun s1 H1 Q' I1 q' => by
  rcases hc with ⟨C, rfl, hm'⟩ | ⟨T, rfl, hm', hb, hn⟩
  ·exact gZ I1 (by unfold Gl Env.kindOf; rw [c.esc]; exact hgx) (by rw [c.emg]; exact hm') q' hdx
  ·exact ck I1 (by unfold Gl Env.kindOf; rw [c.esc]; exact hgx) (by rw [c.emg]; exact hm') hb q' hn hdx
 refine PyProof.Rows.callWith_builtin1 (spliced_more (h σ H Hf (fun v H1 => ∃ d Hf1, (∃ t b, TyD K d t ∧ PySem.W.kitOne K t cv = some b ∧ R (.bl b)) ∧ Rep c.X.K Hf1 d v ∧ Grw H Hf H1 Hf1) S (fun d v H' Hf' hR r g => ⟨d, Hf', hR, r, g⟩) pins s I |> (thn · fun u s1 ⟨v, H1, I1, rv, d, Hf1, ⟨t, b, ty, ek, hR⟩, rd, g⟩ => ?_)) (he _)) (he _) (hpl _)
 refine spliced_more (hx s1 H1 _ I1 (spliced_none ?_)) (he2 _)
 refine xU I1 g.b rv rd (by rw [c.eK]; exact ty) (by rw [c.eK]; exact ek) fun tk => ?_
 exact ⟨.bl b, H1, I1.tok tk, rfl, q _ _ H1 Hf1 hR (bQ.mpr rfl) g⟩
end
end EV
set_option Elab.async false
set_option linter.all false
set_option maxRecDepth 100000
namespace EV
open PySem PySem.Spec PySem.Calls PyProof.Rows L2
section
variable {X : Cx} {pins : List (Addr × Obj)} {σ : L2.St} {H Hf : Hp} {s : Shared}
theorem kN (I : Inv X pins σ H s) (sb : aC Hf H) : ∀ (n : Nat) (d e : D) (v : V), EqO n d e → Rep X.K Hf d v → Rep X.K Hf e v → d = e := by
 intro n
 induction n with
 | zero =>
  intro d e v h r1 r2
  cases h with
  | sc h => cases d <;> cases e <;> simp [gI] at h <;> simp_all [Rep]
  | ln => rw [aW] at r2; subst r2; rw [aI] at r1; obtain ⟨_, _, e, _⟩ := r1; cases e
  | nl => rw [aW] at r1; subst r1; rw [aI] at r2; obtain ⟨_, _, e, _⟩ := r2; cases e
  | tn => rw [aW] at r2; subst r2; rw [aA] at r1; obtain ⟨_, _, e, _⟩ := r1; cases e
  | nt => rw [aW] at r1; subst r1; rw [aA] at r2; obtain ⟨_, _, e, _⟩ := r2; cases e
 | succ n ih =>
  have els : ∀ (ds es : List D) (xs : List V), (∀ (i : Nat) (d e : D), ds[i]? = some d → es[i]? = some e → EqO n d e) → aj X.K Hf ds xs → aj X.K Hf es xs → ds = es := fun ds es xs h q1 q2 => by
   apply List.ext_getElem?
   intro i
   cases a : ds[i]? with
   | none =>
    have : ds.length ≤ i := by simpa using a
    symm
    rw [List.getElem?_eq_none_iff, q2.length, ← q1.length]; exact this
   | some d =>
    obtain ⟨x, ex, rx⟩ := q1.get a
    obtain ⟨e, ee, re⟩ := q2.get' ex
    rw [ee, ih d e x (h i d e a ee) rx re]
  intro d e v h r1 r2
  cases h with
  | sc h => cases d <;> cases e <;> simp [gI] at h <;> simp_all [Rep]
  | ln => rw [aW] at r2; subst r2; rw [aI] at r1; obtain ⟨_, _, e, _⟩ := r1; cases e
  | nl => rw [aW] at r1; subst r1; rw [aI] at r2; obtain ⟨_, _, e, _⟩ := r2; cases e
  | tn => rw [aW] at r2; subst r2; rw [aA] at r1; obtain ⟨_, _, e, _⟩ := r1; cases e
  | nt => rw [aW] at r1; subst r1; rw [aA] at r2; obtain ⟨_, _, e, _⟩ := r2; cases e
  | tup h =>
   rw [aA] at r1 r2
   obtain ⟨a, xs, rfl, p1, q1⟩ := r1
   obtain ⟨a', ys, e', p2, q2⟩ := r2
   cases e'
   have := I.gm (aq sb p1) (aq sb p2)
   subst this
   rw [els _ _ _ h q1 q2]
  | lst h =>
   rw [aI] at r1 r2
   obtain ⟨a, xs, rfl, p1, q1⟩ := r1
   obtain ⟨a', ys, e', p2, q2⟩ := r2
   cases e'
   have := I.fy (sb.seq p1) (sb.seq p2)
   subst this
   rw [els _ _ _ h q1 q2]
theorem kO {α : Type} [BEq α] [LawfulBEq α] {a b : α} {i : Decidable (a = b)} : (a == b) = @decide (a = b) i := by
 by_cases h : a = b
 ·subst h; simp
 ·simp [h]
theorem all_range {ds es : List D} {n m : Nat} (hn : ds.length = n) (hm : es.length = m) (h : n = m) : ((List.range n).all fun j => decide (ds[j]? = es[j]?)) = decide (ds = es) := by
 rw [Bool.eq_iff_iff, List.all_eq_true]
 simp only [List.mem_range, decide_eq_true_eq]
 constructor
 ·intro q
  apply List.ext_getElem?
  intro i
  by_cases hi : i < n
  ·exact q i hi
  ·rw [List.getElem?_eq_none (by omega), List.getElem?_eq_none (by omega)]
 ·rintro rfl; intro _ _; rfl
theorem qk {x y : D} {v v' : V} {u u' : Value} {A : Around} (h : gI x y = true) (r1 : Rep X.K Hf x v) (r2 : Rep X.K Hf y v') (e1 : RelV v u) (e2 : RelV v' u') : SeqAt.EqAt A s u u' (decide (x = y)) := by
 cases x <;> cases y <;> simp [gI] at h <;> simp only [ak, bQ, aW, cU] at r1 r2 <;> subst r1 <;> subst r2
 case non.non => cases e1; cases e2; simpa using SeqAt.EqAt.same _
 case non.bl b => cases e1; cases e2; simpa using SeqAt.EqAt.none_bool (A := A) (s := s) b
 case non.int i => cases e1; obtain ⟨t, rfl⟩ := e2; simpa using SeqAt.EqAt.none_int (A := A) (s := s) i t
 case non.str i => cases e1; obtain ⟨t, rfl⟩ := e2; simpa using SeqAt.EqAt.none_str (A := A) (s := s) i t
 case bl.non b => cases e1; cases e2; simpa using SeqAt.EqAt.bool_none (A := A) (s := s) b
 case bl.bl a b => cases e1; cases e2; have q := SeqAt.EqAt.bool_bool (A := A) (s := s) a b; rw [kO (i := inferInstance)] at q; simpa using q
 case bl.str a b => cases e1; obtain ⟨t, rfl⟩ := e2; simpa using SeqAt.EqAt.bool_str (A := A) (s := s) a b t
 case int.non a => obtain ⟨t, rfl⟩ := e1; cases e2; simpa using SeqAt.EqAt.int_none (A := A) (s := s) a t
 case int.int a b => obtain ⟨t, rfl⟩ := e1; obtain ⟨t', rfl⟩ := e2; have q := SeqAt.EqAt.int_int (A := A) (s := s) a t b t'; rw [kO (i := inferInstance)] at q; simpa using q
 case int.str a b => obtain ⟨t, rfl⟩ := e1; obtain ⟨t', rfl⟩ := e2; simpa using SeqAt.EqAt.int_str (A := A) (s := s) a t b t'
 case str.non a => obtain ⟨t, rfl⟩ := e1; cases e2; simpa using SeqAt.EqAt.str_none (A := A) (s := s) a t
 case str.bl a b => obtain ⟨t, rfl⟩ := e1; cases e2; simpa using SeqAt.EqAt.str_bool (A := A) (s := s) a t b
 case str.int a b => obtain ⟨t, rfl⟩ := e1; obtain ⟨t', rfl⟩ := e2; simpa using SeqAt.EqAt.str_int (A := A) (s := s) a t b t'
 case str.str a b => obtain ⟨t, rfl⟩ := e1; obtain ⟨t', rfl⟩ := e2; have q := SeqAt.EqAt.str_str (A := A) (s := s) a t b t'; rw [kO (i := inferInstance)] at q; simpa using q
theorem in1_units (A : Around) : A.in1.units = A.units + 1 := rfl
theorem ql {ds es : List D} : decide (D.tup ds = D.tup es) = decide (ds = es) := by simp
theorem ie {ds es : List D} : decide (D.lst ds = D.lst es) = decide (ds = es) := by simp
theorem kP (I : Inv X pins σ H s) {n : Nat} {A : Around} {ds es : List D} {xs ys : List V} {us ws : List Value} (h : ∀ (i : Nat) (d e : D), ds[i]? = some d → es[i]? = some e → EqO n d e)
 (ih : ∀ (d e : D) (v v' : V) (u u' : Value) (A : Around), EqO n d e → Rep X.K Hf d v → Rep X.K Hf e v' → RelV v u → RelV v' u' → A.units + n < cLine → SeqAt.EqAt A s u u' (decide (d = e)))
 (q1 : aj X.K Hf ds xs) (q2 : aj X.K Hf es ys) (r1 : Vals xs us) (r2 : Vals ys ws) (hu : A.in1.units + n < cLine) :
 ∀ j (h1 : j < us.toArray.size) (h2 : j < ws.toArray.size), SeqAt.EqAt A.in1 s us.toArray[j] ws.toArray[j] (decide (ds[j]? = es[j]?)) := fun j h1 h2 => by
 have l1 := q1.length
 have l2 := q2.length
 have m1 := r1.length
 have m2 := r2.length
 simp only [List.size_toArray] at h1 h2
 have hd : ds[j]? = some ds[j] := List.getElem?_eq_getElem (by omega)
 have he : es[j]? = some es[j] := List.getElem?_eq_getElem (by omega)
 obtain ⟨x, ex, rx⟩ := q1.get hd
 obtain ⟨y, ey, ry⟩ := q2.get he
 obtain ⟨u, eu, ru⟩ := r1.get ex
 obtain ⟨u', eu', ru'⟩ := r2.get ey
 have z1 : us.toArray[j] = u := by
  have := List.getElem?_eq_getElem h1
  rw [this] at eu
  simpa using eu
 have z2 : ws.toArray[j] = u' := by
  have := List.getElem?_eq_getElem h2
  rw [this] at eu'
  simpa using eu'
 rw [z1, z2, hd, he]
 have q := ih _ _ x y u u' A.in1 (h j _ _ hd he) rx ry ru ru' hu
 simpa using q
theorem jX (I : Inv X pins σ H s) (sb : aC Hf H) : ∀ (n : Nat) (d e : D) (v v' : V) (u u' : Value) (A : Around), EqO n d e → Rep X.K Hf d v → Rep X.K Hf e v' → RelV v u → RelV v' u' → A.units + n < cLine → SeqAt.EqAt A s u u' (decide (d = e)) := by
 have non : ∀ (n : Nat) (d e : D) (v v' : V) (u u' : Value) (A : Around), A.units < cLine → Rep X.K Hf d v → Rep X.K Hf e v' → RelV v u → RelV v' u' →
  ((∃ ds, d = .lst ds ∧ e = .non) ∨ (∃ ds, d = .non ∧ e = .lst ds) ∨ (∃ ds, d = .tup ds ∧ e = .non) ∨ (∃ ds, d = .non ∧ e = .tup ds)) → SeqAt.EqAt A s u u' (decide (d = e)) := by
  intro n d e v v' u u' A hu r1 r2 e1 e2 h
  rcases h with ⟨ds, rfl, rfl⟩ | ⟨ds, rfl, rfl⟩ | ⟨ds, rfl, rfl⟩ | ⟨ds, rfl, rfl⟩
  ·rw [aW] at r2; subst r2; rw [aI] at r1; obtain ⟨a, xs, rfl, p, _⟩ := r1; cases e1; cases e2
   obtain ⟨its, _, q, _⟩ := I.list (sb.seq p)
   simpa using SeqAt.EqAt.list_none (A := A) q.isList hu
  ·rw [aW] at r1; subst r1; rw [aI] at r2; obtain ⟨a, xs, rfl, p, _⟩ := r2; cases e1; cases e2
   obtain ⟨its, _, q, _⟩ := I.list (sb.seq p)
   simpa using SeqAt.EqAt.none_list (A := A) q.isList hu
  ·rw [aW] at r2; subst r2; rw [aA] at r1; obtain ⟨a, xs, rfl, p, _⟩ := r1; cases e1; cases e2
   obtain ⟨its, _, q, _⟩ := I.tuple (aq sb p)
   simpa using SeqAt.EqAt.tuple_none (A := A) (show s.heap.IsTuple a its.toArray from q) hu
  ·rw [aW] at r1; subst r1; rw [aA] at r2; obtain ⟨a, xs, rfl, p, _⟩ := r2; cases e1; cases e2
   obtain ⟨its, _, q, _⟩ := I.tuple (aq sb p)
   simpa using SeqAt.EqAt.none_tuple (A := A) (show s.heap.IsTuple a its.toArray from q) hu
 intro n
 induction n with
 | zero =>
  intro d e v v' u u' A h r1 r2 e1 e2 hu
  cases h with
  | sc h => exact qk h r1 r2 e1 e2
  | ln => exact non 0 _ _ _ _ _ _ A (by omega) r1 r2 e1 e2 (.inl ⟨_, rfl, rfl⟩)
  | nl => exact non 0 _ _ _ _ _ _ A (by omega) r1 r2 e1 e2 (.inr (.inl ⟨_, rfl, rfl⟩))
  | tn => exact non 0 _ _ _ _ _ _ A (by omega) r1 r2 e1 e2 (.inr (.inr (.inl ⟨_, rfl, rfl⟩)))
  | nt => exact non 0 _ _ _ _ _ _ A (by omega) r1 r2 e1 e2 (.inr (.inr (.inr ⟨_, rfl, rfl⟩)))
 | succ n ih =>
  intro d e v v' u u' A h r1 r2 e1 e2 hu
  cases h with
  | sc h => exact qk h r1 r2 e1 e2
  | ln => exact non 0 _ _ _ _ _ _ A (by omega) r1 r2 e1 e2 (.inl ⟨_, rfl, rfl⟩)
  | nl => exact non 0 _ _ _ _ _ _ A (by omega) r1 r2 e1 e2 (.inr (.inl ⟨_, rfl, rfl⟩))
  | tn => exact non 0 _ _ _ _ _ _ A (by omega) r1 r2 e1 e2 (.inr (.inr (.inl ⟨_, rfl, rfl⟩)))
  | nt => exact non 0 _ _ _ _ _ _ A (by omega) r1 r2 e1 e2 (.inr (.inr (.inr ⟨_, rfl, rfl⟩)))
  | @tup _ ds es h =>
   have hh := EqO.tup h
   have r1' := r1; have r2' := r2
   rw [aA] at r1 r2
   obtain ⟨a, xs, rfl, p1, q1⟩ := r1
   obtain ⟨b, ys, rfl, p2, q2⟩ := r2
   cases e1; cases e2
   by_cases hab : a = b
   ·subst hab
    have := kN I sb _ _ _ _ hh r1' r2'
    rw [this]
    simpa using SeqAt.EqAt.same _
   ·obtain ⟨us, v1, t1, _⟩ := I.tuple (aq sb p1)
    obtain ⟨ws, v2, t2, _⟩ := I.tuple (aq sb p2)
    have key := SeqAt.RcAt.tuples (A := A) (s := s) (show s.heap.IsTuple a us.toArray from t1) (show s.heap.IsTuple b ws.toArray from t2) (by omega) (kP I h ih q1 q2 v1 v2 (by rw [in1_units]; omega))
    have hl1 : us.toArray.size = ds.length := by simp [← v1.length, q1.length]
    have hl2 : ws.toArray.size = es.length := by simp [← v2.length, q2.length]
    have e : ((List.range (min us.toArray.size ws.toArray.size)).all (fun j => decide (ds[j]? = es[j]?)) && us.toArray.size == ws.toArray.size) = decide (D.tup ds = D.tup es) := by
     rw [ql, hl1, hl2]
     by_cases hl : ds.length = es.length
     ·rw [hl, Nat.min_self]
      simp only [beq_self_eq_true, Bool.and_true]
      exact all_range hl rfl rfl
     ·have : ¬ ds = es := fun z => hl (by rw [z])
      simp [hl, this]
    rw [e] at key
    exact .of_refs hab key
  | @lst _ ds es h =>
   have hh := EqO.lst h
   have r1' := r1; have r2' := r2
   rw [aI] at r1 r2
   obtain ⟨a, xs, rfl, p1, q1⟩ := r1
   obtain ⟨b, ys, rfl, p2, q2⟩ := r2
   cases e1; cases e2
   by_cases hab : a = b
   ·subst hab
    have := kN I sb _ _ _ _ hh r1' r2'
    rw [this]
    simpa using SeqAt.EqAt.same _
   ·obtain ⟨us, v1, t1, _⟩ := I.list (sb.seq p1)
    obtain ⟨ws, v2, t2, _⟩ := I.list (sb.seq p2)
    have hl1 : us.toArray.size = ds.length := by simp [← v1.length, q1.length]
    have hl2 : ws.toArray.size = es.length := by simp [← v2.length, q2.length]
    by_cases hl : ds.length = es.length
    ·have key := SeqAt.RcAt.lists (A := A) (s := s) t1.isList t2.isList (by rw [hl1, hl2, hl]) (by omega) (kP I h ih q1 q2 v1 v2 (by rw [in1_units]; omega))
     rw [hl1, all_range rfl hl.symm rfl, ← ie] at key
     exact .of_refs hab key
    ·have key := SeqAt.RcAt.lists_lengths (A := A) (s := s) t1.isList t2.isList (by rw [hl1, hl2]; simpa using hl) (by omega)
     have e : decide (D.lst ds = D.lst es) = false := by
      rw [ie]; exact decide_eq_false fun z => hl (by rw [z])
     rw [e]
     exact .of_refs hab key
theorem l9 (I : Inv X pins σ H s) (sb : aC Hf H) {A : Around} (hu : A.units + 50 < cLine) {ds es : List D} {d e : D} (hk : (d = .tup ds ∧ e = .tup es) ∨ (d = .lst ds ∧ e = .lst es)) (h : jD ds es) {v v' : V} {u u' : Value}
 (r1 : Rep X.K Hf d v) (r2 : Rep X.K Hf e v') (e1 : RelV v u) (e2 : RelV v' u') : SeqAt.RcAt A s u u' (decide (d = e)) ∧ SeqAt.RcNeAt A s u u' (!decide (d = e)) := by
 have ih := jX I sb 40
 rcases hk with ⟨rfl, rfl⟩ | ⟨rfl, rfl⟩
 ·rw [aA] at r1 r2
  obtain ⟨a, xs, rfl, p1, q1⟩ := r1
  obtain ⟨b, ys, rfl, p2, q2⟩ := r2
  cases e1; cases e2
  obtain ⟨us, v1, t1, _⟩ := I.tuple (aq sb p1)
  obtain ⟨ws, v2, t2, _⟩ := I.tuple (aq sb p2)
  have els := kP (A := A) I h ih q1 q2 v1 v2 (by rw [in1_units]; omega)
  have key := SeqAt.RcAt.tuples (A := A) (s := s) (show s.heap.IsTuple a us.toArray from t1) (show s.heap.IsTuple b ws.toArray from t2) (by omega) els
  have key2 := SeqAt.RcNeAt.tuples (A := A) (s := s) (show s.heap.IsTuple a us.toArray from t1) (show s.heap.IsTuple b ws.toArray from t2) (by omega) els
  have hl1 : us.toArray.size = ds.length := by simp [← v1.length, q1.length]
  have hl2 : ws.toArray.size = es.length := by simp [← v2.length, q2.length]
  have e : ((List.range (min us.toArray.size ws.toArray.size)).all (fun j => decide (ds[j]? = es[j]?)) && us.toArray.size == ws.toArray.size) = decide (D.tup ds = D.tup es) := by
   rw [ql, hl1, hl2]
   by_cases hl : ds.length = es.length
   ·rw [hl, Nat.min_self]
    simp only [beq_self_eq_true, Bool.and_true]
    exact all_range hl rfl rfl
   ·have : ¬ ds = es := fun z => hl (by rw [z])
    simp [hl, this]
  rw [e] at key key2
  exact ⟨key, key2⟩
 ·rw [aI] at r1 r2
  obtain ⟨a, xs, rfl, p1, q1⟩ := r1
  obtain ⟨b, ys, rfl, p2, q2⟩ := r2
  cases e1; cases e2
  obtain ⟨us, v1, t1, _⟩ := I.list (sb.seq p1)
  obtain ⟨ws, v2, t2, _⟩ := I.list (sb.seq p2)
  have hl1 : us.toArray.size = ds.length := by simp [← v1.length, q1.length]
  have hl2 : ws.toArray.size = es.length := by simp [← v2.length, q2.length]
  by_cases hl : ds.length = es.length
  ·have els := kP (A := A) I h ih q1 q2 v1 v2 (by rw [in1_units]; omega)
   have key := SeqAt.RcAt.lists (A := A) (s := s) t1.isList t2.isList (by rw [hl1, hl2, hl]) (by omega) els
   have key2 := SeqAt.RcNeAt.lists (A := A) (s := s) t1.isList t2.isList (by rw [hl1, hl2, hl]) (by omega) els
   rw [hl1, all_range rfl hl.symm rfl, ← ie] at key key2
   exact ⟨key, key2⟩
  ·have key := SeqAt.RcAt.lists_lengths (A := A) (s := s) t1.isList t2.isList (by rw [hl1, hl2]; simpa using hl) (by omega)
   have key2 := SeqAt.RcNeAt.lists_lengths (A := A) (s := s) t1.isList t2.isList (by rw [hl1, hl2]; simpa using hl) (by omega)
   have e : decide (D.lst ds = D.lst es) = false := by
    rw [ie]; exact decide_eq_false fun z => hl (by rw [z])
   rw [e]
   exact ⟨key, key2⟩
end
section
variable {P : Program} {w : World} {K : PySem.W.Frag} {mg : Str → Option Value} {base : Heap} {k : Nat} {N : List Str} {sc : Scope} {bk : Bool} {c : Ctx P w K mg base k N sc bk} {ρ : List Sl} {pos : Pos} {a b : Expr} {R : D → Prop} {T : Bool → Prop}
def xV (K : PySem.W.Frag) (neg : Bool) : R2 := fun v u H Q => ∃ x y Hf, aC Hf H ∧ Rep K Hf x v ∧ Rep K Hf y u ∧ EqOk x y ∧ Q (.bl (if neg then !decide (x = y) else decide (x = y))) H
theorem AE : OpR c.X (compareOp .Eq) (xV c.X.K false) := fun pins s σ H v u v' u' Q I rv ru ⟨x, y, Hf, sb, rx, ry, ok, q⟩ => by
 rcases ok with h | ⟨ds, es, hk, hi⟩
 ·obtain ⟨z1, z2⟩ := qg h rx ry
  exact op_eq pins s σ H v u v' u' Q I rv ru ⟨z1, by rw [z2]; exact q⟩
 ·exact (l9 I sb (by have := c.room.un; omega) hk hi rx ry rv ru).1 _ _ _ _ ⟨.bl (decide (x = y)), H, I, rfl, q⟩
theorem AF : OpR c.X (compareOp .NotEq) (xV c.X.K true) := fun pins s σ H v u v' u' Q I rv ru ⟨x, y, Hf, sb, rx, ry, ok, q⟩ => by
 rcases ok with h | ⟨ds, es, hk, hi⟩
 ·obtain ⟨z1, z2⟩ := qg h rx ry
  exact op_ne pins s σ H v u v' u' Q I rv ru ⟨z1, by rw [z2]; exact q⟩
 ·exact (l9 I sb (by have := c.room.un; omega) hk hi rx ry rv ru).2 _ _ _ _ ⟨.bl (!decide (x = y)), H, I, rfl, q⟩
theorem AG {K : PySem.W.Frag} : xR K (xV K false) fun x y R => EqP x y R := fun x y v u H Hf Q R s rx ry ⟨h1, h2⟩ q => ⟨x, y, Hf, s, rx, ry, h1, q _ h2⟩
theorem AH {K : PySem.W.Frag} : xR K (xV K true) fun x y R => EqP x y fun b => R (!b) := fun x y v u H Hf Q R s rx ry ⟨h1, h2⟩ q => ⟨x, y, Hf, s, rx, ry, h1, q _ h2⟩
theorem t_eq (h : EvE c a ρ fun x => EvE c b ρ fun y => EqP x y T) : EvT c (.Compare a [.Eq] [b] pos) ρ T := uz AE AG h (om b)
theorem t_ne (h : EvE c a ρ fun x => EvE c b ρ fun y => EqP x y fun b => T (!b)) : EvT c (.Compare a [.NotEq] [b] pos) ρ T := uz AF AH h (om b)
end
end EV
set_option Elab.async false
set_option linter.all false
set_option maxRecDepth 100000
namespace EV
open PySem PySem.Spec PySem.Calls PyProof.Rows L2
section
variable {P : Program} {w : World} {K : PySem.W.Frag} {mg : Str → Option Value} {base : Heap} {k : Nat} {N : List Str} {sc : Scope} {bk : Bool} {c : Ctx P w K mg base k N sc bk} {ρ : List Sl} {pos : Pos} {a b e : Expr} {es : List Expr} {R : D → Prop} {T : Bool → Prop}
def IsN (x : D) (T : Bool → Prop) : Prop := T (decide (x = .non))
def D.row : D → Option (List D)
 | .lst ds => some ds
 | .tup ds => some ds
 | _ => none
theorem fF {K : PySem.W.Frag} {H : Hp} : ∀ {d : D} {ds : List D} {v : V}, d.row = some ds → Rep K H d v → ∃ p xs, v = .ref p ∧ aj K H ds xs ∧ ((d = .lst ds ∧ SqL K H p xs) ∨ (d = .tup ds ∧ SqT K H p xs))
 | .lst _, _, _, e, h => by cases e; rw [aI] at h; obtain ⟨p, xs, rfl, h1, h2⟩ := h; exact ⟨p, xs, rfl, h2, .inl ⟨rfl, h1⟩⟩
 | .tup _, _, _, e, h => by cases e; rw [aA] at h; obtain ⟨p, xs, rfl, h1, h2⟩ := h; exact ⟨p, xs, rfl, h2, .inr ⟨rfl, h1⟩⟩
def IxP (x y : D) (R : D → Prop) : Prop := ∃ ds i d, x.row = some ds ∧ y = .int i ∧ atI ds i = some d ∧ R d
theorem ixp_l {ds : List D} {i : Int} {d : D} {R : D → Prop} (h : atI ds i = some d) (hR : R d) : IxP (.lst ds) (.int i) R := ⟨ds, i, d, rfl, rfl, h, hR⟩
theorem qm {ds : List D} {i : Int} {d : D} {R : D → Prop} (h : atI ds i = some d) (hR : R d) : IxP (.tup ds) (.int i) R := ⟨ds, i, d, rfl, rfl, h, hR⟩
theorem uG {K : PySem.W.Frag} {H : Hp} {ds : List D} {xs : List V} {i : Int} {d : D} (h : aj K H ds xs) (e : atI ds i = some d) : ∃ x, atI xs i = some x ∧ Rep K H d x := by
 unfold atI at e ⊢
 rw [← h.length]
 obtain ⟨j, e1, e2⟩ := Option.bind_eq_some_iff.mp e
 obtain ⟨x, e3, rx⟩ := h.get e2
 exact ⟨x, by rw [e1]; exact e3, rx⟩
theorem e_ix (h : EvE c a ρ fun x => EvE c b ρ fun y => IxP x y R) (hs : ic b := by intro _ _; with_unfolding_all rfl) : EvE c (.Subscript a b pos) ρ R := fun σ H Hf Q S q =>
 bw (pe_ix (IxR.or xy Ai) pbE pbE hs) (h σ H Hf _ S fun x v H1 Hf1 h1 r1 g1 => h1 σ H1 Hf1 _ (S.grw g1) fun y u H2 Hf2 ⟨ds, i, d, e1, e2, e3, hR⟩ r2 g2 => by
  subst e2
  rw [ak] at r2; subst r2
  obtain ⟨p, xs, rfl, hr, hk⟩ := fF e1 (Rep.mono g2.f x r1)
  obtain ⟨z, ez, rz⟩ := uG hr e3
  have fin := q d z H2 Hf2 hR rz (g1.trans g2)
  rcases hk with ⟨_, hk⟩ | ⟨_, hk⟩
  ·exact .inl ⟨p, xs, i, z, rfl, rfl, g2.b.seq hk, ez, fin⟩
  ·exact .inr ⟨p, xs, i, z, rfl, rfl, aq g2.b hk, ez, fin⟩)
theorem qo {K : PySem.W.Frag} {H Hf : Hp} (sb : aC Hf H) {d : D} {ds : List D} {p : Addr} {xs : List V} (h : (d = .lst ds ∧ SqL K Hf p xs) ∨ (d = .tup ds ∧ SqT K Hf p xs)) : SqL K H p xs ∨ SqT K H p xs := h.elim (fun z => .inl (sb.seq z.2)) fun z => .inr (aq sb z.2)
theorem uH {K : PySem.W.Frag} : uD K (fun xs H Q => ∃ p ys, xs = [.ref p] ∧ (SqL K H p ys ∨ SqT K H p ys) ∧ Q (.int ys.length) H) (fun ds R => ∃ x, ds = [x] ∧ ∃ ys, x.row = some ys ∧ R (.int ys.length)) := by
 rintro ds vs H Hf Q R s rs ⟨x, rfl, ys, e, hR⟩ q
 obtain ⟨v, rfl, rv⟩ := jV rs
 obtain ⟨p, xs, rfl, hr, hk⟩ := fF e rv
 exact ⟨p, xs, rfl, qo s hk, q _ _ H Hf hR (by rw [hr.length]; exact ak.mpr rfl) (.refl s)⟩
theorem e_len {p : Pos} (hm : mg (Str.ofString "len") = none) (h : EvE c e ρ fun x => ∃ ys, x.row = some ys ∧ R (.int ys.length)) (hg : sc.names.lookup (Str.ofString "len") = some .globalImplicit := by with_unfolding_all rfl)
 (he : ∀ env, starEach [e] env = (false, eval e env) :: starEach [] env := by intro _; with_unfolding_all rfl) : EvE c (.Call (.Name (Str.ofString "len") p) [e] [] pos) ρ R :=
 jW kG uH hm PySem.boot_len (bR (h.imp fun d hd => fD ⟨d, rfl, hd⟩) he) hg (by decide) (by decide) he (by intro _; with_unfolding_all rfl)
theorem uI {p : Pos} {R : Sl → Prop} (hm : mg (Str.ofString "list") = none) (h : EvE c e ρ fun x => ∃ ys, x.row = some ys ∧ R (.ow ys)) (hg : sc.names.lookup (Str.ofString "list") = some .globalImplicit := by with_unfolding_all rfl)
 (he : ∀ env, starEach [e] env = (false, eval e env) :: starEach [] env := by intro _; with_unfolding_all rfl) : EvX c (.Call (.Name (Str.ofString "list") p) [e] [] pos) ρ R :=
 x_bty kH (q := fun ds R => ∃ x ys, ds = [x] ∧ x.row = some ys ∧ R (.ow ys)) (fun ds vs H Hf Q R s rs ⟨x, ys, e1, e2, hR⟩ q => by
  subst e1
  obtain ⟨v, rfl, rv⟩ := jV rs
  obtain ⟨p, xs, rfl, hr, hk⟩ := fF e2 rv
  exact ⟨p, xs, rfl, qo s hk, fun l hl => by
   have g2 := Grw.dZ s hl (o := .lst xs)
   exact q _ _ _ _ hR ⟨l, xs, rfl, hl, ai, s.free hl, hr⟩ g2⟩) hm PyProof.Rows.boot_list (bR (h.imp fun d ⟨ys, h1, h2⟩ => fD ⟨d, ys, rfl, h1, h2⟩) he) hg (by decide) (by decide) he (by intro _; with_unfolding_all rfl)
theorem qp {p : Pos} (hm : mg (Str.ofString "tuple") = none) (h : EvE c e ρ fun x => ∃ ys, x.row = some ys ∧ R (.tup ys)) (hg : sc.names.lookup (Str.ofString "tuple") = some .globalImplicit := by with_unfolding_all rfl)
 (he : ∀ env, starEach [e] env = (false, eval e env) :: starEach [] env := by intro _; with_unfolding_all rfl) : EvE c (.Call (.Name (Str.ofString "tuple") p) [e] [] pos) ρ R :=
 e_bty jC (q := fun ds R => ∃ x ys, ds = [x] ∧ x.row = some ys ∧ R (.tup ys)) (fun ds vs H Hf Q R s rs ⟨x, ys, e1, e2, hR⟩ q => by
  subst e1
  obtain ⟨v, rfl, rv⟩ := jV rs
  obtain ⟨p, xs, rfl, hr, hk⟩ := fF e2 rv
  rcases hk with ⟨_, hk⟩ | ⟨_, hk⟩
  ·exact ⟨p, xs, rfl, .inl ⟨s.seq hk, fun l hl => by
    have g2 := Grw.new s hl (o := .tup xs)
    exact q _ _ _ _ hR (aA.mpr ⟨l, xs, rfl, .inl (.inl ai), hr.mono g2.f⟩) g2⟩⟩
  ·exact ⟨p, xs, rfl, .inr ⟨aq s hk, q _ _ H Hf hR (aA.mpr ⟨p, xs, rfl, hk, hr⟩) (.refl s)⟩⟩) hm PyProof.Rows.boot_tuple (bR (h.imp fun d ⟨ys, h1, h2⟩ => fD ⟨d, ys, rfl, h1, h2⟩) he) hg (by decide) (by decide) he (by intro _; with_unfolding_all rfl)
def zp (K : PySem.W.Frag) : R2 := fun x y H Q => ∃ l b xs zs, x = .ref l ∧ y = .ref b ∧ SqL K H l xs ∧ SqL K H b zs ∧ xs.length + zs.length ≤ sizeLine ∧ ∀ p, H p = none → Q (.ref p) (upd H p (.lst (xs ++ zs)))
theorem xW {X : Cx} : OpR X (binaryOp .Add) (zp X.K) := by
 intro pins s σ H x y v u Q I rx ry h
 obtain ⟨l, b, xs, zs, rfl, rfl, hH, hB, hz, q⟩ := h
 cases rx
 cases ry
 obtain ⟨its, r, hl, z⟩ := I.list hH
 obtain ⟨its2, r2, hl2, z2⟩ := I.list hB
 have e1 := r.length
 have e2 := r2.length
 obtain ⟨⟨cls, dd, data, sl⟩, n, p1, p2, p3, p4⟩ := hl
 obtain ⟨⟨cls2, dd2, data2, sl2⟩, n', q1, q2, q3, q4⟩ := hl2
 simp only at p2 p3 p4 q2 q3 q4
 subst p2 p3 p4 q2 q3 q4
 have ea : its.toArray ++ its2.toArray = (its ++ its2).toArray := by simp
 refine concat_meets ⟨_, p1, rfl⟩ ⟨_, q1, rfl⟩ noFill_list_add seq_list_add PySem.F.slot_list_add PySem.F.entry_list_add (PySem.F.args_list_add_2 _ _) (list_addW l b its.toArray its2.toArray n n' none none sl sl2 (by simp; omega)) ⟨p1, q1, ?_⟩
 rw [ea]
 exact ⟨.ref _, _, I.lnew (t' := s.toks) (r.append r2) (by rw [List.length_append]; omega), rfl, q _ I.fresh⟩
def uJ (K : PySem.W.Frag) : R2 := fun x y H Q => ∃ a b xs ys, x = .ref a ∧ y = .ref b ∧ SqT K H a xs ∧ SqT K H b ys ∧ xs.length + ys.length ≤ sizeLine ∧
 (xs = [] → Q (.ref b) H) ∧ (ys = [] → Q (.ref a) H) ∧ ∀ p, H p = none → Q (.ref p) (upd H p (.tup (xs ++ ys)))
theorem uK {X : Cx} : OpR X (binaryOp .Add) (uJ X.K) := by
 intro pins s σ H x y v u Q I rx ry h
 obtain ⟨t, b, xs, ys, rfl, rfl, hH, hB, hz, c1, c2, q⟩ := h
 cases rx
 cases ry
 obtain ⟨vs, r, ht, z⟩ := I.tuple hH
 obtain ⟨ws, r2, hb, z2⟩ := I.tuple hB
 obtain ⟨⟨cls, dd, data, sl⟩, ho, hc, n, hd⟩ := id ht
 obtain ⟨⟨cls2, dd2, data2, sl2⟩, ho2, hc2, n2, hd2⟩ := id hb
 simp only at hc hd hc2 hd2
 subst hc hd hc2 hd2
 have e : vs.toArray ++ ws.toArray = (vs ++ ws).toArray := by simp
 have e1 := r.length
 have e2 := r2.length
 by_cases hv : vs = []
 ·exact concat_meets ⟨_, ho, rfl⟩ ⟨_, ho2, rfl⟩ noFill_tuple_add seq_tuple_add PySem.F.slot_tuple_add PySem.F.entry_tuple_add (PySem.F.args_tuple_add_2 _ _)
   (tuple_addW0 t b vs.toArray ws.toArray n n2 dd dd2 sl sl2 (by simp [hv])) ⟨ho, ho2, ⟨.ref b, H, I, rfl, c1 (by rw [Vals.p8 r] at hv; exact hv)⟩⟩
 ·by_cases hw : ws = []
  ·exact concat_meets ⟨_, ho, rfl⟩ ⟨_, ho2, rfl⟩ noFill_tuple_add seq_tuple_add PySem.F.slot_tuple_add PySem.F.entry_tuple_add (PySem.F.args_tuple_add_2 _ _)
    (tuple_addW1 t b vs.toArray ws.toArray n n2 dd dd2 sl sl2 (by simpa using hv) (by simp [hw])) ⟨ho, ho2, ⟨.ref t, H, I, rfl, c2 (by rw [Vals.p8 r2] at hw; exact hw)⟩⟩
  ·refine concat_meets ⟨_, ho, rfl⟩ ⟨_, ho2, rfl⟩ noFill_tuple_add seq_tuple_add PySem.F.slot_tuple_add PySem.F.entry_tuple_add (PySem.F.args_tuple_add_2 _ _)
    (tuple_addW2 t b vs.toArray ws.toArray n n2 dd dd2 sl sl2 (by simpa using hv) (by simpa using hw) (by rw [List.size_toArray, List.size_toArray]; omega)) ⟨ho, ho2, ?_⟩
   rw [e]
   refine ⟨.ref s.heap.objs.size, _, I.laid (t' := s.toks) (o := .tup (xs ++ ys)) (fun b ob q => Heap.get?_push_of_some _ q) (Nat.le_refl _) ?_, rfl, q _ (I.hok.fresh (Nat.le_refl _))⟩
   exact ⟨by rw [List.length_append]; exact hz, _, r.append r2, IsTup.new _ _⟩
inductive iN : D → D → (Sl → Prop) → Prop where
 | int {i j : Int} {R : Sl → Prop} (h : R (.va (.int (i + j)))) : iN (.int i) (.int j) R
 | lst {ds es : List D} {R : Sl → Prop} (h : Sd (ds.length + es.length ≤ sizeLine) (R (.ow (ds ++ es)))) : iN (.lst ds) (.lst es) R
 | tup {ds es : List D} {R : Sl → Prop} (h : Sd (ds.length + es.length ≤ sizeLine) (R (.va (.tup (ds ++ es))))) : iN (.tup ds) (.tup es) R
 | str {x y : Str} {R : Sl → Prop} (h : Sd (x.length + y.length ≤ sizeLine) (R (.va (.str (x ++ y))))) : iN (.str x) (.str y) R
theorem gJ {K : PySem.W.Frag} {H : Hp} {ds : List D} (h : aj K H ds []) : ds = [] := by
 have := h.length; cases ds with
 | nil => rfl
 | cons _ _ => simp at this
theorem xX {K : PySem.W.Frag} : OpD K (fun x y H Q => (((rI0 fun i j => V.int (i + j)) x y H Q ∨ zp K x y H Q) ∨ uJ K x y H Q) ∨ ∃ i j, x = .str i ∧ y = .str j ∧ i.length + j.length ≤ sizeLine ∧ Q (.str (i ++ j)) H) iN := by
 rintro x y v u H Hf Q R s rx ry h q
 cases h with
 | @int i j _ h =>
  rw [ak] at rx ry
  exact .inl (.inl (.inl ⟨i, j, rx, ry, q (.va (.int (i + j))) _ H Hf h (show Rep K Hf (.int (i + j)) _ from ak.mpr rfl) (.refl s)⟩))
 | @lst ds es _ h =>
  rw [aI] at rx ry
  obtain ⟨a, xs, rfl, h1, h2⟩ := rx
  obtain ⟨b, ys, rfl, h3, h4⟩ := ry
  refine .inl (.inl (.inr ⟨a, b, xs, ys, rfl, rfl, s.seq h1, s.seq h3, by rw [← h2.length, ← h4.length]; exact h.s, fun p hp => ?_⟩))
  exact q (.ow (ds ++ es)) _ _ _ h.r ⟨p, xs ++ ys, rfl, hp, ai, s.free hp, h2.append h4⟩ (Grw.dZ s hp)
 | @tup ds es _ h =>
  rw [aA] at rx ry
  obtain ⟨a, xs, rfl, h1, h2⟩ := rx
  obtain ⟨b, ys, rfl, h3, h4⟩ := ry
  refine .inl (.inr ⟨a, b, xs, ys, rfl, rfl, aq s h1, aq s h3, by rw [← h2.length, ← h4.length]; exact h.s, fun e => ?_, fun e => ?_, fun p hp => ?_⟩)
  ·subst e
   have := gJ h2
   subst this
   exact q (.va (.tup ([] ++ es))) _ H Hf h.r (show Rep K Hf (.tup ([] ++ es)) _ from aA.mpr ⟨b, ys, rfl, h3, h4⟩) (.refl s)
  ·subst e
   have := gJ h4
   subst this
   exact q (.va (.tup (ds ++ []))) _ H Hf h.r (show Rep K Hf (.tup (ds ++ [])) _ from aA.mpr ⟨a, xs, rfl, h1, by rw [List.append_nil]; exact h2⟩) (.refl s)
  ·have g := Grw.new s hp (o := .tup (xs ++ ys))
   exact q (.va (.tup (ds ++ es))) _ _ _ h.r (show Rep K _ (.tup (ds ++ es)) _ from aA.mpr ⟨p, xs ++ ys, rfl, .inl (.inl ai), (h2.append h4).mono g.f⟩) g
 | @str x y _ h =>
  rw [cU] at rx ry
  exact .inr ⟨x, y, rx, ry, h.s, q (.va (.str (x ++ y))) _ H Hf h.r (show Rep K Hf (.str (x ++ y)) _ from cU.mpr rfl) (.refl s)⟩
theorem zq {R : Sl → Prop} (h : EvE c a ρ fun x => EvE c b ρ fun y => iN x y R) : EvX c (.BinOp a .Add b pos) ρ R :=
 kL (OpR.or (OpR.or (OpR.or zX xW) uK) oA) xX h
def cutD {α : Type} (xs : List α) (lo hi : Option Int) : List α := (xs.drop (HT.sIx xs.length 0 lo)).take (HT.sIx xs.length xs.length hi - HT.sIx xs.length 0 lo)
theorem mh {K : PySem.W.Frag} {H : Hp} {ds : List D} {xs : List V} (h : aj K H ds xs) (lo hi : Option Int) : aj K H (cutD ds lo hi) (kE xs lo hi) := by
 unfold cutD kE
 rw [h.length]
 exact (h.drop _).take _
def bP (X : Cx) (e : Option Expr) : TO := fun σ H Q => ∀ pins s, Inv X pins σ H s → wpAny (model X.prog X.w) X.A (evalPart e X.env) (fun u s' => ∃ o H', Inv X pins σ H' s' ∧ IsPart u o ∧ Q o H') X.xe s
theorem pbP {X : Cx} {e : Option Expr} : PO X e (bP X e) := fun pins s σ H Q I h => h pins s I
def EvP (c : Ctx P w K mg base k N sc bk) (e : Option Expr) (ρ : List Sl) (R : Option Int → Prop) : Prop :=
 ∀ (σ : L2.St) (H Hf : Hp) (Q : Option Int → Hp → Prop), aL c σ H Hf ρ → (∀ o H' Hf', R o → Grw H Hf H' Hf' → Q o H') → bP c.X e σ H Q
theorem AI {R : Option Int → Prop} (h : R none) : EvP c none ρ R := fun σ H Hf Q S q pins s I => xu pins s σ H Q I (q none H Hf h (.refl S.sb))
theorem AJ {R : Option Int → Prop} (h : EvE c e ρ (I1 fun i => R (some i))) : EvP c (some e) ρ R := fun σ H Hf Q S q pins s I =>
 xw pbE pins s σ H Q I (h σ H Hf _ S fun d v H' Hf' ⟨i, e, hR⟩ r g => by subst e; rw [ak] at r; exact ⟨i, r, q _ H' Hf' hR g⟩)
def rSlTw (K : PySem.W.Frag) : V → Option Int → Option Int → Hp → VK → Prop := fun x lo hi H Q => ∃ a xs, x = .ref a ∧ SqT K H a xs ∧
 (HT.sIx xs.length 0 lo = 0 ∧ HT.sIx xs.length xs.length hi = xs.length) ∧ Q (.ref a) H
theorem d7 {prog : Program} {w : World} {A : Around} {E : Value → Shared → Prop} {s : Shared} {t sl : Addr} {items : Array Value} {vl vu : Value} {lo hi : Option Int} {Q : Value → Shared → Prop} (ht : IsTup s.heap t items) (hs : s.heap.IsSliceOf sl vl vu .none) (pl : IsPart vl lo) (pu : IsPart vu hi)
 (hw : HT.sIx items.size 0 lo = 0 ∧ HT.sIx items.size items.size hi = items.size) (h : Q (.ref t) s) : wpAny (model prog w) A (getItem (.ref t) (.ref sl)) Q E s := by
 obtain ⟨os, hos, hcs, hds⟩ := id hs
 have hTs : s.TypeIs (.ref sl) "slice" := ⟨os, hos, hcs⟩
 unfold getItem
 try with_reducible refine wpAny_holding ?_
 first | refine wpAny_bind (wpAny_pure ?_) | skip
 refine wpAny_bind (wpAny_sequenceKey ht.typeIs (by decide) ?_)
 refine wpAny_bind (wpAny_callSpecial?_slot (name := Str.ofString "__getitem__") ht.typeIs PyProof.Rows.slot_tuple_getitem
  (wpAny_call_entry PyProof.Rows.slot_tuple_getitem ht.typeIs entry_tuple_getitem ?_ (args_tuple_getitem _ _)))
 show wpAny _ _ (Builtin.Tuple.tupleItemsOf (.ref t) >>= _) _ _ s
 refine wpAny_bind (tupleItemsOf_ ht ?_)
 refine wpAny_bind (wpAny_typeOf hTs ?_)
 rw [if_pos (by decide)]
 refine wpAny_bind (HT.cM hs pl pu ?_)
 have hyes : ((((HT.sIx items.size 0 lo : Nat) : Int) == 0 && (1 : Int) == 1 && (HT.sIx items.size items.size hi - HT.sIx items.size 0 lo) == items.size) = true) := by
  rw [hw.1, hw.2]; simp
 show wpAny _ _ (if (((HT.sIx items.size 0 lo : Nat) : Int) == 0 && (1 : Int) == 1 && (HT.sIx items.size items.size hi - HT.sIx items.size 0 lo) == items.size) = true then _ else _) _ _ s
 rw [if_pos hyes]
 obtain ⟨⟨cls, dd, data, sl'⟩, ho, hc, n, hd⟩ := id ht
 simp only at hc hd
 subst hc hd
 unfold Builtin.Tuple.tupleIsExact
 wp_walk using AutoSeq1.wpAny_loadPart' ho
 exact ⟨_, rfl, wpAny_pure h⟩
theorem uL {X : Cx} : SlR X (rSlTw X.K) := by
 intro pins s σ H x v vl vu lo hi sl Q I rx hs pl pu h
 obtain ⟨a, xs, rfl, hx, hw, q⟩ := h
 cases rx
 obtain ⟨its, r, ht, hz⟩ := I.tuple hx
 have hlen : its.toArray.size = xs.length := by rw [List.size_toArray]; exact r.length.symm
 refine ⟨"tuple", _, PyProof.Rows.slot_tuple_getitem.lookup, ht.typeIs, ?_⟩
 exact d7 ht hs pl pu (by rw [hlen]; exact hw) ⟨.ref a, H, I, rfl, q⟩
inductive SlP : D → Option Int → Option Int → (Sl → Prop) → Prop where
 | lst {ds : List D} {lo hi : Option Int} {R : Sl → Prop} (h : R (.ow (cutD ds lo hi))) : SlP (.lst ds) lo hi R
 | tup {ds : List D} {lo hi : Option Int} {R : Sl → Prop} (h : R (.va (.tup (cutD ds lo hi)))) : SlP (.tup ds) lo hi R
theorem rM {α : Type} {xs : List α} {lo hi : Option Int} (h : HT.sIx xs.length 0 lo = 0 ∧ HT.sIx xs.length xs.length hi = xs.length) : cutD xs lo hi = xs := by
 unfold cutD; rw [h.1, h.2]; simp
theorem qt {lo hi : Option Expr} {p2 : Pos} {R : Sl → Prop} (h : EvE c e ρ fun x => EvP c lo ρ fun l => EvP c hi ρ fun u => SlP x l u R) : EvX c (.Subscript e (.Slice lo hi none p2) pos) ρ R := fun σ H Hf Q S q =>
 bw (tY (SlR.or (SlR.or xA Ah) uL) pbE pbP pbP) (h σ H Hf _ S fun x v H1 Hf1 h1 r1 g1 => h1 σ H1 Hf1 _ (S.grw g1) fun l H2 Hf2 h2 g2 => h2 σ H2 Hf2 _ (S.grw (g1.trans g2)) fun u H3 Hf3 h3 g3 => by
  have r3 := Rep.mono g3.f x (Rep.mono g2.f x r1)
  have g := (g1.trans g2).trans g3
  cases h3 with
  | lst h =>
   rw [aI] at r3
   obtain ⟨a, xs, rfl, k1, k2⟩ := r3
   refine .inl (.inl ⟨a, xs, rfl, g3.b.seq k1, fun p hp => ?_⟩)
   exact q _ _ _ _ h ⟨p, _, rfl, g.s.free hp, ai, g3.b.free hp, mh k2 l u⟩ (g.trans (Grw.dZ g3.b hp))
  | tup h =>
   rw [aA] at r3
   obtain ⟨a, xs, rfl, k1, k2⟩ := r3
   by_cases hw : HT.sIx xs.length 0 l = 0 ∧ HT.sIx xs.length xs.length u = xs.length
   ·refine .inr ⟨a, xs, rfl, aq g3.b k1, hw, ?_⟩
    refine q _ _ _ _ h (show Rep c.X.K Hf3 _ _ from aA.mpr ⟨a, xs, rfl, k1, ?_⟩) g
    rw [rM (by rw [k2.length]; exact hw)]; exact k2
   ·refine .inl (.inr ⟨a, xs, rfl, aq g3.b k1, hw, fun p hp => ?_⟩)
    have g4 := Grw.new g3.b hp (o := .tup (kE xs l u))
    exact q _ _ _ _ h (show Rep c.X.K _ _ _ from aA.mpr ⟨p, _, rfl, .inl (.inl ai), (mh k2 l u).mono g4.f⟩) (g.trans g4))
end
end EV
set_option Elab.async false
set_option linter.all false
set_option maxRecDepth 100000
namespace EV
open PySem PySem.Spec PySem.Calls PyProof.Rows L2
section
variable {P : Program} {w : World} {K : PySem.W.Frag} {mg : Str → Option Value} {base : Heap} {k : Nat} {N : List Str} {sc : Scope} {bk : Bool} {c : Ctx P w K mg base k N sc bk} {ρ : List Sl} {pos : Pos} {a b e : Expr} {es : List Expr} {R : D → Prop} {T : Bool → Prop}
theorem uM {H₀ Hf₀ H1 Hf1 H Hf : Hp} (a : Grw H₀ Hf₀ H1 Hf1) (b : Grw H₀ Hf1 H Hf) : Grw H₀ Hf₀ H Hf :=
 ⟨b.s, a.f.trans b.f, b.b, fun c h1 h2 h3 => b.n c (a.n c h1 h2 h3) h2 h3⟩
theorem StR.re {K : PySem.W.Frag} {H₀ Hf₀ H1 Hf1 H Hf : Hp} {σ : L2.St} {ρ : List Sl} (a : Grw H₀ Hf₀ H1 Hf1) (S : StR K H₀ Hf1 σ H Hf ρ) : StR K H₀ Hf₀ σ H Hf ρ := ⟨uM a S.bas, S.len, S.at_, S.sep⟩
theorem StR.anew {K : PySem.W.Frag} {H₀ Hf₀ H Hf : Hp} {σ : L2.St} {ρ : List Sl} (S : StR K H₀ Hf₀ σ H Hf ρ) : StR K H₀ Hf σ H Hf ρ := ⟨⟨S.bas.s, .refl _, S.bas.b, fun _ h _ _ => h⟩, S.len, S.at_, S.sep⟩
def Ctx.at_ (c : Ctx P w K mg base k N sc bk) {H1 Hf1 : Hp} (a : Grw c.B c.Hf H1 Hf1) : Ctx P w K mg base k N sc bk :=
 { X := c.X, eP := c.eP, ew := c.ew, eK := c.eK, emg := c.emg, eb := c.eb, eN := c.eN, esc := c.esc, calm := c.calm, top := c.top, cb := c.cb, fn := c.fn, room := c.room, nd := c.nd, vis := c.vis, B := c.B, Hf := Hf1, RX := c.RX, RM := c.RM, exc := fun C x pins σ H Hf' ρ s H' s' I S h X sm => c.exc C x pins σ H Hf' ρ s H' s' I (S.re a) h X sm, mde := fun C x pins σ H Hf' ρ s h' us I S h hx => c.mde C x pins σ H Hf' ρ s h' us I (S.re a) h hx }
theorem uu.at_ {nx : List Sl → Prop} {p : Pt} {D : Ends} {H1 Hf1 : Hp} (a : Grw c.B c.Hf H1 Hf1) (o : uu c nx p D) : uu (c.at_ a) nx p D :=
 ⟨fun σ H Hf ρ S q => o.nx σ H Hf ρ (StR.re a S) q, fun r v H Hf g rv q => o.rt r v H Hf (uM a g) rv q, fun σ H Hf ρ S q => o.bk σ H Hf ρ (StR.re a S) q, fun σ H Hf ρ S q => o.ct σ H Hf ρ (StR.re a S) q⟩
def bI (X : Cx) (tg iter : Expr) : TI := fun σ H R => ∀ pins s, Inv X pins σ H s → wpAny (model X.prog X.w) X.A (eval iter X.env) (fun v s1 => wpAny (model X.prog X.w) X.A (pyIter v) (PIE X pins σ tg R) X.xe s1) X.xe s
theorem pbI {X : Cx} {tg iter : Expr} : PI X tg iter (bI X tg iter) := fun pins s σ H R I h => h pins s I
structure gS (K : PySem.W.Frag) (J : It) (ds : List D) (Hf₀ : Hp) : Prop where
 go : ∀ i d H Hf, aC Hf₀ Hf → aC Hf H → ds[i]? = some d → J.go i H ∧ ∀ x H', J.yld i H x H' → ∃ Hf', Grw H Hf H' Hf' ∧ Rep K Hf' d x
 stop : ∀ i H Hf, aC Hf₀ Hf → aC Hf H → ds.length ≤ i → J.stop i H
def EvI (c : Ctx P w K mg base k N sc bk) (tg iter : Expr) (ρ : List Sl) (R : List D → Prop) : Prop :=
 ∀ (σ : L2.St) (H Hf : Hp) (Q : It → Hp → Prop), aL c σ H Hf ρ → (∀ ds J H' Hf', R ds → Grw H Hf H' Hf' → gS c.X.K J ds Hf' → Q J H') → bI c.X tg iter σ H Q
theorem rN {K : PySem.W.Frag} {ds : List D} {xs : List V} {p : Addr} {Hf₀ : Hp} (h : SqL K Hf₀ p xs) (r : aj K Hf₀ ds xs) : gS K (Itl K p) ds Hf₀ where
 go := fun i d H Hf s1 s2 e => by
  obtain ⟨x, ex, rx⟩ := r.get e
  refine ⟨⟨xs, x, (s1.trans s2).seq h, ex⟩, fun y H' ⟨e1, e2⟩ => ?_⟩
  subst e1
  have := e2 xs ((s1.trans s2).seq h)
  rw [ex] at this; cases this
  exact ⟨Hf, .refl s2, Rep.mono s1 d rx⟩
 stop := fun i H Hf s1 s2 e => ⟨xs, (s1.trans s2).seq h, by rw [← r.length]; exact e⟩
theorem uN {K : PySem.W.Frag} {ds : List D} {xs : List V} {p : Addr} {Hf₀ : Hp} (h : SqT K Hf₀ p xs) (r : aj K Hf₀ ds xs) : gS K (Itt K p) ds Hf₀ where
 go := fun i d H Hf s1 s2 e => by
  obtain ⟨x, ex, rx⟩ := r.get e
  refine ⟨⟨xs, x, aq (s1.trans s2) h, ex⟩, fun y H' ⟨e1, e2⟩ => ?_⟩
  subst e1
  have := e2 xs (aq (s1.trans s2) h)
  rw [ex] at this; cases this
  exact ⟨Hf, .refl s2, Rep.mono s1 d rx⟩
 stop := fun i H Hf s1 s2 e => ⟨xs, aq (s1.trans s2) h, by rw [← r.length]; exact e⟩
def iSeq (K : PySem.W.Frag) (tl : TE) : TI := fun σ H R => tl σ H fun x H1 => ∃ a, x = .ref a ∧ (((∃ xs, SqL K H1 a xs) ∧ R (Itl K a) H1) ∨ ((∃ xs, SqT K H1 a xs) ∧ R (Itt K a) H1))
theorem AK {X : Cx} {tg l : Expr} {tl : TE} (hl : PE X l tl) : PI X tg l (iSeq X.K tl) := by
 intro pins s σ H R I h
 refine thn (hl pins s σ H _ I h) fun v s1 ⟨x, H1, I1, r1, q1⟩ => ?_
 obtain ⟨a, e, h⟩ := q1
 subst e
 cases r1
 rcases h with ⟨⟨xs, hq⟩, q⟩ | ⟨⟨xs, hq⟩, q⟩
 ·obtain ⟨its, rv, p, hz⟩ := I1.list hq
  refine wpAny_pyIter_list p.isList ?_
  refine ⟨s1.heap.objs.size, [s1.heap.objs.size], _, _, H1, rfl, I1.kept (t' := s1.toks) fun b o e => Heap.get?_push_of_some _ e, rm a _, ⟨_, Heap.get?_push_size _ rfl, rfl, rfl⟩, fun b hb => ?_, q⟩
  have e : b = s1.heap.objs.size := by simpa using hb
  subst e
  exact I1.jy (Nat.le_refl _) (I1.hok.fresh (Nat.le_refl _))
 ·obtain ⟨its, rv, p, hz⟩ := I1.tuple hq
  refine wpAny_pyIter_tuple (show s1.heap.IsTuple a its.toArray from p) ?_
  refine ⟨s1.heap.objs.size, [s1.heap.objs.size], _, _, H1, rfl, I1.kept (t' := s1.toks) fun b o e => Heap.get?_push_of_some _ e, oh a _, ⟨_, Heap.get?_push_size _ rfl, rfl, rfl⟩, fun b hb => ?_, q⟩
  have e : b = s1.heap.objs.size := by simpa using hb
  subst e
  exact I1.jy (Nat.le_refl _) (I1.hok.fresh (Nat.le_refl _))
theorem bN {tg : Expr} {R : List D → Prop} (h : EvE c e ρ fun d => ∃ ds, d.row = some ds ∧ R ds) : EvI c tg e ρ R := fun σ H Hf Q S q pins s I =>
 AK pbE pins s σ H Q I (h σ H Hf _ S fun d v H' Hf' ⟨ds, er, hR⟩ r g => by
  obtain ⟨p, xs, rfl, hr, hk⟩ := fF er r
  refine ⟨p, rfl, ?_⟩
  rcases hk with ⟨_, hk⟩ | ⟨_, hk⟩
  ·exact .inl ⟨⟨xs, g.b.seq hk⟩, q ds _ H' Hf' hR g (rN hk hr)⟩
  ·exact .inr ⟨⟨xs, aq g.b hk⟩, q ds _ H' Hf' hR g (uN hk hr)⟩)
def mj (lo : Int) (n : Nat) : List D := (List.range n).map fun (i : Nat) => D.int (lo + (i : Int))
theorem uO {K : PySem.W.Frag} {lo : Int} {n : Nat} {Hf₀ : Hp} : gS K (Itr lo n) (mj lo n) Hf₀ where
 go := fun i d H Hf s1 s2 e => by
  unfold mj at e
  rw [List.getElem?_map] at e
  obtain ⟨j, e1, e2⟩ := Option.map_eq_some_iff.mp e
  have hi : i < n := by
   have := (List.getElem?_eq_some_iff.mp e1).1
   simpa using this
  have : j = i := by
   rw [List.getElem?_range hi] at e1; cases e1; rfl
  subst this
  refine ⟨hi, fun x H' ⟨e3, e4⟩ => ?_⟩
  subst e3 e4 e2
  exact ⟨Hf, .refl s2, ak.mpr rfl⟩
 stop := fun i H Hf s1 s2 e => by
  show n ≤ i
  simpa [mj] using e
def uP (i : Int) : Prop := -(2 ^ 62) ≤ i ∧ i < 2 ^ 62
theorem iO {tg : Expr} {p : Pos} {R : List D → Prop} (hm : mg (Str.ofString "range") = none) (h : EvE c e ρ (I1 fun j => Sd (uP j) (R (mj 0 j.toNat)))) (hg : sc.names.lookup (Str.ofString "range") = some .globalImplicit := by with_unfolding_all rfl)
 (hs : ∀ env, starEach [e] env = (false, eval e env) :: starEach [] env := by intro _; with_unfolding_all rfl) : EvI c tg (.Call (.Name (Str.ofString "range") p) [e] [] pos) ρ R := fun σ H Hf Q S q pins s I =>
 rA (by unfold Gl Env.kindOf; rw [c.esc]; exact hg) (by rw [c.emg]; exact hm) (bq pbE cF (hs _)) (hs _) pins s σ H Q I (h σ H Hf _ S fun d v H' Hf' ⟨j, ed, ⟨hj, hR⟩⟩ r g => by
  subst ed; rw [ak] at r; subst r
  exact ⟨j, rfl, hj.1, hj.2, q _ _ H' Hf' hR g uO⟩)
theorem cO {tg iter : Expr} {body : List Stmt} {nx : List Sl → Prop} {p : Pt} (hq : c.X.xe = fun _ _ => False)
 (h : EvI c tg iter ρ fun ds => ∃ I : Nat → List Sl → Prop, I 0 ρ ∧
   (∀ c' : Ctx P w K mg base k N sc bk, c'.X = c.X → c'.RX = c.RX → c'.RM = c.RM → ∀ i d ρ', ds[i]? = some d → I i ρ' → EvG c' tg d ρ' fun ρ'' => bu c' body ρ'' (I (i + 1)) { rt := p.rt, bk := nx, ct := I (i + 1) }) ∧ ∀ ρ', I ds.length ρ' → nx ρ')
 (hs : ∀ env x, foldedSetIterable iter env x = pure x := by intro _ _; with_unfolding_all rfl) : EvS c (.For tg iter body [] pos) ρ nx p := fun σ H Hf D S o =>
 cB (zW (by rw [hq]; exact PassesOwn.never) c.calm pbI pbG oN (hs _)) (h σ H Hf _ S fun ds J H1 Hf1 ⟨I, h0, hb, he⟩ g io => by
  have S1 := S.grw g
  have gb : Grw c.B c.Hf H1 Hf1 := S1.bas
  refine ⟨fun i m σ H => m = ds.length - i ∧ i ≤ ds.length ∧ ∃ Hf ρ', aL (c.at_ gb) σ H Hf ρ' ∧ I i ρ', ⟨_, rfl, Nat.zero_le _, Hf1, ρ, S1.anew, h0⟩, ?_⟩
  rintro i m σ H ⟨rfl, hi, Hf, ρ', S', hI⟩
  by_cases hlt : i < ds.length
  ·have ed : ds[i]? = some ds[i] := List.getElem?_eq_getElem hlt
   obtain ⟨hgo, hy⟩ := io.go i _ H Hf S'.bas.f S'.bas.b ed
   refine .inr ⟨hgo, fun σ' H' => ∃ Hf' ρ'', aL (c.at_ gb) σ' H' Hf' ρ'' ∧ I (i + 1) ρ'', fun σ' H' ⟨Hf', ρ'', S'', hI'⟩ => ⟨_, by omega, rfl, hlt, Hf', ρ'', S'', hI'⟩, fun x H' hx => ?_⟩
   obtain ⟨Hf', g', rx⟩ := hy x H' hx
   refine hb (c.at_ gb) rfl rfl rfl i _ ρ' ed hI σ H' Hf' x _ (S'.grw g') rx fun σ2 H2 Hf2 ρ2 S2 _ hbody => ?_
   exact hbody σ2 H2 Hf2 _ S2 ⟨fun σ H Hf ρ S q => ⟨Hf, ρ, S, q⟩, (o.at_ gb).rt, fun σ H Hf ρ S q => (o.at_ gb).nx σ H Hf ρ S q, fun σ H Hf ρ S q => ⟨Hf, ρ, S, q⟩⟩
  ·have e : i = ds.length := by omega
   subst e
   exact .inl ⟨io.stop _ H Hf S'.bas.f S'.bas.b (Nat.le_refl _), (o.at_ gb).nx σ H Hf ρ' S' (he ρ' hI)⟩)
end
end EV
set_option Elab.async false
set_option linter.all false
set_option maxRecDepth 100000
namespace EV
open PySem PySem.Spec PySem.Calls PyProof.Rows L2
section
variable {X : Cx} {pins : List (Addr × Obj)} {σ : L2.St} {H1 H' : Hp} {s1 s' : Shared} {a C t : Addr} {B h6 : Heap}
end
section
variable {X : Cx} {pins : List (Addr × Obj)} {σ : L2.St} {H : Hp} {s : Shared}
end
section
variable {P : Program} {w : World} {K : PySem.W.Frag} {mg : Str → Option Value} {base : Heap} {k : Nat} {N : List Str} {sc : Scope} {bk : Bool} {c : Ctx P w K mg base k N sc bk} {ρ : List Sl} {pos hp hpos np2 ap yp : Pos} {body : List Stmt} {nx : List Sl → Prop} {p : Pt}
end
end EV
set_option Elab.async false
set_option linter.all false
set_option maxRecDepth 100000
namespace EV
open PySem PySem.Spec PySem.Calls PyProof.Rows L2
section
variable {P : Program} {w : World} {K : PySem.W.Frag} {mg : Str → Option Value} {base : Heap} {k : Nat} {N : List Str} {sc : Scope} {bk : Bool} {c : Ctx P w K mg base k N sc bk} {ρ : List Sl} {pos : Pos} {a b e : Expr} {es : List Expr} {R : D → Prop} {T : Bool → Prop}
theorem fz_va {d : D} (h : R d) : FzP R (.va d) := ⟨d, rfl, h⟩
theorem d8 {ds : List D} (h : R (.lst ds)) : FzP R (.ow ds) := ⟨.lst ds, rfl, h⟩
theorem AL (h : EvE c a ρ fun x => EvE c b ρ fun y => iN x y (FzP R)) : EvE c (.BinOp a .Add b pos) ρ R := e_x (zq h)
theorem EvA.imp {R R' : List D → Prop} (h : EvA c es ρ R) (hi : ∀ d, R d → R' d) : EvA c es ρ R' := fun σ H Hf Q S q => h σ H Hf Q S fun d v H' Hf' rd => q d v H' Hf' (hi d rd)
theorem AM (h : EvA c es ρ fun ds => Sd (ds.length ≤ sizeLine) (R (.lst ds))) : EvE c (.List es pos) ρ R := e_x (zo (h.imp fun ds hd => ⟨hd.s, d8 hd.r⟩))
theorem uQ {lo hi : Option Expr} {p2 : Pos} (h : EvE c e ρ fun x => EvP c lo ρ fun l => EvP c hi ρ fun u => SlP x l u (FzP R)) : EvE c (.Subscript e (.Slice lo hi none p2) pos) ρ R := e_x (qt h)
theorem uR {i j : Int} {R : Sl → Prop} (h : R (.va (.int (i + j)))) : iN (.int i) (.int j) R := .int h
theorem uS {ds es : List D} {R : Sl → Prop} (h : Sd (ds.length + es.length ≤ sizeLine) (R (.ow (ds ++ es)))) : iN (.lst ds) (.lst es) R := .lst h
theorem uT {ds es : List D} {R : Sl → Prop} (h : Sd (ds.length + es.length ≤ sizeLine) (R (.va (.tup (ds ++ es))))) : iN (.tup ds) (.tup es) R := .tup h
theorem isd {d : D} {t cv : Value} {b : Bool} (ty : TyD K d t) (e : PySem.W.kitOne K t cv = some b) (h : R (.bl b)) : ∃ t b, TyD K d t ∧ PySem.W.kitOne K t cv = some b ∧ R (.bl b) := ⟨t, b, ty, e, h⟩
theorem e_ixA (h : EvE c a ρ fun x => EvE c b ρ fun y => IxP x y R) (hs : ic b := by with_unfolding_all exact fun _ _ => rfl) : EvE c (.Subscript a b pos) ρ R := e_ix h hs
theorem rowX {x : D} {ds : List D} {Q : List D → Prop} (e : x.row = some ds) (h : Q ds) : ∃ ys, x.row = some ys ∧ Q ys := ⟨ds, e, h⟩
theorem aN {F : Fn} {ds : List D} {sl : Sl} {R : Sl → Prop} (h : F ds (.ok sl)) (r : R sl) : ∃ r, F ds r ∧ RsP c ρ R r := ⟨_, h, r⟩
end
end EV
set_option Elab.async false
set_option linter.all false
set_option maxRecDepth 100000
namespace EV
open PySem PySem.Spec PySem.Calls PyProof.Rows L2
section
variable {P : Program} {w : World} {K : PySem.W.Frag} {mg : Str → Option Value} {base : Heap} {k : Nat} {N : List Str} {sc : Scope} {bk : Bool} {c : Ctx P w K mg base k N sc bk} {ρ : List Sl} {pos : Pos} {iter : Expr} {R : D → Prop}
end
end EV
set_option Elab.async false
set_option linter.all false
set_option maxRecDepth 100000
namespace EV
open PySem PySem.Spec PySem.Calls PyProof.Rows L2
def del (H : Hp) (p : Addr) : Hp := fun b => if b = p then none else H b
theorem fG {H : Hp} {p : Addr} : del H p p = none := if_pos rfl
theorem aR {H : Hp} {p b : Addr} (h : b ≠ p) : del H p b = H b := if_neg h
theorem uU {H₀ H : Hp} {p : Addr} (h : H₀ p = none) (s : aC H₀ H) : aC H₀ (del H p) := fun b o e => by
 rw [aR (au e h)]; exact s b o e
theorem fH {H : Hp} {p b : Addr} {o : HO} (h : del H p b = some o) : b ≠ p ∧ H b = some o := by
 by_cases e : b = p
 ·subst e; rw [fG] at h; cases h
 ·rw [aR e] at h; exact ⟨e, h⟩
theorem dR {H Hf : Hp} {p : Addr} {o : HO} (sb : aC Hf H) (hp : Hf p = none) : Grw (del H p) Hf (upd H p o) Hf :=
 ⟨fun b u e => by obtain ⟨h1, h2⟩ := fH e; rw [ah h1]; exact h2, .refl _, fun b u e => by rw [ah (au e hp)]; exact sb b u e, fun _ h _ _ => h⟩
section
variable {K : PySem.W.Frag} {H₀ Hf₀ H Hf H1 Hf1 : Hp} {σ : L2.St} {ρ : List Sl}
theorem aQ.jY {fr : Addr → Prop} {r : Sl} {v : V} (ho : r.owned = true) (h : aQ K fr H Hf r v) : ∃ p o, v = .ref p ∧ fr p ∧ H p = some o ∧ Hf p = none := by
 cases r with
 | un => cases ho
 | va d => cases ho
 | ow ds => obtain ⟨p, xs, rfl, f, h1, h2, _⟩ := h; exact ⟨p, _, rfl, f, h1, h2⟩
 | oT ds => obtain ⟨p, xs, rfl, f, h1, h2, _⟩ := h; exact ⟨p, _, rfl, f, h1, h2⟩
 | oK ds => obtain ⟨p, xs, rfl, f, h1, h2, _⟩ := h; exact ⟨p, _, rfl, f, h1, h2⟩
 | aw a ds => obtain ⟨p, xs, rfl, f, h1, h2, _⟩ := h; exact ⟨p, _, rfl, f.1, h1, h2⟩
 | aT a ds => obtain ⟨p, xs, rfl, f, h1, h2, _⟩ := h; exact ⟨p, _, rfl, f.1, h1, h2⟩
 | aK a ds => obtain ⟨p, xs, rfl, f, h1, h2, _⟩ := h; exact ⟨p, _, rfl, f.1, h1, h2⟩
theorem aQ.del' {fr : Addr → Prop} {r : Sl} {v : V} {p : Addr} (hv : r.owned = true → v ≠ .ref p) (h : aQ K fr H Hf r v) : aQ K fr (del H p) Hf r v := by
 cases r with
 | un => exact h
 | va d => exact h
 | ow ds => obtain ⟨q, xs, rfl, f, h1, h2⟩ := h; exact ⟨q, xs, rfl, f, by rw [aR (fun z => hv rfl (by rw [z]))]; exact h1, h2⟩
 | oT ds => obtain ⟨q, xs, rfl, f, h1, h2⟩ := h; exact ⟨q, xs, rfl, f, by rw [aR (fun z => hv rfl (by rw [z]))]; exact h1, h2⟩
 | oK ds => obtain ⟨q, xs, rfl, f, h1, h2⟩ := h; exact ⟨q, xs, rfl, f, by rw [aR (fun z => hv rfl (by rw [z]))]; exact h1, h2⟩
 | aw a ds => obtain ⟨q, xs, rfl, f, h1, h2⟩ := h; exact ⟨q, xs, rfl, f, by rw [aR (fun z => hv rfl (by rw [z]))]; exact h1, h2⟩
 | aT a ds => obtain ⟨q, xs, rfl, f, h1, h2⟩ := h; exact ⟨q, xs, rfl, f, by rw [aR (fun z => hv rfl (by rw [z]))]; exact h1, h2⟩
 | aK a ds => obtain ⟨q, xs, rfl, f, h1, h2⟩ := h; exact ⟨q, xs, rfl, f, by rw [aR (fun z => hv rfl (by rw [z]))]; exact h1, h2⟩
theorem StR.own (S : StR K H₀ Hf₀ σ H Hf ρ) {i : Nat} {r : Sl} (hi : ρ[i]? = some r) (ho : r.owned = true) : ∃ p, σ[i]? = some (some (.ref p)) ∧ aQ K (fun p => H₀ p = none) H Hf r (.ref p) := by
 obtain ⟨v, e, q⟩ := S.at_ i r hi (by rintro rfl; cases ho)
 obtain ⟨p, o, rfl, _⟩ := q.jY ho
 exact ⟨p, e, q⟩
theorem StR.upd (S : StR K H₀ Hf₀ σ H Hf ρ) {i : Nat} {r r' : Sl} {p : Addr} (hi : ρ[i]? = some r) (ho : r.owned = true) (hp : σ[i]? = some (some (.ref p))) (g : Grw (del H p) Hf H1 Hf1)
 (hr : aQ K (fun q => q = p) H1 Hf1 r' (.ref p)) (ho' : r'.owned = true) : StR K H₀ Hf₀ σ H1 Hf1 (ρ.set i r') := by
 obtain ⟨p', ep, q⟩ := S.own hi ho
 rw [hp] at ep; cases ep
 obtain ⟨_, o, e, fp, hHp, hfp⟩ := q.jY ho
 cases e
 have hlt : i < ρ.length := (List.getElem?_eq_some_iff.mp hi).1
 refine ⟨⟨(uU fp S.bas.s).trans g.s, S.bas.f.trans g.f, g.b, fun b h1 h2 h3 => ?_⟩, by simp [S.len], fun j r1 hj hu => ?_, fun j j' r1 r2 q' hne h1 h2 o1 o2 => ?_⟩
 ·have hb : b ≠ p := fun z => by subst z; exact h2 fp
  cases z : H₀ b with
  | none => exact absurd z h2
  | some o1 =>
   have e1 := S.bas.s b o1 z
   refine g.n b (S.bas.n b h1 h2 h3) (by rw [aR hb, e1]; simp) fun xs => ?_
   rw [aR hb, e1, ← z]; exact h3 xs
 ·by_cases e : j = i
  ·subst e
   rw [List.getElem?_set_self hlt] at hj; cases hj
   exact ⟨_, hp, hr.weak fun q' z => by subst z; exact fp⟩
  ·rw [List.getElem?_set_ne (Ne.symm e)] at hj
   obtain ⟨v, e1, e2⟩ := S.at_ j r1 hj hu
   exact ⟨v, e1, (e2.del' (p := p) fun ow z => by subst z; exact S.sep i j _ _ p (Ne.symm e) hi hj ho ow hp e1).grw g⟩
 ·have out : ∀ {j : Nat} {r1 : Sl}, (ρ.set i r')[j]? = some r1 → r1.owned = true → ∃ r2, ρ[j]? = some r2 ∧ r2.owned = true := fun {j r1} hj how => by
   by_cases e : j = i
   ·subst e; exact ⟨r, hi, ho⟩
   ·rw [List.getElem?_set_ne (Ne.symm e)] at hj; exact ⟨r1, hj, how⟩
  obtain ⟨r3, a1, a2⟩ := out h1 o1
  obtain ⟨r4, b1, b2⟩ := out h2 o2
  exact S.sep j j' r3 r4 q' hne a1 b1 a2 b2
end
section
variable {P : Program} {w : World} {K : PySem.W.Frag} {mg : Str → Option Value} {base : Heap} {k : Nat} {N : List Str} {sc : Scope} {bk : Bool} {c : Ctx P w K mg base k N sc bk} {ρ : List Sl} {pos ap cp px : Pos} {a b e : Expr} {es : List Expr} {R : D → Prop} {T : Bool → Prop} {nx : List Sl → Prop} {p : Pt} {x : Str} {i : Nat}
theorem Ctx.mq (c : Ctx P w K mg base k N sc bk) (hN : At N i x) (hd : (x == ("__debug__" : Str)) = false) (hcd : (x == ("__classdict__" : Str)) = false) : PE c.X (.Name x px) (tVar i) :=
 n9 (X := c.X) (i := i) (by rw [c.eN]; exact hN.get) (by rw [c.esc]; rcases c.vis x hN.mem with h | h; exact .inl h; exact .inr (.inl h)) hd hcd
def Sl.getL : Sl → Option (List D) | .ow ds => some ds | .aw _ ds => some ds | _ => none
def Sl.putL : Sl → List D → Sl | .ow _, es => .ow es | .aw a _, es => .aw a es | s, _ => s
theorem bU {r : Sl} {ds : List D} (h : r.getL = some ds) : r.owned = true := by cases r <;> first | rfl | cases h
theorem eF {r : Sl} {ds es : List D} (h : r.getL = some ds) : (r.putL es).owned = true := by cases r <;> first | rfl | cases h
theorem repL {K : PySem.W.Frag} {fr : Addr → Prop} {H Hf : Hp} {r : Sl} {ds : List D} {p : Addr} (h : r.getL = some ds) (q : aQ K fr H Hf r (.ref p)) : ∃ xs, H p = some (.lst xs) ∧ Hf p = none ∧ aj K Hf ds xs := by
 cases r with
 | ow es => cases h; obtain ⟨_, xs, e, _, h1, h2, h3⟩ := q; cases e; exact ⟨xs, h1, h2, h3⟩
 | aw a es => cases h; obtain ⟨_, xs, e, _, h1, h2, h3⟩ := q; cases e; exact ⟨xs, h1, h2, h3⟩
 | _ => cases h
theorem iP {K : PySem.W.Frag} {fr : Addr → Prop} {H Hf H1 Hf1 : Hp} {r : Sl} {ds es : List D} {p : Addr} {ys : List V} (h : r.getL = some ds) (q : aQ K fr H Hf r (.ref p)) (h1 : H1 p = some (.lst ys)) (h2 : Hf1 p = none) (h3 : aj K Hf1 es ys) :
 aQ K (fun q => q = p) H1 Hf1 (r.putL es) (.ref p) := by
 cases r with
 | ow _ => exact ⟨p, ys, rfl, rfl, h1, h2, h3⟩
 | aw a _ => obtain ⟨_, xs, e, f, _⟩ := q; cases e; exact ⟨p, ys, rfl, ⟨rfl, f.2⟩, h1, h2, h3⟩
 | _ => cases h
theorem AN {r : Sl} {ds : List D} (hN : At N i x) (hi : At ρ i r) (hr : r.getL = some ds) (h : EvE c e ρ fun d => Sd (ds.length < sizeLine) (Nx ρ i nx (r.putL (ds ++ [d]))))
 (hs : ∀ env, swapsWith (.Call (.Attribute (.Name x px) (Str.ofString "append") ap) [e] [] cp) none pos.line env = pure false := by intro _; with_unfolding_all rfl) (hd : (x == ("__debug__" : Str)) = false := by decide) (hcd : (x == ("__classdict__" : Str)) = false := by decide)
 (hbase : ∀ env, attributeBase (.Name x px) (Str.ofString "append") env (eval (.Name x px) env) = eval (.Name x px) env := by intro _; with_unfolding_all rfl)
 (hfew : ∀ env, ((backTo cp (starEach [e] env)).all (fun x => !x.1) && (backToKw cp (keywordEach [] env)).all (fun x => x.1.isSome)
   && decide (([e] : List Expr).length + ([] : List Keyword).length + (if ([] : List Keyword).isEmpty then 0 else 1) < 30)) = true := by intro _; with_unfolding_all rfl)
 (hline : (ap.endLine == cp.line) = true := by with_unfolding_all rfl) (he : ∀ env, starEach [e] env = (false, eval e env) :: starEach [] env := by intro _; with_unfolding_all rfl) (hpl : ∀ env, (backTo cp (starEach [] env)).any (·.1) = false := by intro _; with_unfolding_all rfl) :
 EvS c (.Expr (.Call (.Attribute (.Name x px) (Str.ofString "append") ap) [e] [] cp) pos) ρ nx p := fun σ H Hf D S o => by
 obtain ⟨q, eq, rq⟩ := S.own hi.get (bU hr)
 obtain ⟨xs, h1, h2, h3⟩ := repL hr rq
 refine cB (g6 (zl PySem.F.plainAttrs_list PySem.F.slot_list_append PySem.F.type_list_append gp (c.mq hN hd hcd) (bq pbE cF (he _)) (hbase _) (hfew _) hline (he _) (hpl _)) (hs _)) ⟨_, eq, .inl ⟨rfl, xs, .inl (.inl h1)⟩, ?_⟩
 refine h σ H Hf _ S fun d v H' Hf' ⟨hz, ρ', hs', hn⟩ rd g => ?_
 have S' := S.grw g
 have e1 : H' q = some (.lst xs) := g.s _ _ h1
 have e2 : Hf' q = none := g.n q h2 (by rw [h1]; simp) (by intro ys; rw [h1]; simp)
 refine ⟨q, xs, v, rfl, rfl, e1, by rw [← h3.length]; exact hz, ?_⟩
 refine o.nx _ _ Hf' ρ' ?_ hn
 rw [hs'.eq]
 have rq' := rq.grw g
 exact S'.upd hi.get (bU hr) eq (dR g.b e2) (iP hr rq' ai e2 ((h3.mono g.f).append (.one rd))) (eF hr)
end
end EV
set_option Elab.async false
set_option linter.all false
set_option maxRecDepth 100000
namespace EV
open PySem PySem.Spec PySem.Calls PyProof.Rows L2
section
variable {κ β : Type} [DecidableEq κ]
def bh (kvs : List (κ × β)) (k : κ) : Option β := (kvs.find? fun kv => decide (kv.1 = k)).map (·.2)
def putD (kvs : List (κ × β)) (k : κ) (v : β) : List (κ × β) :=
 if (bh kvs k).isSome = true then kvs.map (fun kv => if kv.1 = k then (kv.1, v) else kv) else kvs ++ [(k, v)]
theorem bH {q : κ × β} {r : List (κ × β)} {k : κ} (e : q.1 = k) : bh (q :: r) k = some q.2 := by simp [bh, List.find?_cons, e]
theorem bJ {q : κ × β} {r : List (κ × β)} {k : κ} (e : ¬ q.1 = k) : bh (q :: r) k = bh r k := by simp [bh, List.find?_cons, e]
end
def D.rP : D → Option Key | .int i => some (.inl i) | .str x => some (.inr x) | _ => none
def D.keys : List D → Option (List Key)
 | [] => some []
 | d :: r => match d.rP, D.keys r with | some k, some ks => some (k :: ks) | _, _ => none
theorem fJ {K : PySem.W.Frag} {H : Hp} {d : D} {k : Key} {v : V} (h : d.rP = some k) (r : Rep K H d v) : v = kV k := by
 cases d with
 | int i => cases h; exact ak.mp r
 | str x => cases h; exact cU.mp r
 | _ => cases h
theorem gr {K : PySem.W.Frag} {H : Hp} : ∀ {ds : List D} {ks : List Key} {xs : List V}, D.keys ds = some ks → aj K H ds xs → xs = ks.map kV
 | [], ks, xs, h, r => by cases h; rw [av.mp r]; rfl
 | d :: ds, ks, xs, h, r => by
  obtain ⟨x, t, rfl, r1, r2⟩ := az.mp r
  unfold D.keys at h
  cases e1 : d.rP with
  | none => rw [e1] at h; cases h
  | some k =>
   cases e2 : D.keys ds with
   | none => rw [e1, e2] at h; cases h
   | some ks' =>
    rw [e1, e2] at h; cases h
    rw [fJ e1 r1, gr e2 r2]; rfl
def Sl.zu : Sl → Bool | .oK _ => true | .aK _ _ => true | .oT _ => true | .aT _ _ => true | _ => false
theorem mw {r : Sl} (h : r.zu = true) : r.owned = true := by cases r <;> first | rfl | cases h
def Sl.oQ : Sl → Option (List (Key × D)) | .oK kvs => some kvs | .aK _ kvs => some kvs | _ => none
def Sl.mz : Sl → List (Key × D) → Sl | .oK _, es => .oK es | .aK a _, es => .aK a es | s, _ => s
def Sl.oR : Sl → Option (List (List Key × D)) | .oT kvs => some kvs | .aT _ kvs => some kvs | _ => none
def Sl.uV : Sl → List (List Key × D) → Sl | .oT _, es => .oT es | .aT a _, es => .aT a es | s, _ => s
theorem cV {r : Sl} {kvs : List (Key × D)} (h : r.oQ = some kvs) : r.owned = true := by cases r <;> first | rfl | cases h
theorem iQ {r : Sl} {kvs es : List (Key × D)} (h : r.oQ = some kvs) : (r.mz es).owned = true := by cases r <;> first | rfl | cases h
theorem iR {r : Sl} {kvs : List (List Key × D)} (h : r.oR = some kvs) : r.owned = true := by cases r <;> first | rfl | cases h
theorem oS {r : Sl} {kvs es : List (List Key × D)} (h : r.oR = some kvs) : (r.uV es).owned = true := by cases r <;> first | rfl | cases h
section
variable {K : PySem.W.Frag} {fr : Addr → Prop} {H Hf H1 Hf1 : Hp} {r : Sl} {p : Addr}
theorem rQ {kvs : List (Key × D)} (h : r.oQ = some kvs) (q : aQ K fr H Hf r (.ref p)) : ∃ xs, H p = some (.dK xs) ∧ Hf p = none ∧ KVR K Hf kvs xs := by
 cases r with
 | oK es => cases h; obtain ⟨_, xs, e, _, h1, h2, h3⟩ := q; cases e; exact ⟨xs, h1, h2, h3⟩
 | aK a es => cases h; obtain ⟨_, xs, e, _, h1, h2, h3⟩ := q; cases e; exact ⟨xs, h1, h2, h3⟩
 | _ => cases h
theorem xY {kvs : List (List Key × D)} (h : r.oR = some kvs) (q : aQ K fr H Hf r (.ref p)) : ∃ xs, H p = some (.dT xs) ∧ Hf p = none ∧ TVR K Hf kvs xs := by
 cases r with
 | oT es => cases h; obtain ⟨_, xs, e, _, h1, h2, h3⟩ := q; cases e; exact ⟨xs, h1, h2, h3⟩
 | aT a es => cases h; obtain ⟨_, xs, e, _, h1, h2, h3⟩ := q; cases e; exact ⟨xs, h1, h2, h3⟩
 | _ => cases h
theorem mC {kvs es : List (Key × D)} {ys : List (Key × V)} (h : r.oQ = some kvs) (q : aQ K fr H Hf r (.ref p)) (h1 : H1 p = some (.dK ys)) (h2 : Hf1 p = none) (h3 : KVR K Hf1 es ys) : aQ K (fun q => q = p) H1 Hf1 (r.mz es) (.ref p) := by
 cases r with
 | oK _ => exact ⟨p, ys, rfl, rfl, h1, h2, h3⟩
 | aK a _ => obtain ⟨_, xs, e, f, _⟩ := q; cases e; exact ⟨p, ys, rfl, ⟨rfl, f.2⟩, h1, h2, h3⟩
 | _ => cases h
theorem uW {kvs es : List (List Key × D)} {ys : List (List Key × Addr × V)} (h : r.oR = some kvs) (q : aQ K fr H Hf r (.ref p)) (h1 : H1 p = some (.dT ys)) (h2 : Hf1 p = none) (h3 : TVR K Hf1 es ys) : aQ K (fun q => q = p) H1 Hf1 (r.uV es) (.ref p) := by
 cases r with
 | oT _ => exact ⟨p, ys, rfl, rfl, h1, h2, h3⟩
 | aT a _ => obtain ⟨_, xs, e, f, _⟩ := q; cases e; exact ⟨p, ys, rfl, ⟨rfl, f.2⟩, h1, h2, h3⟩
 | _ => cases h
def uX (K : PySem.W.Frag) (Hf : Hp) : Option D → Option V → Prop
 | none, none => True
 | some d, some v => Rep K Hf d v
 | _, _ => False
theorem KVR.val {kvs : List (Key × D)} {xs : List (Key × V)} (h : KVR K Hf kvs xs) (k : Key) : uX K Hf (bh kvs k) (iJ xs k) := by
 unfold KVR at h
 induction h with
 | nil => exact True.intro
 | @cons a b as bs h t ih =>
  by_cases e : a.1 = k
  ·rw [bH e, iK (h.1.symm.trans e)]; exact h.2
  ·rw [bJ e, iL (fun z => e (h.1.trans z))]; exact ih
theorem uX.isSome {o : Option D} {u : Option V} (h : uX K Hf o u) : o.isSome = u.isSome := by
 cases o <;> cases u <;> first | rfl | exact h.elim
theorem KVR.put {kvs : List (Key × D)} {xs : List (Key × V)} (h : KVR K Hf kvs xs) (k : Key) {d : D} {v : V} (rd : Rep K Hf d v) : KVR K Hf (putD kvs k d) (putK xs k v) := by
 have e := (h.val k).isSome
 unfold putD putK
 rw [e, lX]
 by_cases q : (iJ xs k).isSome = true
 ·rw [if_pos q, if_pos q]
  unfold KVR at h ⊢
  clear e q
  induction h with
  | nil => exact .nil
  | @cons a b as bs h t ih =>
   rw [List.map_cons, List.map_cons]
   refine .cons ?_ ih
   by_cases e : a.1 = k
   ·rw [if_pos e, if_pos (h.1.symm.trans e)]; exact ⟨h.1, rd⟩
   ·rw [if_neg e, if_neg (fun z => e (h.1.trans z))]; exact h
 ·rw [if_neg q, if_neg q]; exact Paired.snoc h ⟨rfl, rd⟩
theorem TVR.val {kvs : List (List Key × D)} {xs : List (List Key × Addr × V)} (h : TVR K Hf kvs xs) (k : List Key) : uX K Hf (bh kvs k) (atT xs k) := by
 unfold TVR at h
 induction h with
 | nil => exact True.intro
 | @cons a b as bs h t ih =>
  by_cases e : a.1 = k
  ·have z : L2.atT (b :: bs) k = some b.2.2 := by simp [L2.atT, List.find?_cons, h.1.symm.trans e]
   rw [bH e, z]; exact h.2.2
  ·have z : L2.atT (b :: bs) k = L2.atT bs k := by
    have : ¬ b.1 = k := fun z => e (h.1.trans z)
    simp [L2.atT, List.find?_cons, this]
   rw [bJ e, z]; exact ih
theorem TVR.put {kvs : List (List Key × D)} {xs : List (List Key × Addr × V)} (h : TVR K Hf kvs xs) (k : List Key) {b : Addr} {d : D} {v : V} (hb : SqT K Hf b (k.map kV)) (rd : Rep K Hf d v) : TVR K Hf (putD kvs k d) (l0 xs k b v) := by
 have e := (h.val k).isSome
 unfold putD l0
 rw [e]
 by_cases q : (atT xs k).isSome = true
 ·rw [if_pos q, if_pos q]
  unfold TVR at h ⊢
  clear e q
  induction h with
  | nil => exact .nil
  | @cons a b' as bs h t ih =>
   rw [List.map_cons, List.map_cons]
   refine .cons ?_ ih
   unfold kI
   by_cases e : a.1 = k
   ·rw [if_pos e, if_pos (h.1.symm.trans e)]; exact ⟨h.1, h.2.1, rd⟩
   ·rw [if_neg e, if_neg (fun z => e (h.1.trans z))]; exact h
 ·rw [if_neg q, if_neg q]; exact Paired.snoc h ⟨rfl, hb, rd⟩
theorem TVR.uY {kvs : List (List Key × D)} {xs : List (List Key × Addr × V)} (h : TVR K Hf kvs xs) : ∀ x ∈ xs, SqT K Hf x.2.1 (x.1.map kV) := by
 unfold TVR at h
 induction h with
 | nil => intro x hx; cases hx
 | @cons a b as bs h t ih =>
  intro x hx
  rcases List.mem_cons.mp hx with e | hx
  ·subst e; rw [← h.1]; exact h.2.1
  ·exact ih x hx
inductive LkP : Sl → D → Option D → Prop
 | k {r : Sl} {kvs : List (Key × D)} {d : D} {k : Key} (h : r.oQ = some kvs) (hk : d.rP = some k) : LkP r d (bh kvs k)
 | t {r : Sl} {kvs : List (List Key × D)} {ds : List D} {k : List Key} (h : r.oR = some kvs) (hk : D.keys ds = some k) : LkP r (.tup ds) (bh kvs k)
inductive PtP : Sl → D → D → Sl → Prop
 | k {r : Sl} {kvs : List (Key × D)} {d e : D} {k : Key} (h : r.oQ = some kvs) (hk : d.rP = some k) (hz : kvs.length < sizeLine) : PtP r d e (r.mz (putD kvs k e))
 | t {r : Sl} {kvs : List (List Key × D)} {ds : List D} {e : D} {k : List Key} (h : r.oR = some kvs) (hk : D.keys ds = some k) (hz : kvs.length < sizeLine) : PtP r (.tup ds) e (r.uV (putD kvs k e))
theorem LkP.owned {d : D} {o : Option D} (h : LkP r d o) : r.owned = true := by cases h with | k h _ => exact cV h | t h _ => exact iR h
theorem PtP.owned {d e : D} {r' : Sl} (h : PtP r d e r') : r.owned = true := by cases h with | k h _ _ => exact cV h | t h _ _ => exact iR h
theorem PtP.owned' {d e : D} {r' : Sl} (h : PtP r d e r') : r'.owned = true := by cases h with | k h _ _ => exact iQ h | t h _ _ => exact oS h
theorem LkP.get {d : D} {o : Option D} {v : V} (h : LkP r d o) (q : aQ K fr H Hf r (.ref p)) (rv : Rep K Hf d v) (sb : aC Hf H) : ∃ u, kJ K H p v u ∧ uX K Hf o u := by
 cases h with
 | k h hk =>
  obtain ⟨xs, h1, _, h3⟩ := rQ h q
  rw [fJ hk rv]
  exact ⟨_, .inl ⟨xs, _, .inl h1, rfl, rfl⟩, h3.val _⟩
 | t h hk =>
  obtain ⟨xs, h1, _, h3⟩ := xY h q
  obtain ⟨a, ys, rfl, h4, h5⟩ := aA.mp rv
  have := gr hk h5
  subst this
  exact ⟨_, .inr ⟨xs, _, a, .inl h1, fun x hx => aq sb (h3.uY x hx), rfl, aq sb h4, rfl⟩, h3.val _⟩
theorem KVR.length {κ : Type} {kvs : List (κ × D)} {xs : List (κ × V)} (h : KVR K Hf kvs xs) : kvs.length = xs.length := Paired.length h
theorem TVR.length {kvs : List (List Key × D)} {xs : List (List Key × Addr × V)} (h : TVR K Hf kvs xs) : kvs.length = xs.length := Paired.length h
theorem PtP.put {d e : D} {r' : Sl} {v y : V} (h : PtP r d e r') (q : aQ K fr H Hf r (.ref p)) (rv : Rep K Hf d v) (ry : Rep K Hf e y) (sb : aC Hf H) :
 ∃ o, xC K H p v y (upd H p o) ∧ aQ K (fun q => q = p) (upd H p o) Hf r' (.ref p) := by
 cases h with
 | k h hk hz =>
  obtain ⟨xs, h1, h2, h3⟩ := rQ h q
  rw [fJ hk rv]
  exact ⟨_, .inl ⟨xs, _, h1, rfl, by rw [← h3.length]; exact hz, rfl⟩, mC h q ai h2 (h3.put _ ry)⟩
 | t h hk hz =>
  obtain ⟨xs, h1, h2, h3⟩ := xY h q
  obtain ⟨a, ys, rfl, h4, h5⟩ := aA.mp rv
  have := gr hk h5
  subst this
  exact ⟨_, .inr ⟨xs, _, a, h1, fun x hx => aq sb (h3.uY x hx), rfl, aq sb h4, by rw [← h3.length]; exact hz, rfl⟩, uW h q ai h2 (h3.put _ h4 ry)⟩
end
section
variable {P : Program} {w : World} {K : PySem.W.Frag} {mg : Str → Option Value} {base : Heap} {k : Nat} {N : List Str} {sc : Scope} {bk : Bool} {c : Ctx P w K mg base k N sc bk} {ρ : List Sl} {pos ap cp px tp : Pos} {a b e f : Expr} {es : List Expr} {R : D → Prop} {T : Bool → Prop} {nx : List Sl → Prop} {p : Pt} {x : Str} {i : Nat} {r : Sl}
theorem Ctx.hu (c : Ctx P w K mg base k N sc bk) : c.X.A.units + 1 < cLine := hu_of c.room
theorem xZ {R : Sl → Prop} (h : R (.oK [])) : EvX c (.Dict [] [] pos) ρ R := fun σ H Hf Q S q =>
 bw ue fun p hp => q (.oK []) (.ref p) _ Hf h ⟨p, [], rfl, hp, ai, S.sb.free hp, .nil⟩ (Grw.dZ S.sb hp)
theorem x6 {R : Sl → Prop} (h : R (.oT [])) : EvX c (.Dict [] [] pos) ρ R := fun σ H Hf Q S q =>
 bw uf fun p hp => q (.oT []) (.ref p) _ Hf h ⟨p, [], rfl, hp, ai, S.sb.free hp, .nil⟩ (Grw.dZ S.sb hp)
theorem AO (hN : At N i x) (hi : At ρ i r) (h : EvE c e ρ fun dk => EvE c f ρ fun df => ∃ o, LkP r dk o ∧ R (o.getD df)) (hd : (x == ("__debug__" : Str)) = false := by decide) (hcd : (x == ("__classdict__" : Str)) = false := by decide) (ho : r.zu = true := by rfl)
 (m1 : ∀ env, attributeBase (.Name x px) (Str.ofString "get") env (eval (.Name x px) env) = eval (.Name x px) env := by intro _; with_unfolding_all rfl)
 (m2 : ∀ env, ((backTo cp (starEach [e, f] env)).all (fun x => !x.1) && (backToKw cp (keywordEach [] env)).all (fun x => x.1.isSome)
   && decide (([e, f] : List Expr).length + ([] : List Keyword).length + (if ([] : List Keyword).isEmpty then 0 else 1) < 30)) = true := by intro _; with_unfolding_all rfl)
 (m3 : (ap.endLine == cp.line) = true := by with_unfolding_all rfl) (m4 : ∀ env, backTo cp (starEach [e, f] env) = [(false, eval e env), (false, eval f env)] := by intro _; with_unfolding_all rfl) :
 EvE c (.Call (.Attribute (.Name x px) (Str.ofString "get") ap) [e, f] [] cp) ρ R := fun σ H Hf Q S q => by
 obtain ⟨p, ep, rp⟩ := S.own hi.get (mw ho)
 have isd : IsD H p := by
  cases r with
  | oK kvs => obtain ⟨xs, h1, _⟩ := rQ (r := .oK kvs) rfl rp; exact .inl ⟨xs, .inl h1⟩
  | aK a kvs => obtain ⟨xs, h1, _⟩ := rQ (r := .aK a kvs) rfl rp; exact .inl ⟨xs, .inl h1⟩
  | oT kvs => obtain ⟨xs, h1, _⟩ := xY (r := .oT kvs) rfl rp; exact .inr ⟨xs, .inl h1⟩
  | aT a kvs => obtain ⟨xs, h1, _⟩ := xY (r := .aT a kvs) rfl rp; exact .inr ⟨xs, .inl h1⟩
  | _ => cases ho
 refine bw (ug c.hu (c.mq hN hd hcd) pbE pbE ⟨m1 _, m2 _, m3, m4 _⟩) ⟨_, ep, p, rfl, isd, h σ H Hf _ S fun dk v H1 Hf1 h1 rv g1 => h1 σ H1 Hf1 _ (S.grw g1) fun df y H2 Hf2 ⟨o, lk, hR⟩ ry g2 => ?_⟩
 obtain ⟨u, dg, rel⟩ := lk.get (rp.grw (g1.trans g2)) (Rep.mono g2.f _ rv) g2.b
 refine ⟨u, dg, ?_⟩
 cases o with
 | none => cases u with
  | none => exact q df y H2 Hf2 hR ry (g1.trans g2)
  | some _ => exact rel.elim
 | some d => cases u with
  | none => exact rel.elim
  | some v' => exact q d v' H2 Hf2 hR rel (g1.trans g2)
theorem AQ (hN : At N i x) (hi : At ρ i r) (h : EvE c e ρ fun dv => EvE c b ρ fun dk => ∃ r', PtP r dk dv r' ∧ Nx ρ i nx r') (ho : r.owned = true := by rfl)
 (hs : ∀ env, swapsWith e (some (.Subscript (.Name x px) b tp)) pos.line env = pure false := by intro _; with_unfolding_all rfl) (hd : (x == ("__debug__" : Str)) = false := by decide) (hcd : (x == ("__classdict__" : Str)) = false := by decide) :
 EvS c (.Assign [.Subscript (.Name x px) b tp] e pos) ρ nx p := fun σ H Hf D S o => by
 obtain ⟨p, ep, rp⟩ := S.own hi.get ho
 refine cB (xF c.hu (c.mq hN hd hcd) pbE pbE (hs _)) (h σ H Hf _ S fun dv v H1 Hf1 h1 rv g1 => ⟨_, ep, h1 σ H1 Hf1 _ (S.grw g1) fun dk y H2 Hf2 ⟨r', pt, ρ', hs', hn⟩ ry g2 => ?_⟩)
 have g := g1.trans g2
 obtain ⟨ob, dp, rp'⟩ := pt.put (rp.grw g) ry (Rep.mono g2.f _ rv) g.b
 refine ⟨p, _, rfl, dp, o.nx _ _ Hf2 ρ' ?_ hn⟩
 rw [hs'.eq]
 obtain ⟨_, _, e0, _, _, hf⟩ := (rp.grw g).jY ho
 cases e0
 exact (S.grw g).upd hi.get ho ep (dR g.b hf) rp' pt.owned'
theorem qu (hN : At N i x) (hi : At ρ i r) (h : EvE c b ρ fun dk => ∃ m : Int, LkP r dk (some (.int m)) ∧ EvE c e ρ (I1 fun j => ∃ r', PtP r dk (.int (m + j)) r' ∧ Nx ρ i nx r')) (ho : r.owned = true := by rfl)
 (ha : ∀ ov iv new, augStore b ov iv new = (do holding [new, ov, iv] (setItem ov iv new); release [new, ov, iv] []; pure .next) := by intro _ _ _; with_unfolding_all rfl) (hd : (x == ("__debug__" : Str)) = false := by decide) (hcd : (x == ("__classdict__" : Str)) = false := by decide) :
 EvS c (.AugAssign (.Subscript (.Name x px) b tp) .Add e pos) ρ nx p := fun σ H Hf D S o => by
 obtain ⟨p, ep, rp⟩ := S.own hi.get ho
 have hop : InOp c.X .Add (rI0 fun i j => .int (i + j)) := xj
 refine cB (xG c.hu (c.mq hN hd hcd) pbE pbE hop ha) ⟨_, ep, h σ H Hf _ S fun dk y H1 Hf1 ⟨m, lk, h1⟩ ry g1 => ?_⟩
 obtain ⟨u, dg, rel⟩ := lk.get (rp.grw g1) ry g1.b
 cases u with
 | none => exact rel.elim
 | some u =>
  have eu : u = V.int m := (ak (K := c.X.K) (H := Hf1)).mp rel
  subst eu
  refine ⟨p, _, rfl, dg, h1 σ H1 Hf1 _ (S.grw g1) fun dj y2 H2 Hf2 ⟨j, ej, r', pt, ρ', hs', hn⟩ ry2 g2 => ?_⟩
  subst ej
  rw [ak.mp ry2]
  have g := g1.trans g2
  obtain ⟨ob, dp, rp'⟩ := pt.put (rp.grw g) (Rep.mono g2.f _ ry) (v := y) (y := .int (m + j)) (ak.mpr rfl) g.b
  refine ⟨m, j, rfl, rfl, _, dp, o.nx _ _ Hf2 ρ' ?_ hn⟩
  rw [hs'.eq]
  obtain ⟨_, _, e0, _, _, hf⟩ := (rp.grw g).jY ho
  cases e0
  exact (S.grw g).upd hi.get ho ep (dR g.b hf) rp' pt.owned'
theorem zw (hN : At N i x) (hi : At ρ i r) (h : EvE c e ρ fun dk => ∃ o, LkP r dk o ∧ T o.isSome) (ho : r.owned = true := by rfl) (hm : behindInMarks CmpOp.In (.Name x px) = false := by with_unfolding_all rfl)
 (hd : (x == ("__debug__" : Str)) = false := by decide) (hcd : (x == ("__classdict__" : Str)) = false := by decide) : EvT c (.Compare e [.In] [.Name x px] pos) ρ T := fun σ H Hf Q S q => by
 obtain ⟨p, ep, rp⟩ := S.own hi.get ho
 refine qb (zK (Am c.hu pbE (c.mq hN hd hcd)) hm) (h σ H Hf _ S fun dk y H1 Hf1 ⟨o, lk, hT⟩ ry g => ⟨_, ep, ?_⟩)
 obtain ⟨u, dg, rel⟩ := lk.get (rp.grw g) ry g.b
 refine ⟨p, u, rfl, dg, u.isSome, rfl, q _ H1 Hf1 ?_ g⟩
 rw [← rel.isSome]; exact hT
end
end EV
set_option Elab.async false
set_option linter.all false
set_option maxRecDepth 100000
namespace EV
open PySem PySem.Spec PySem.Calls PyProof.Rows L2
abbrev noX : Value → Shared → Prop := fun _ _ => False
section
variable {prog : Program} {w : World} {A : Around} {R : Result → Shared → Prop} {s : Shared}
theorem kQ {elt target iter : Expr} {ifs : List Expr} {scope : Scope} {pos : Pos} {it acc : Value} {env : Env} (I : Nat → Shared → Prop)
 (turn : ∀ n s, I n s → wpAny (model prog w) A (pyNext it) (fun r s₁ => match r with
   | none => R (.ok .next) s₁
   | some v => wpAny (model prog w) A (letOwnedTupleGo target it v) (fun _ s₁' => wpAny (model prog w) A (assign target env v) (fun _ s₂ =>
    wpAny (model prog w) A (forIn ifs true fun c r => if r = true then do let ok ← isTrue c env (eval c env); pure (ForInStep.yield ok) else pure (ForInStep.yield r)) (fun ok s₃ =>
     if ok = true then wpAny (model prog w) A (eval elt env) (fun x s₄ =>
      wpAny (model prog w) A (call (.builtin "list.append") [acc, x]) (fun _ s₅ => ∃ m, m < n ∧ I m s₅) noX s₄) noX s₃
     else ∃ m, m < n ∧ I m s₃) noX s₂) noX s₁') noX s₁) noX s)
 (n : Nat) (h : I n s) :
 codeAny (model prog w) A (.compLoop (.ListComp elt [⟨target, iter, ifs, 0⟩] scope pos) 0 it acc env) R s := by
 refine codeAny_loop rfl I (fun n s hI => ?_) n h
 show wpAny _ A ((compTurn (.ListComp elt [⟨target, iter, ifs, 0⟩] scope pos) 0 it acc env).onRaise (fun x => do noteFrame x env; theTreesLotGoes x)) _ _ s
 refine wpAny_noted ?_
 rw [compTurn_list]
 refine wpAny_bind (wpAny_standAt (wpAny_bind (wpAny_mono (turn n s hI) (fun r s₁ h₁ => ?_) fun _ _ f => f.elim)))
 cases r with
 | none => exact wpAny_pure h₁
 | some v =>
  refine wpAny_bind (wpAny_mono h₁ (fun _ s₁' h₁' => ?_) fun _ _ f => f.elim)
  refine wpAny_bind (wpAny_mono h₁' (fun _ s₂ h₂ => wpAny_bind (wpAny_mono h₂ (fun ok s₃ h₃ => ?_) fun _ _ f => f.elim)) fun _ _ f => f.elim)
  cases ok with
  | false => exact wpAny_pure ⟨rfl, h₃⟩
  | true =>
   exact wpAny_bind (wpAny_bind (wpAny_mono h₃ (fun x s₄ h₄ => wpAny_bind (wpAny_mono h₄ (fun _ s₅ h₅ => wpAny_pure (wpAny_pure ⟨rfl, h₅⟩)) fun _ _ f => f.elim)) fun _ _ f => f.elim))
theorem gK {env : Env} {Q : Bool → Shared → Prop} {E : Value → Shared → Prop} : ∀ (ifs : List Expr), Q false s →
 wpAny (model prog w) A (forIn ifs false fun c r => if r = true then do let ok ← isTrue c env (eval c env); pure (ForInStep.yield ok) else pure (ForInStep.yield r)) Q E s
 | [], h => wpAny_pure h
 | t :: ts, h => by
  simp only [List.forIn_cons, Bool.false_eq_true, if_false]
  exact wpAny_bind (wpAny_pure (gK ts h))
theorem oU {env : Env} {Q : Bool → Shared → Prop} {E : Value → Shared → Prop} {t : Expr} {ts : List Expr}
 (h : wpAny (model prog w) A (isTrue t env (eval t env)) (fun b s' => if b = true then wpAny (model prog w) A (forIn ts true fun c r => if r = true then do let ok ← isTrue c env (eval c env); pure (ForInStep.yield ok) else pure (ForInStep.yield r)) Q E s' else Q false s') E s) :
 wpAny (model prog w) A (forIn (t :: ts) true fun c r => if r = true then do let ok ← isTrue c env (eval c env); pure (ForInStep.yield ok) else pure (ForInStep.yield r)) Q E s := by
 simp only [List.forIn_cons, if_true]
 refine wpAny_bind (wpAny_bind (wpAny_mono h (fun b s' hb => wpAny_pure ?_) fun _ _ x => x))
 cases b with
 | true => exact hb
 | false => exact gK ts hb
end
def aO (scope sc : Scope) : Scope := { scope with names := scope.names.map fun (n, k) => if (k == .free && sc.kind == .function && sc.names.lookup n == some .cell) then (n, .cell) else (n, k) }
theorem mD {scope : Scope} {env : Env} {sc : Scope} (h : env.scope = sc) : relabel scope env = aO scope sc := by
 subst h; rfl
def Sl.tag (a : Addr) : Sl → Sl
 | .ow ds => .aw a ds | .oT ds => .aT a ds | .oK ds => .aK a ds
 | .aw b ds => .aw b ds | .aT b ds => .aT b ds | .aK b ds => .aK b ds
 | .un => .un | .va d => .va d
inductive FrS (t : Str → Addr) (nm : List (Str × NameKind)) (N : List Str) (ρ : List Sl) : List Str → List Sl → Prop
 | nil : FrS t nm N ρ [] []
 | un {y : Str} {M : List Str} {r : List Sl} : FrS t nm N ρ M r → FrS t nm N ρ (y :: M) (.un :: r)
 | fr {y : Str} {i : Nat} {s s' : Sl} {M : List Str} {r : List Sl} (hN : At N i y) (hs : At ρ i s) (hy : (y, NameKind.free) ∈ nm) (ht : s.tag (t y) = s') : FrS t nm N ρ M r → FrS t nm N ρ (y :: M) (s' :: r)
theorem FrS.len {t : Str → Addr} {nm : List (Str × NameKind)} {N M : List Str} {ρ r : List Sl} (h : FrS t nm N ρ M r) : M.length = r.length := by
 induction h with
 | nil => rfl
 | un t ih => simp [ih]
 | fr hN hs hy ht t ih => simp [ih]
inductive WkS : List Sl → List Sl → Prop
 | nil : WkS [] []
 | un {r : Sl} {a b : List Sl} : WkS a b → WkS (.un :: a) (r :: b)
 | same {r : Sl} {a b : List Sl} : WkS a b → WkS (r :: a) (r :: b)
theorem WkS.weak {a b : List Sl} (h : WkS a b) : a.length = b.length ∧ ∀ (i : Nat) (r : Sl), a[i]? = some r → r ≠ .un → b[i]? = some r := by
 induction h with
 | nil => exact ⟨rfl, fun i r e => by simp at e⟩
 | un t ih => exact ⟨by simp [ih.1], fun i r e hu => by cases i with | zero => simp at e; exact absurd e.symm hu | succ i => simpa using ih.2 i r (by simpa using e) hu⟩
 | same t ih => exact ⟨by simp [ih.1], fun i r e hu => by cases i with | zero => simpa using e | succ i => simpa using ih.2 i r (by simpa using e) hu⟩
section
variable {P : Program} {w : World} {K : PySem.W.Frag} {mg : Str → Option Value} {base : Heap} {k : Nat} {N : List Str} {sc : Scope} {bk : Bool} {c : Ctx P w K mg base k N sc bk} {ρ : List Sl} {pos : Pos} {e : Expr} {R : D → Prop} {T : Bool → Prop}
def EvC (c : Ctx P w K mg base k N sc bk) : List Expr → List Sl → (Bool → Prop) → Prop
 | [], _, T => T true
 | t :: ts, ρ, T => EvT c t ρ (If2 (EvC c ts ρ T) (T false))
theorem jZ (hq : c.X.xe = noX) {pins : List (Addr × Obj)} {σ : L2.St} {Q : Bool → Hp → Prop} : ∀ (ifs : List Expr) {H Hf : Hp} {s : Shared}, aL c σ H Hf ρ → EvC c ifs ρ T → (∀ b H' Hf', T b → Grw H Hf H' Hf' → Q b H') → Inv c.X pins σ H s →
 wpAny (model c.X.prog c.X.w) c.X.A (forIn ifs true fun t r => if r = true then do let ok ← isTrue t c.X.env (eval t c.X.env); pure (ForInStep.yield ok) else pure (ForInStep.yield r)) (TP c.X pins σ Q) noX s
 | [], H, Hf, s, S, h, q, I => wpAny_tests_nil ⟨H, I, q true H Hf h (.refl S.sb)⟩
 | t :: ts, H, Hf, s, S, h, q, I => by
  have h0 := h σ H Hf (fun b H' => ∃ Hf', If2 (EvC c ts ρ T) (T false) b ∧ Grw H Hf H' Hf') S (fun b H' Hf' hb g => ⟨Hf', hb, g⟩) pins s I
  rw [hq] at h0
  refine oU (thn h0 fun b s' ⟨H', I', Hf', hb, g⟩ => ?_)
  cases b with
  | true => exact jZ hq ts (S.grw g) (hb.t rfl) (fun b H2 Hf2 hT g2 => q b H2 Hf2 hT (g.trans g2)) I'
  | false => exact ⟨H', I', q false H' Hf' (hb.f rfl) g⟩
end
end EV
set_option Elab.async false
set_option linter.all false
set_option maxRecDepth 100000
namespace EV
open PySem PySem.Spec PySem.Calls PyProof.Rows L2
theorem iS {env : Env} : ∀ (names : List (Str × NameKind)) (cs : List (Str × Addr)), (∀ x ∈ names, x.2 = .free → ∃ a, env.cells.lookup x.1 = some a) →
 ∃ cl, (forIn names cs (fun (x : Str × NameKind) (r : List (Str × Addr)) => (if (x.2 == NameKind.free) = true then do let a ← cellOf env x.1; pure (ForInStep.yield ((x.1, a) :: r)) else pure (ForInStep.yield r) : Sem (ForInStep (List (Str × Addr)))))) = (pure cl : Sem (List (Str × Addr))) ∧
  (∀ y a, cl.lookup y = some a → cs.lookup y = some a ∨ env.cells.lookup y = some a ∧ (y, NameKind.free) ∈ names) ∧ (∀ y a, (y, NameKind.free) ∈ names ∨ (∃ b, cs.lookup y = some b ∧ env.cells.lookup y = some b) → env.cells.lookup y = some a → cl.lookup y = some a)
 | [], cs, _ => ⟨cs, rfl, fun y a e => .inl e, fun y a h e => by
  rcases h with h | ⟨b, h1, h2⟩
  ·cases h
  ·rw [e] at h2; cases h2; exact h1⟩
 | (n, kd) :: r, cs, h => by
  by_cases hk : kd = .free
  ·subst hk
   obtain ⟨a, ea⟩ := h (n, .free) List.mem_cons_self rfl
   obtain ⟨cl, e1, e2, e3⟩ := iS r ((n, a) :: cs) fun x hx => h x (List.mem_cons_of_mem _ hx)
   refine ⟨cl, ?_, fun y b e => ?_, fun y b hy e => ?_⟩
   ·rw [List.forIn_cons]
    simp only [beq_self_eq_true, if_true, cellOf, ea, pure_bind]
    exact e1
   ·rcases e2 y b e with z | ⟨z1, z2⟩
    ·rw [List.lookup_cons] at z
     cases q : (y == n) with
     | true =>
      rw [q] at z; cases z
      have : y = n := by simpa using q
      subst this
      exact .inr ⟨ea, List.mem_cons_self⟩
     | false => rw [q] at z; exact .inl z
    ·exact .inr ⟨z1, List.mem_cons_of_mem _ z2⟩
   ·refine e3 y b ?_ e
    rcases hy with hy | ⟨b', h1, h2⟩
    ·rcases List.mem_cons.mp hy with z | z
     ·cases z; exact .inr ⟨a, by simp, ea⟩
     ·exact .inl z
    ·refine .inr ⟨b', ?_, h2⟩
     rw [List.lookup_cons]
     cases q : (y == n) with
     | true =>
      have : y = n := by simpa using q
      subst this
      rw [ea] at h2; exact h2
     | false => exact h1
  ·have hb : (kd == NameKind.free) = false := by simpa using hk
   obtain ⟨cl, e1, e2, e3⟩ := iS r cs fun x hx => h x (List.mem_cons_of_mem _ hx)
   refine ⟨cl, ?_, fun y b e => ?_, fun y b hy e => ?_⟩
   ·rw [List.forIn_cons]
    simp only [hb, Bool.false_eq_true, if_false, pure_bind]
    exact e1
   ·rcases e2 y b e with z | ⟨z1, z2⟩
    ·exact .inl z
    ·exact .inr ⟨z1, List.mem_cons_of_mem _ z2⟩
   ·refine e3 y b ?_ e
    rcases hy with hy | hy
    ·rcases List.mem_cons.mp hy with z | z
     ·cases z; exact absurd rfl hk
     ·exact .inl z
    ·exact .inr hy
theorem x8 {scope : Scope} {env : Env} (h : ∀ x ∈ scope.names, x.2 = .free → ∃ a, env.cells.lookup x.1 = some a) :
 ∃ cl, closureFor scope env = pure cl ∧ (∀ y a, cl.lookup y = some a → env.cells.lookup y = some a ∧ (y, NameKind.free) ∈ scope.names) ∧ (∀ y a, (y, NameKind.free) ∈ scope.names → env.cells.lookup y = some a → cl.lookup y = some a) := by
 obtain ⟨cl, e1, e2, e3⟩ := iS scope.names [] h
 refine ⟨cl, ?_, fun y a e => ?_, fun y a hy e => e3 y a (.inl hy) e⟩
 ·unfold closureFor
  have e1' := congrArg (· >>= fun cs => (pure cs : Sem _)) e1
  simp only [pure_bind] at e1'
  exact e1'
 ·rcases e2 y a e with z | z
  ·simp at z
  ·exact z
end EV
set_option Elab.async false
set_option linter.all false
set_option maxRecDepth 100000
namespace EV
open PySem PySem.Spec PySem.Calls PyProof.Rows L2
section
variable {P : Program} {w : World} {K : PySem.W.Frag} {mg : Str → Option Value} {base : Heap} {k : Nat} {N : List Str} {sc : Scope} {bk : Bool} {c : Ctx P w K mg base k N sc bk} {ρ : List Sl} {pos : Pos}
def qv (c : Ctx P w K mg base k N sc bk) (tg : Expr) (ifs : List Expr) (elt : Expr) (ρ0 : List Sl) (d : D) (o : Option D) : Prop :=
 EvG c tg d ρ0 fun ρ1 => WkS ρ0 ρ1 ∧ EvC c ifs ρ1 (If2 (EvE c elt ρ1 fun e => o = some e) (o = none))
theorem fK {nm : List (Str × NameKind)} {sc : Scope} : ∀ {y : Str} {kd : NameKind}, (nm.map fun (x : Str × NameKind) => match x with | (n, k) => (if (k == .free && sc.kind == .function && sc.names.lookup n == some .cell) = true then (n, NameKind.cell) else (n, k))).lookup y = some kd → ∃ k0, (y, k0) ∈ nm ∧ (kd = k0 ∨ kd = .cell ∧ k0 = .free) := by
 induction nm with
 | nil => intro y kd h; simp at h
 | cons x r ih =>
  obtain ⟨n, k0⟩ := x
  intro y kd h
  rw [List.map_cons, List.lookup_cons] at h
  by_cases e : (k0 == .free && sc.kind == .function && sc.names.lookup n == some .cell) = true
  ·simp only [e, if_true] at h
   cases q : (y == n) with
   | true =>
    rw [q] at h; cases h
    have : y = n := by simpa using q
    subst this
    have hf : k0 = .free := by simp only [Bool.and_eq_true, beq_iff_eq] at e; exact e.1.1
    exact ⟨k0, List.mem_cons_self, .inr ⟨rfl, hf⟩⟩
   | false => rw [q] at h; obtain ⟨k1, h1, h2⟩ := ih h; exact ⟨k1, List.mem_cons_of_mem _ h1, h2⟩
  ·simp only [e, Bool.false_eq_true, if_false] at h
   cases q : (y == n) with
   | true =>
    rw [q] at h; cases h
    have : y = n := by simpa using q
    subst this
    exact ⟨k0, List.mem_cons_self, .inl rfl⟩
   | false => rw [q] at h; obtain ⟨k1, h1, h2⟩ := ih h; exact ⟨k1, List.mem_cons_of_mem _ h1, h2⟩
theorem FrS.start {t : Str → Addr} {nm : List (Str × NameKind)} {N M : List Str} {ρ r : List Sl} {σ : L2.St} (h : FrS t nm N ρ M r) (hσ : ∀ (i : Nat) (s : Sl), ρ[i]? = some s → s ≠ .un → ∃ v, σ[i]? = some (some v)) :
 ∃ σ0 : L2.St, σ0.length = r.length ∧ ∀ (j : Nat) (s : Sl), r[j]? = some s → (s = .un ∧ σ0[j]? = some none) ∨ ∃ (i : Nat) (y : Str) (v : V) (s0 : Sl), M[j]? = some y ∧ (y, NameKind.free) ∈ nm ∧ N[i]? = some y ∧ ρ[i]? = some s0 ∧ s = s0.tag (t y) ∧ s0 ≠ .un ∧ σ[i]? = some (some v) ∧ σ0[j]? = some (some v) := by
 induction h with
 | nil => exact ⟨[], rfl, fun j s e => by simp at e⟩
 | un t ih =>
  obtain ⟨σ0, hl, h0⟩ := ih
  refine ⟨none :: σ0, by simp [hl], fun j s e => ?_⟩
  cases j with
  | zero => simp at e; exact .inl ⟨e.symm, by simp⟩
  | succ j =>
   rcases h0 j s (by simpa using e) with ⟨h1, h2⟩ | ⟨i, y, v, s0, h1, h2, h3, h4, h5, h6, h7, h8⟩
   ·exact .inl ⟨h1, by simpa using h2⟩
   ·exact .inr ⟨i, y, v, s0, by simpa using h1, h2, h3, h4, h5, h6, h7, by simpa using h8⟩
 | @fr y i s' s'' M r hN hs hy ht t ih =>
  obtain ⟨σ0, hl, h0⟩ := ih
  by_cases hu : s' = .un
  ·refine ⟨none :: σ0, by simp [hl], fun j s e => ?_⟩
   cases j with
   | zero => simp at e; subst hu; exact .inl ⟨e.symm.trans ht.symm, by simp⟩
   | succ j =>
    rcases h0 j s (by simpa using e) with ⟨h1, h2⟩ | ⟨i, y, v, s0, h1, h2, h3, h4, h5, h6, h7, h8⟩
    ·exact .inl ⟨h1, by simpa using h2⟩
    ·exact .inr ⟨i, y, v, s0, by simpa using h1, h2, h3, h4, h5, h6, h7, by simpa using h8⟩
  ·obtain ⟨v, ev⟩ := hσ i s' hs.get hu
   refine ⟨some v :: σ0, by simp [hl], fun j s e => ?_⟩
   cases j with
   | zero => simp at e; subst e; exact .inr ⟨i, y, v, s', by simp, hy, hN.get, hs.get, ht.symm, hu, ev, by simp⟩
   | succ j =>
    rcases h0 j s (by simpa using e) with ⟨h1, h2⟩ | ⟨i, y, v, s0, h1, h2, h3, h4, h5, h6, h7, h8⟩
    ·exact .inl ⟨h1, by simpa using h2⟩
    ·exact .inr ⟨i, y, v, s0, by simpa using h1, h2, h3, h4, h5, h6, h7, by simpa using h8⟩
def Sl.adr : Sl → Option Addr | .aw a _ => some a | .aT a _ => some a | .aK a _ => some a | _ => none
theorem j0 {s : Sl} {a : Addr} : (s.tag a).owned = s.owned := by cases s <;> rfl
theorem x9 {s : Sl} {a : Addr} (h : s.owned = true) : ∃ b, (s.tag a).adr = some b := by cases s <;> first | exact ⟨_, rfl⟩ | cases h
theorem qw {K : PySem.W.Frag} {fr : Addr → Prop} {H Hf : Hp} {s : Sl} {v : V} {a : Addr} (hv : s.owned = true → v = .ref a) (h : aQ K fr H Hf s v) : aQ K fr H Hf (s.tag a) v := by
 cases s with
 | ow ds => obtain ⟨p, xs, e, f, r⟩ := h; exact ⟨p, xs, e, ⟨f, by have := hv rfl; rw [e] at this; cases this; rfl⟩, r⟩
 | oT ds => obtain ⟨p, xs, e, f, r⟩ := h; exact ⟨p, xs, e, ⟨f, by have := hv rfl; rw [e] at this; cases this; rfl⟩, r⟩
 | oK ds => obtain ⟨p, xs, e, f, r⟩ := h; exact ⟨p, xs, e, ⟨f, by have := hv rfl; rw [e] at this; cases this; rfl⟩, r⟩
 | _ => exact h
theorem qx {K : PySem.W.Frag} {fr : Addr → Prop} {H Hf : Hp} {s : Sl} {p b : Addr} (hb : s.adr = some b) (h : aQ K fr H Hf s (.ref p)) : p = b := by
 cases s with
 | aw a ds => cases hb; obtain ⟨q, xs, e, f, r⟩ := h; cases e; exact f.2
 | aT a ds => cases hb; obtain ⟨q, xs, e, f, r⟩ := h; cases e; exact f.2
 | aK a ds => cases hb; obtain ⟨q, xs, e, f, r⟩ := h; cases e; exact f.2
 | _ => cases hb
theorem StR.apart {K : PySem.W.Frag} {H₀ Hf₀ H Hf : Hp} {σ : L2.St} {ρ : List Sl} {a : Addr} {o : HO} (S : StR K H₀ Hf₀ σ H Hf ρ) (h0 : H₀ a = none) (hf : Hf a = none) (ha : ∀ (i : Nat) (r : Sl), ρ[i]? = some r → r.owned = true → σ[i]? ≠ some (some (.ref a))) : StR K H₀ Hf₀ σ (L2.upd H a o) Hf ρ :=
 ⟨⟨fun b u e => by rw [L2.ah (au e h0)]; exact S.bas.s b u e, S.bas.f, fun b u e => by rw [L2.ah (au e hf)]; exact S.bas.b b u e, S.bas.n⟩, S.len, fun i r hi hu => by
   obtain ⟨v, e, q⟩ := S.at_ i r hi hu
   refine ⟨v, e, ?_⟩
   have hg : Grw (del H a) Hf (L2.upd H a o) Hf := dR S.bas.b hf
   exact (q.del' (p := a) fun ow z => by subst z; exact ha i r hi ow e).grw hg, S.sep⟩
theorem qy {H1 Hf1 H' Hf' : Hp} {a : Addr} {o : HO} (g : Grw H1 Hf1 H' Hf') (h1 : H1 a = none) (hf : Hf' a = none) : Grw H1 Hf1 (upd H' a o) Hf' :=
 ⟨fun b u e => by rw [ah (au e h1)]; exact g.s b u e, g.f, fun b u e => by rw [ah (au e hf)]; exact g.b b u e, g.n⟩
theorem qz {elt tg iter : Expr} {ifs : List Expr} {scope : Scope} {N' : List Str} {ρ0 : (Str → Addr) → List Sl} {R : Sl → Prop} (hq : c.X.xe = noX) (hfr : ∀ t, FrS t scope.names N ρ N' (ρ0 t))
 (h : EvI c tg iter ρ fun ds => Sd (ds.length ≤ sizeLine) (∃ os : List (Option D), os.length = ds.length ∧
   (∀ c' : Ctx P w K mg base k N' (aO scope sc) true, c'.X.xe = noX → ∀ (t : Str → Addr) (i : Nat) (d : D) (o : Option D), ds[i]? = some d → os[i]? = some o → qv c' tg ifs elt (ρ0 t) d o) ∧ R (.ow (os.filterMap id))))
 (hk : scope.kind = .function := by with_unfolding_all rfl) (hnc : ∀ x ∈ scope.names, x.2 ≠ .cell := by decide +kernel) (hnl : ∀ x ∈ scope.names, x.2 = .local → scope.names.lookup x.1 = some .local := by decide +kernel)
 (hfree : ∀ x ∈ scope.names, x.2 = .free → sc.names.lookup x.1 = some .cell := by decide +kernel) (hnd : N'.Nodup := by decide +kernel) (hv : ∀ x ∈ N', Loc (aO scope sc) x := by unfold L2.Loc; decide +kernel)
 (hvf : ∀ x ∈ scope.names, x.2 = .free → (aO scope sc).names.lookup x.1 = some .cell := by decide +kernel)
 (hs : ∀ env v, foldedSetIterable iter env v = pure v := by intro _ _; with_unfolding_all rfl)
 {σ : L2.St} {H Hf : Hp} (S : aL c σ H Hf ρ) {pins : List (Addr × Obj)} {s : Shared} (I : Inv c.X pins σ H s) {use : Option (Value → Sem Unit)} {QQ : Value → Shared → Prop}
 (kont : ∀ (s' : Shared) (H' Hf' : Hp) (a C : Addr) (r : Sl), R r → (∃ m, s'.heap.Ns C m) → C ∉ c.X.fs → cS c.X pins H' C → aQ c.X.K (fun p => H p = none) H' Hf' r (.ref a) → Grw H Hf H' Hf' → (∀ h5, Heap.SameBut C s'.heap h5 → Inv c.X pins σ H' { s' with heap := h5 }) → compPost (model c.X.prog c.X.w) c.X.A noX use QQ (.ref a) C (.ok .next) s') :
 wpAny (model c.X.prog c.X.w) c.X.A (comprehension (.ListComp elt [⟨tg, iter, ifs, 0⟩] scope pos) scope c.X.env (firstIterPos [⟨tg, iter, ifs, 0⟩] pos) (newList []) (firstAsync [⟨tg, iter, ifs, 0⟩]) (firstIter [⟨tg, iter, ifs, 0⟩] c.X.env) use) QQ noX s := by
 have hI := h σ H Hf (fun J H1 => ∃ ds Hf1, Sd (ds.length ≤ sizeLine) (∃ os : List (Option D), os.length = ds.length ∧
  (∀ c' : Ctx P w K mg base k N' (aO scope sc) true, c'.X.xe = noX → ∀ (t : Str → Addr) (i : Nat) (d : D) (o : Option D), ds[i]? = some d → os[i]? = some o → qv c' tg ifs elt (ρ0 t) d o) ∧ R (.ow (os.filterMap id))) ∧ Grw H Hf H1 Hf1 ∧ gS c.X.K J ds Hf1) S (fun ds J H' Hf' hR g io => ⟨ds, Hf', hR, g, io⟩) pins s I
 rw [hq] at hI
 have hcells : ∀ x ∈ scope.names, x.2 = .free → ∃ a, c.X.env.cells.lookup x.1 = some a := fun x hx hf => I.ok.has x.1 (.inl (by unfold Env.kindOf; rw [c.esc]; exact hfree x hx hf))
 obtain ⟨cl, hclos, hcl1, hcl2⟩ := x8 hcells
 refine wpAny_comprehension_free (cl := cl) (use := use) rfl (hs _) hclos hk hnl ?_
 refine thn (show wpAny _ _ (eval iter c.X.env) _ _ _ from hI) fun v s1 h1 => thn h1 fun itv s2 ⟨it, fp, tn, J, H1, e0, I1, Tn, t0, hfp, ds, Hf1, ⟨hz, os, hol, hb, hR⟩, g, io⟩ => ?_
 subst e0
 have hcell' : ∀ y ∈ scope.names, y.2 ≠ .cell := hnc
 refine wpAny_newObj_type (wpAny_newFunctionEnv hcell' (by intro y hy; simp at hy) (fun h4 hns hsb => ?_) hk)
 dsimp only at hns hsb ⊢
 generalize hDe : s2.heap.objs.size = Da at *
 have k3 : ∀ b u, s2.heap.get? b = some u → (s2.heap.push { cls := .type "list", dict := none, data := .seq ([] : List Value).toArray }).get? b = some u := fun b u e => Heap.get?_push_of_some _ e
 generalize hH3 : s2.heap.push { cls := .type "list", dict := none, data := .seq ([] : List Value).toArray } = h3 at *
 have hCe : h3.objs.size = Da + 1 := by rw [← hH3, Heap.size_push, hDe]
 have hgD : h3.get? Da = some { cls := .type "list", dict := none, data := .seq ([] : List Value).toArray } := by rw [← hH3, ← hDe]; exact Heap.get?_push_size _ rfl
 have hH1D : H1 Da = none := by rw [← hDe]; exact I1.hok.fresh (Nat.le_refl _)
 have I3 : Inv c.X pins σ (upd H1 Da (.lst [])) { s2 with heap := h3, toks := s2.toks } := I1.laid (a := Da) (o := .lst []) (t' := s2.toks) k3 (by rw [hDe]; exact Nat.le_refl _) ⟨Nat.zero_le _, [], 0, .nil, hgD⟩
 have fpne : ∀ b ∈ fp, b ≠ Da := fun b hb z => by
  obtain ⟨o, e, _⟩ := Tn.obj _ _ t0 b hb
  subst z
  exact absurd (Heap.lt_size e) (by rw [hDe]; exact Nat.lt_irrefl _)
 have fplt : ∀ b ∈ fp, b < h3.objs.size := fun b hb => by
  obtain ⟨o, e, _⟩ := Tn.obj _ _ t0 b hb
  exact Heap.lt_size (k3 b o e)
 let s3 : Shared := { s2 with heap := h3, toks := s2.toks }
 let H2 : Hp := upd H1 Da (.lst [])
 let X' : Cx := { prog := c.X.prog, w := c.X.w, K := c.X.K, mg := c.X.mg, base := c.X.base, A := c.X.A, N := N', s₀ := s3, H₀ := H2, env := compEnvC scope cl h3.objs.size c.X.env, outer := c.X.stack, stack := c.X.stack, ex := fp, fn := fun _ => false, calm := true, pn := [], xe := noX }
 have S1 := S.grw g
 have S2 : aL c σ H2 Hf1 ρ := S1.grw (Grw.dZ g.b hH1D)
 obtain ⟨t, ht⟩ : ∃ t : Str → Addr, ∀ (i : Nat) (y : Str) (p : Addr), N[i]? = some y → σ[i]? = some (some (.ref p)) → t y = p := by
  classical
  refine ⟨fun y => if h : ∃ (i : Nat) (p : Addr), N[i]? = some y ∧ σ[i]? = some (some (.ref p)) then h.choose_spec.choose else 0, fun i y p e1 e2 => ?_⟩
  have h : ∃ (i : Nat) (p : Addr), N[i]? = some y ∧ σ[i]? = some (some (.ref p)) := ⟨i, p, e1, e2⟩
  show (if h : _ then _ else _) = p
  rw [dif_pos h]
  obtain ⟨e3, e4⟩ := h.choose_spec.choose_spec
  have hi : h.choose < N.length := (List.getElem?_eq_some_iff.mp e3).1
  have e5 : h.choose = i := (List.getElem?_inj hi c.nd).mp (e3.trans e1.symm)
  have e6 := (congrArg (fun z => σ[z]?) e5).symm.trans e4
  rw [show σ[i]? = some (some (.ref p)) from e2] at e6
  have e4 := e6
  exact (V.ref.inj (Option.some.inj (Option.some.inj e4))).symm
 have hfr := hfr t
 generalize hρ : ρ0 t = ρt at hfr
 obtain ⟨σ0, hσl, hσ0⟩ := hfr.start (σ := σ) fun i s e hu => let ⟨v, e2, _⟩ := S2.at_ i s e hu; ⟨v, e2⟩
 have k4 : ∀ b u, h3.get? b = some u → h4.get? b = some u := fun b u e => hsb.extBut b u (Nat.ne_of_lt (Heap.lt_size e)) (Heap.get?_push_of_some _ e)
 have hsc : X'.env.scope = aO scope sc := mD c.esc
 have okX : X'.Ok := {
  mod := I3.ok.mod
  kind := hk
  glob := I3.ok.glob
  blt := I3.ok.blt
  above := Nat.le_refl _
  inj := fun x y a e1 e2 => I3.ok.inj x y a (hcl1 x a e1).1 (hcl1 y a e2).1
  has := fun x hx => by
   have key : (x, NameKind.free) ∈ scope.names := by
    have hx' : (aO scope sc).names.lookup x = some .cell ∨ (aO scope sc).names.lookup x = some .free := by
     unfold Env.kindOf at hx; rw [hsc] at hx; exact hx
    rcases hx' with hx' | hx'
    ·obtain ⟨k0, h1, h2⟩ := fK hx'
     rcases h2 with h2 | ⟨_, h2⟩
     ·subst h2; exact absurd rfl (hnc _ h1)
     ·subst h2; exact h1
    ·obtain ⟨k0, h1, h2⟩ := fK hx'
     rcases h2 with h2 | ⟨h2, _⟩
     ·subst h2; exact h1
     ·cases h2
   obtain ⟨a, ea⟩ := hcells _ key rfl
   exact ⟨a, hcl2 x a key ea⟩
  cab := fun x a hf => by cases hf
  hd := fun _ => I3.ok.hd c.calm
  frames := I3.ok.frames
  stk := .inl rfl
  exf := fun b hb => ⟨Nat.ne_of_lt (fplt b hb), fun x a ea => (hfp b hb).2.2.2.2.1 x a (hcl1 x a ea).1⟩
  bs := I3.bs
  bsz := Nat.le_trans I3.ok.bsz I3.sz
  noex := fun b o e hb => by
   rcases (hfp b hb).2.2.2.1 with z | z
   ·exact I3.ok.noex b o e z
   ·exact absurd (Nat.lt_of_lt_of_le (Heap.lt_size e) (Nat.le_trans I3.ok.bsz z)) (Nat.lt_irrefl _)
  exfs := fun b hb m => by
   rcases List.mem_cons.mp (I3.n8 b m) with z | z
   ·exact (hfp b hb).2.1 z
   ·exact (hfp b hb).2.2.1 z
  fu := I3.stack
  frf := I3.pW }
 have I4 : Inv X' [] σ0 H2 { s2 with heap := h4, toks := s2.toks + ([] : List (Str × Value)).length } := {
  ok := okX
  os := rfl
  bare := I3.bare
  base := Un.kept k4
  loc := ⟨_, hns, fun j y v hy hv' _ => by
   have hj : j < ρt.length := by
    have := (List.getElem?_eq_some_iff.mp hv').1
    rw [hσl] at this; exact this
   rcases hσ0 j ρt[j] (List.getElem?_eq_getElem hj) with ⟨_, z⟩ | ⟨i, y', v', s0, h1, h2, h3', h4', hs5, hs6, h5, h6⟩
   ·rw [z] at hv'; cases hv'
   ·rw [h6] at hv'; cases hv'
    have hy' : N'[j]? = some y := hy
    rw [h1] at hy'; cases hy'
    obtain ⟨m0, hm0, hl⟩ := I3.loc
    have hkc : c.X.env.kindOf y = some .cell := by unfold Env.kindOf; rw [c.esc]; exact hfree _ h2 rfl
    obtain ⟨u, r, lk⟩ := hl i y v (by rw [c.eN]; exact h3') h5 (.inr (.inl hkc))
    refine ⟨u, r, ?_⟩
    rcases lk with ⟨q1, _⟩ | ⟨_, a, e1, e2⟩
    ·rw [hkc] at q1; cases q1
    ·refine .inr ⟨.inl ?_, a, hcl2 _ a h2 e1, ?_⟩
     ·show List.lookup y X'.env.scope.names = _
      rw [hsc]; exact hvf _ h2 rfl
     ·obtain ⟨oc, e3, e4⟩ := e2
      exact ⟨oc, k4 _ _ e3, e4⟩⟩
  cell := fun x a ea => by
   obtain ⟨v', oc, e3, e4⟩ := I3.cell x a (hcl1 x a ea).1
   exact ⟨v', oc, k4 _ _ e3, e4⟩
  free := I3.hok.fresh (Nat.le_refl _)
  freeC := fun x a ea => I3.freeC x a (hcl1 x a ea).1
  pin := fun q hq' => by simp at hq'; cases hq'
  hok := I3.hok.kept k4
  len := by rw [hσl]; exact hfr.len.symm }
 let c' : Ctx P w K mg base k N' (aO scope sc) true :=
  { X := X', eP := c.eP, ew := c.ew, eK := c.eK, emg := c.emg, eb := c.eb, eN := rfl, esc := hsc, calm := rfl, top := fun z => (by cases z), cb := fun z => (by cases z), fn := fun x hx => .inr (by rw [hsc]; exact hx.resolve_left (fun z => by cases z)), room := c.room, nd := hnd, vis := hv,
    Hf := c.Hf, B := c.B, RX := fun _ _ => False, exc := fun _ _ _ _ _ _ _ _ _ _ _ _ h _ _ => h.elim, RM := fun _ _ => False, mde := fun _ _ _ _ _ _ _ _ _ _ _ _ h _ => h.elim }
 have hN0 : N'.length = ρt.length := hfr.len
 have S4 : aL c' σ0 H2 Hf1 ρt := by
  refine ⟨S2.bas, hσl, fun j r hj hu => ?_, fun j j' r r' p hne e1 e2 o1 o2 f1 f2 => ?_⟩
  ·rcases hσ0 j r hj with ⟨z, _⟩ | ⟨i, y, v, s0, h1, h2, h3', h4', hs5, hs6, h5, h6⟩
   ·exact absurd z hu
   ·obtain ⟨v', e3, q3⟩ := S2.at_ i s0 h4' hs6
    rw [h5] at e3; cases e3
    subst hs5
    exact ⟨v, h6, qw (fun ow => by
     obtain ⟨p, _, rfl, _⟩ := q3.jY ow
     rw [ht i y p h3' h5]) q3⟩
  ·have u1 : r ≠ .un := by rintro rfl; cases o1
   have u2 : r' ≠ .un := by rintro rfl; cases o2
   rcases hσ0 j r e1 with ⟨z, _⟩ | ⟨i, y, v, s0, h1, h2, h3', h4', hs5, hs6, h5, h6⟩
   ·exact u1 z
   rcases hσ0 j' r' e2 with ⟨z, _⟩ | ⟨i', y', v', s0', h1', h2', h3'', h4'', hs5', hs6', h5', h6'⟩
   ·exact u2 z
   rw [f1] at h6; cases h6
   rw [f2] at h6'; cases h6'
   have hii : i ≠ i' := fun z => by
    subst z
    rw [h3'] at h3''; cases h3''
    have a1 : j < N'.length := (List.getElem?_eq_some_iff.mp h1).1
    exact hne ((List.getElem?_inj a1 hnd).mp (h1.trans h1'.symm))
   subst hs5; subst hs5'
   rw [j0] at o1 o2
   exact S2.sep i i' s0 s0' p hii h4' h4'' o1 o2 h5 h5'
 have howA : ∀ (j : Nat) (r : Sl), ρt[j]? = some r → r.owned = true → ∃ b, r.adr = some b ∧ b ≠ Da := fun j r hj ho => by
  rcases hσ0 j r hj with ⟨z, _⟩ | ⟨i, y, v, s0, h1, h2, h3', h4', hs5, hs6, h5, h6⟩
  ·subst z; cases ho
  ·subst hs5
   rw [j0] at ho
   obtain ⟨b, eb⟩ := x9 (a := t y) ho
   refine ⟨b, eb, fun z => ?_⟩
   obtain ⟨v', e3, q3⟩ := S1.at_ i s0 h4' hs6
   obtain ⟨p, o, e4, _, e5, _⟩ := q3.jY ho
   subst e4
   have q4 := qw (a := t y) (fun _ => by rw [ht i y p h3' e3]) q3
   have := qx eb q4
   rw [this, z, hH1D] at e5; cases e5
 have hB0 : c.B Da = none := S1.bas.s.free hH1D
 have fps : ∀ {H' : Hp}, (∀ b ∈ fp, H' b = none) → ∀ b ∈ fp, cS X' [] H' b := fun hn b hb =>
  ⟨hn b hb, Nat.ne_of_lt (fplt b hb), okX.exfs b hb, .inl hb, fun x a ea => (hfp b hb).2.2.2.2.1 x a (hcl1 x a ea).1, fun p hp => by cases hp⟩
 have fin : ∀ (s' : Shared) (σ' : L2.St) (H' Hf' : Hp) (vs : List V), Inv X' [] σ' H' s' → Grw H1 Hf1 H' Hf' → H' Da = some (.lst vs) → Hf' Da = none → aj c.X.K Hf' (os.filterMap id) vs →
  compPost (model c.X.prog c.X.w) c.X.A noX use QQ (.ref Da) h3.objs.size (.ok .next) s' := fun s' σ' H' Hf' vs I' g' hD hfD hr => by
  obtain ⟨m, hm, _⟩ := I'.loc
  have hCX : h3.objs.size ∉ c.X.fs := I3.nofs (Nat.le_refl _)
  have hCf : cS c.X pins H' h3.objs.size := by
   refine ⟨I'.free, fun z => ?_, hCX, .inr I3.sz, fun x a ea z => ?_, fun p hp z => ?_⟩
   ·obtain ⟨m0, hm0, _⟩ := I3.loc
    obtain ⟨o, _, _, e, _⟩ := hm0
    exact absurd (Heap.lt_size e) (by rw [← z]; exact Nat.lt_irrefl _)
   ·obtain ⟨v', oc, e, _⟩ := I3.cell x a ea
    exact absurd (Heap.lt_size e) (by rw [z]; exact Nat.lt_irrefl _)
   ·exact absurd (Heap.lt_size (I3.pin p hp).1) (by rw [z]; exact Nat.lt_irrefl _)
  refine kont s' H' Hf' Da h3.objs.size (.ow (os.filterMap id)) hR ⟨m, hm⟩ hCX hCf ⟨Da, vs, rfl, g.s.free hH1D, hD, hfD, hr⟩ (g.trans g') fun h5 hsb5 => ?_
  have ub : Un (frs c.X.stack) fp H2 H' s3.heap h5 := by
   have u := I'.base
   have ne : ∀ b o, s3.heap.get? b = some o → b ≠ h3.objs.size := fun b o e => Nat.ne_of_lt (Heap.lt_size e)
   refine ⟨fun b o e n hf hx => (hsb5.2 b (ne b o e)).trans (u.keep b o e n hf hx), fun b o e n hf hx => ?_, u.free, fun b o e hx => ?_, u.tups, u.frzs, u.tbls⟩
   ·obtain ⟨sl, e2⟩ := u.slot b o e n hf hx
    exact ⟨sl, (hsb5.2 b (ne b o e)).trans e2⟩
   ·obtain ⟨o', e2⟩ := u.there b o e hx
    exact ⟨o', (hsb5.2 b (ne b o e)).trans e2⟩
  have hokf : HOk c.X.prog c.X.w H' h5 := fun b u e => (I'.hok b u e).stay (fun a o ha e2 => by
   refine (hsb5.2 a ?_).trans e2
   intro z; subst z
   have hfree' : H' h3.objs.size = none := I'.free
   rcases ha with z | z
   ·subst z; rw [hfree'] at e; cases e
   ·rw [hfree'] at z; cases z) (fun _ z => z) fun _ _ z => z
  exact I3.zj (ch := fp) I'.os ub hokf I'.bare fun b hb => ⟨(hfp b hb).2.2.2.1, (hfp b hb).2.1, (hfp b hb).2.2.2.2.1, (hfp b hb).2.2.2.2.2⟩
 have loop : codeAny (model c.X.prog c.X.w) c.X.A (.compLoop (.ListComp elt [⟨tg, iter, ifs, 0⟩] scope pos) 0 (.ref it) (.ref Da) X'.env) (compPost (model c.X.prog c.X.w) c.X.A noX use QQ (.ref Da) h3.objs.size) { s2 with heap := h4, toks := s2.toks + ([] : List (Str × Value)).length } := by
  refine kQ (fun n s' => ∃ (i : Nat) (σ' : L2.St) (H' Hf' : Hp) (vs : List V), n = ds.length - i ∧ i ≤ ds.length ∧ Inv X' [] σ' H' s' ∧ tn i s'.heap ∧ aL c' σ' H' Hf' ρt ∧ Grw H1 Hf1 H' Hf' ∧ H' Da = some (.lst vs) ∧ Hf' Da = none ∧ aj c.X.K Hf' ((os.take i).filterMap id) vs ∧ vs.length ≤ i ∧ ∀ b ∈ fp, H' b = none) ?_ ds.length
   ⟨0, σ0, H2, Hf1, [], by simp, Nat.zero_le _, I4, Tn.keep _ _ _ t0 fun b hb o e => k4 b o (k3 b o e), S4, Grw.dZ g.b hH1D, ai, g.b.free hH1D, by simpa using av.mpr rfl, Nat.le_refl _, fun b hb => by show upd H1 Da _ b = none; rw [ah (fpne b hb)]; exact (hfp b hb).1⟩
  rintro n s5 ⟨i, σ5, H5, Hf5, vs, rfl, hi, I5, t5, S5, g5, hD5, hfD5, hr5, hlv, fr5⟩
  by_cases hlt : i < ds.length
  ·have ed : ds[i]? = some ds[i] := List.getElem?_eq_getElem hlt
   have eo : os[i]? = some (os[i]'(by rw [hol]; exact hlt)) := List.getElem?_eq_getElem _
   generalize ds[i] = d at ed
   generalize os[i]'(by rw [hol]; exact hlt) = o at eo
   obtain ⟨hgo, hy⟩ := io.go i d H5 Hf5 g5.f g5.b ed
   refine thn (Tn.item X' rfl rfl rfl rfl i [] s5 σ5 H5 noX I5 (fps fr5) t5 hgo) fun r s6 ⟨u, hr, h6⟩ => ?_
   subst hr
   refine thn h6 fun _ s7 ⟨x, H7, I7, rx, y7, t7, fr7⟩ => ?_
   obtain ⟨Hf7, g7, rx7⟩ := hy x H7 y7
   have I7' := I7.pinned (fps fr7) (Tn.obj _ _ t7)
   have S7 : aL c' σ5 H7 Hf7 ρt := S5.grw g7
   have hasg0 := hb c' rfl t i d o ed eo
   rw [hρ] at hasg0
   have hasg := hasg0 σ5 H7 Hf7 x (fun σ2 H2' => ∃ Hf2 ρ1, aL c' σ2 H2' Hf2 ρ1 ∧ Grw H7 Hf7 H2' Hf2 ∧ WkS ρt ρ1 ∧ EvC c' ifs ρ1 (If2 (EvE c' elt ρ1 fun e => o = some e) (o = none))) S7 rx7 (fun σ2 H2' Hf2 ρ1 S' g' hw => ⟨Hf2, ρ1, S', g', hw⟩) _ s7 u I7' rx
   refine thn (show wpAny _ _ _ _ noX _ from hasg) fun _ s8 ⟨σ8, H8, I8, Hf8, ρ8, S8, g8, w8, hC8⟩ => ?_
   refine thn (jZ (c := c') rfl ifs S8 hC8 (Q := fun b H' => ∃ Hf', If2 (EvE c' elt ρ8 fun e => o = some e) (o = none) b ∧ Grw H8 Hf8 H' Hf') (fun b H' Hf' hb' g' => ⟨Hf', hb', g'⟩) I8) fun b s9 ⟨H9, I9, Hf9, hb9, g9⟩ => ?_
   have g79 := (g7.trans g8).trans g9
   have hD9 : H9 Da = some (.lst vs) := g79.s _ _ hD5
   have hfD9 : Hf9 Da = none := g79.n Da hfD5 (by rw [hD5]; simp) (by intro ys; rw [hD5]; simp)
   have keepT : ∀ {σ' : L2.St} {H' : Hp} {s' : Shared}, Inv X' ([] ++ gn fp s7.heap) σ' H' s' → tn (i + 1) s'.heap ∧ ∀ b ∈ fp, H' b = none := fun {σ' H' s'} I' =>
    ⟨Tn.keep _ _ _ t7 fun b hb' ob e => (I'.pin (b, ob) (List.mem_append_right _ (List.mem_append_right _ (cy hb' e)))).1, fun b hb' => by
      obtain ⟨ob, e, _⟩ := Tn.obj _ _ t7 b hb'
      exact (I'.pin (b, ob) (List.mem_append_right _ (List.mem_append_right _ (cy hb' e)))).2.1⟩
   have wk : ∀ {σ' : L2.St} {H' Hf' : Hp}, aL c' σ' H' Hf' ρ8 → aL c' σ' H' Hf' ρt := fun S' => StR.weak S' w8.weak.1 w8.weak.2
   have tk : (os.take (i + 1)).filterMap id = (os.take i).filterMap id ++ o.toList := by
    rw [List.take_add_one, eo, List.filterMap_append]
    cases o <;> rfl
   cases b with
   | false =>
    have eo' := hb9.f rfl
    subst eo'
    rw [if_neg Bool.false_ne_true]
    obtain ⟨t9, fr9⟩ := keepT I9
    exact ⟨_, by omega, i + 1, σ8, H9, Hf9, vs, rfl, hlt, I9.cK, t9, wk (S8.grw g9), g5.trans g79, hD9, hfD9, by rw [tk]; simpa using hr5.mono g79.f, Nat.le_succ_of_le hlv, fr9⟩
   | true =>
    rw [if_pos rfl]
    have hev := hb9.t rfl σ8 H9 Hf9 (fun v H' => ∃ Hf' e, o = some e ∧ Rep c.X.K Hf' e v ∧ Grw H9 Hf9 H' Hf') (S8.grw g9) (fun e v H' Hf' he r g' => ⟨Hf', e, he, r, g'⟩) _ s9 I9
    refine thn (show wpAny _ _ _ _ noX _ from hev) fun u2 s10 ⟨v2, H10, I10, r10, Hf10, e, eo', re, g10⟩ => ?_
    subst eo'
    have hD10 : H10 Da = some (.lst vs) := g10.s _ _ hD9
    have hfD10 : Hf10 Da = none := g10.n Da hfD9 (by rw [hD9]; simp) (by intro ys; rw [hD9]; simp)
    have app := gp (X := X') _ s10 σ8 H10 (.ref Da) [v2] (.ref Da) [u2] (fun _ H' => H' = upd H10 Da (.lst (vs ++ [v2]))) I10 rfl (.cons r10 .nil) ⟨Da, vs, v2, rfl, rfl, hD10, Nat.lt_of_lt_of_le (Nat.lt_of_le_of_lt hlv hlt) hz, rfl⟩
    refine thn (show wpAny _ _ _ _ noX _ from app) fun _ s11 ⟨_, H11, I11, _, e11⟩ => ?_
    subst e11
    obtain ⟨t11, fr11⟩ := keepT I11
    have S10 : aL c' σ8 H10 Hf10 ρ8 := (S8.grw g9).grw g10
    have gA : Grw H1 Hf1 (upd H10 Da (.lst (vs ++ [v2]))) Hf10 := qy ((g5.trans g79).trans g10) hH1D hfD10
    refine ⟨_, by omega, i + 1, σ8, _, Hf10, vs ++ [v2], rfl, hlt, I11.cK, t11, ?_, gA, ai, hfD10, ?_, by simp; omega, fr11⟩
    ·refine (wk S10).apart hB0 hfD10 fun j r hj ho => fun z => ?_
     obtain ⟨b, eb, nb⟩ := howA j r hj ho
     obtain ⟨v', e3, q3⟩ := (wk S10).at_ j r hj (by rintro rfl; cases ho)
     rw [z] at e3; cases e3
     exact nb (qx eb q3).symm
    ·rw [tk]
     exact (hr5.mono (g79.f.trans g10.f)).append (by simpa using aj.one re)
  ·have e : i = ds.length := by omega
   subst e
   refine thn (Tn.done X' rfl rfl rfl rfl ds.length [] s5 σ5 H5 noX I5 (fps fr5) t5 (io.stop _ H5 Hf5 g5.f g5.b (Nat.le_refl _))) fun r s6 ⟨hr, I6⟩ => ?_
   subst hr
   refine fin s6 σ5 H5 Hf5 vs I6 g5 hD5 hfD5 ?_
   rw [List.take_of_length_le (by rw [hol]; exact Nat.le_refl _)] at hr5
   exact hr5
 exact codeAny_compStart_list loop (Tn.self _ 0 _ _ _ (Tn.keep _ _ _ t0 fun b hb o e => k4 b o (k3 b o e)) loop)
theorem cW {elt tg iter : Expr} {ifs : List Expr} {scope : Scope} {N' : List Str} {ρ0 : (Str → Addr) → List Sl} {R : Sl → Prop} (hq : c.X.xe = noX) (hfr : ∀ t, FrS t scope.names N ρ N' (ρ0 t))
 (h : EvI c tg iter ρ fun ds => Sd (ds.length ≤ sizeLine) (∃ os : List (Option D), os.length = ds.length ∧
   (∀ c' : Ctx P w K mg base k N' (aO scope sc) true, c'.X.xe = noX → ∀ (t : Str → Addr) (i : Nat) (d : D) (o : Option D), ds[i]? = some d → os[i]? = some o → qv c' tg ifs elt (ρ0 t) d o) ∧ R (.ow (os.filterMap id))))
 (hk : scope.kind = .function := by with_unfolding_all rfl) (hnc : ∀ x ∈ scope.names, x.2 ≠ .cell := by decide +kernel) (hnl : ∀ x ∈ scope.names, x.2 = .local → scope.names.lookup x.1 = some .local := by decide +kernel)
 (hfree : ∀ x ∈ scope.names, x.2 = .free → sc.names.lookup x.1 = some .cell := by decide +kernel) (hnd : N'.Nodup := by decide +kernel) (hv : ∀ x ∈ N', Loc (aO scope sc) x := by unfold L2.Loc; decide +kernel)
 (hvf : ∀ x ∈ scope.names, x.2 = .free → (aO scope sc).names.lookup x.1 = some .cell := by decide +kernel)
 (hs : ∀ env v, foldedSetIterable iter env v = pure v := by intro _ _; with_unfolding_all rfl) : EvX c (.ListComp elt [⟨tg, iter, ifs, 0⟩] scope pos) ρ R := fun σ H Hf Q S q pins s I => by
 rw [hq]
 rw [show (eval (.ListComp elt [⟨tg, iter, ifs, 0⟩] scope pos) c.X.env) = comprehension (.ListComp elt [⟨tg, iter, ifs, 0⟩] scope pos) scope c.X.env (firstIterPos [⟨tg, iter, ifs, 0⟩] pos) (newList []) (firstAsync [⟨tg, iter, ifs, 0⟩]) (firstIter [⟨tg, iter, ifs, 0⟩] c.X.env) from rfl]
 exact qz hq hfr h hk hnc hnl hfree hnd hv hvf hs S I fun s' H' Hf' a C r hr ⟨m, hm⟩ _ _ hrep g hJ => ⟨m, hm, fun h5 hsb5 => ⟨.ref a, H', hJ h5 hsb5, rfl, q r _ H' Hf' hr hrep g⟩⟩
theorem kR {a : Addr} {h : Heap} : Heap.SameBut a h h := ⟨rfl, fun _ _ => rfl⟩
theorem ya {X : Cx} {pins : List (Addr × Obj)} {σ : L2.St} {H : Hp} {s : Shared} {C : Addr} {h5 : Heap} (I : Inv X pins σ H s) (hC : cS X pins H C) (hsb : Heap.SameBut C s.heap h5) : Inv X pins σ H { s with heap := h5 } := by
 refine I.zj (ch := [C]) rfl ⟨fun b o e _ _ hx => ?_, fun b o e _ _ hx => ⟨o.slots, ?_⟩, fun b o e n _ => n, fun b o e hx => ⟨o, ?_⟩, fun b xs e => e, fun b o u e => e, fun b ps e => ⟨#[], by simpa using e⟩⟩ (fun b u e => (I.hok b u e).stay (fun a o ha e2 => ?_) (fun _ z => z) fun _ _ z => z) I.bare fun b hb => ?_
 ·exact (hsb.2 b (fun z => hx (by rw [z]; exact List.mem_cons_self))).trans e
 ·exact (hsb.2 b (fun z => hx (by rw [z]; exact List.mem_cons_self))).trans e
 ·exact (hsb.2 b (fun z => hx (by rw [z]; exact List.mem_cons_self))).trans e
 ·refine (hsb.2 a ?_).trans e2
  intro z; subst z
  rcases ha with z | z
  ·subst z; rw [hC.1] at e; cases e
  ·rw [hC.1] at z; cases z
 ·have : b = C := by simpa using hb
  subst this
  exact ⟨hC.2.2.2.1, hC.2.1, hC.2.2.2.2.1, hC.2.2.2.2.2⟩
theorem oV {elt tg iter : Expr} {ifs : List Expr} {scope : Scope} {N' : List Str} {ρ0 : (Str → Addr) → List Sl} {nx : List Sl → Prop} {p : Pt} {x : Str} {pos2 posA : Pos} {i : Nat} (hN : At N i x) (hq : c.X.xe = noX) (hfr : ∀ t, FrS t scope.names N ρ N' (ρ0 t))
 (h : EvI c tg iter ρ fun ds => Sd (ds.length ≤ sizeLine) (∃ os : List (Option D), os.length = ds.length ∧
   (∀ c' : Ctx P w K mg base k N' (aO scope sc) true, c'.X.xe = noX → ∀ (t : Str → Addr) (i : Nat) (d : D) (o : Option D), ds[i]? = some d → os[i]? = some o → qv c' tg ifs elt (ρ0 t) d o) ∧ Nx ρ i nx (.ow (os.filterMap id))))
 (hsw : (pos2.line == pos.line && !scope.names.any fun (n, k) => n == x && (k == NameKind.local || k == NameKind.cell)) = true := by decide +kernel) (hl : sc.names.lookup x = some .local := by with_unfolding_all rfl)
 (hk : scope.kind = .function := by with_unfolding_all rfl) (hnc : ∀ x ∈ scope.names, x.2 ≠ .cell := by decide +kernel) (hnl : ∀ x ∈ scope.names, x.2 = .local → scope.names.lookup x.1 = some .local := by decide +kernel)
 (hfree : ∀ x ∈ scope.names, x.2 = .free → sc.names.lookup x.1 = some .cell := by decide +kernel) (hnd : N'.Nodup := by decide +kernel) (hv : ∀ x ∈ N', Loc (aO scope sc) x := by unfold L2.Loc; decide +kernel)
 (hvf : ∀ x ∈ scope.names, x.2 = .free → (aO scope sc).names.lookup x.1 = some .cell := by decide +kernel)
 (hs : ∀ env v, foldedSetIterable iter env v = pure v := by intro _ _; with_unfolding_all rfl) : EvS c (.Assign [.Name x pos2] (.ListComp elt [⟨tg, iter, ifs, 0⟩] scope pos) posA) ρ nx p := fun σ H Hf D S o pins s I => by
 have hsw' : swapsWith (.ListComp elt [⟨tg, iter, ifs, 0⟩] scope pos) (some (.Name x pos2)) posA.line c.X.env = pure true := by
  have e1 : c.X.env.blockKind = .function := by unfold Env.blockKind; rw [show c.X.env.scope.kind = .function from I.ok.kind]; rfl
  have e2 : c.X.env.kindOf x = some .local := by unfold Env.kindOf; rw [c.esc]; exact hl
  show pure (c.X.env.blockKind == ScopeKind.function && c.X.env.kindOf x == some NameKind.local && pos2.line == pos.line && !scope.names.any fun (n, k) => n == x && (k == NameKind.local || k == NameKind.cell)) = pure true
  rw [e1, e2]; exact congrArg pure hsw
 rw [hq, exec_Assign_Name_used x pos2 _ posA hsw']
 refine wpAny_bind (wpAny_standAt ?_)
 refine wpAny_bind ?_
 rw [show (evalThenUse (.ListComp elt [⟨tg, iter, ifs, 0⟩] scope pos) c.X.env (assign (.Name x pos2) c.X.env)) = (do let _ ← comprehension (.ListComp elt [⟨tg, iter, ifs, 0⟩] scope pos) scope c.X.env (firstIterPos [⟨tg, iter, ifs, 0⟩] pos) (newList []) (firstAsync [⟨tg, iter, ifs, 0⟩]) (firstIter [⟨tg, iter, ifs, 0⟩] c.X.env) (some (assign (.Name x pos2) c.X.env)); pure ()) from rfl]
 refine wpAny_bind (qz hq hfr h hk hnc hnl hfree hnd hv hvf hs S I fun s' H' Hf' a C r hr ⟨m, hm⟩ hCX hCf hrep g hJ => ?_)
 have J := hJ s'.heap kR
 obtain ⟨oC, es, ep, e1, e2, e3, e4⟩ := hm
 have fps : ∀ b ∈ [C], cS c.X pins H' b := fun b hb => by rw [List.mem_singleton.mp hb]; exact hCf
 have hob : ∀ b ∈ [C], ∃ o, s'.heap.get? b = some o ∧ ∀ v : Option Value, o.data ≠ .cell v := fun b hb => by
  rw [List.mem_singleton.mp hb]; exact ⟨oC, e1, fun v z => by rw [e2] at z; cases z⟩
 have J2 := J.pinned fps hob
 have hmem : (C, oC) ∈ gn [C] s'.heap := cy List.mem_cons_self e1
 obtain ⟨ρ', hset, hx⟩ := hr
 have st := uq (kD (X := c.X) (i := i) (pos := pos2) (by rw [c.eN]; exact c.nd) (by rw [c.eN]; exact hN.get) (by rw [c.esc]; exact c.vis x hN.mem) (c.fn x (.inr hl))) (v := .ref a) (σ := σ) (H := H') (Q := fun σ' H'' => D.nx σ' H'') (o.nx _ H' Hf' _ (hset.eq ▸ S.set g hrep) hx) _ s' (.ref a) J2 rfl
 rw [hq] at st
 refine thn st fun _ s'' ⟨σ', H'', I'', dn⟩ => ?_
 have pC := I''.pin (C, oC) (List.mem_append_right _ (List.mem_append_right _ hmem))
 refine ⟨m, ⟨oC, es, ep, pC.1, e2, e3, e4⟩, fun h' hsb => ?_⟩
 have I3 : Inv c.X pins σ' H'' s'' := I''.cK
 have I4 := ya I3 (C := C) ⟨pC.2.1, hCf.2⟩ hsb
 exact wpAny_pure (wpAny_pure ⟨_, _, I4, dn⟩)
end
end EV
set_option Elab.async false
set_option linter.all false
set_option maxRecDepth 100000
namespace EV
open PySem PySem.Spec PySem.Calls PyProof.Rows L2
mutual
def D.nl : D → Prop
 | .lst _ => False
 | .fdK _ _ => False
 | .fdT _ _ => False
 | .tup ds => D.nls ds
 | _ => True
def D.nls : List D → Prop
 | [] => True
 | d :: ds => d.nl ∧ D.nls ds
end
theorem qA : ∀ {ds : List D}, D.nls ds ↔ ∀ d ∈ ds, d.nl
 | [] => by simp [D.nls]
 | d :: ds => by simp [D.nls, qA (ds := ds)]
theorem dS {α : Type} {f : α → D} {l : List α} (h : ∀ x ∈ l, (f x).nl) : D.nls (l.map f) := qA.mpr fun d hd => by
 obtain ⟨x, hx, rfl⟩ := List.mem_map.mp hd
 exact h x hx
theorem kT {i : Int} : (D.int i).nl := by simp [D.nl]
theorem ig (l : List Int) : D.nls (l.map D.int) := dS fun x _ => kT
theorem oW {ds : List D} (h : D.nls ds) : (D.tup ds).nl := by simpa [D.nl] using h
def HO.mt : HO → Prop | .lst _ => True | .dK _ => True | .dT _ => True | _ => False
theorem rR {Hf : Hp} {p : Addr} {K : PySem.W.Frag} {a : Addr} {xs : List V} {o : HO} (hp : Hf p = some o) (hm : HO.mt o) (h : SqT K Hf a xs) : SqT K (del Hf p) a xs := by
 rcases h with (h | ⟨o', h⟩) | h
 ·exact .inl (.inl (by rw [aR (by rintro rfl; rw [hp] at h; cases h; exact hm)]; exact h))
 ·exact .inl (.inr ⟨o', by rw [aR (by rintro rfl; rw [hp] at h; cases h; exact hm)]; exact h⟩)
 ·exact .inr h
mutual
theorem oX {K : PySem.W.Frag} {Hf : Hp} {p : Addr} {o : HO} (hp : Hf p = some o) (hm : HO.mt o) : ∀ (d : D) {v : V}, d.nl → Rep K Hf d v → Rep K (del Hf p) d v
 | .non, _, _, h => by simpa [Rep] using h
 | .bl _, _, _, h => by simpa [Rep] using h
 | .int _, _, _, h => by simpa [Rep] using h
 | .str _, _, _, h => by simpa [Rep] using h
 | .adr _, _, _, h => by simpa [Rep] using h
 | .tup ds, v, f, h => by
  simp only [Rep] at h ⊢
  obtain ⟨a, xs, e, h1, h2⟩ := h
  exact ⟨a, xs, e, rR hp hm h1, kU hp hm ds (by simpa [D.nl] using f) h2⟩
 | .lst _, _, f, _ => by simp [D.nl] at f
 | .fdK _ _, _, f, _ => by simp [D.nl] at f
 | .fdT _ _, _, f, _ => by simp [D.nl] at f
 | .exc C, _, _, h => by
  simp only [Rep] at h ⊢
  obtain ⟨a, e, h⟩ := h
  exact ⟨a, e, by rw [aR (by rintro rfl; rw [hp] at h; cases h; exact hm)]; exact h⟩
theorem kU {K : PySem.W.Frag} {Hf : Hp} {p : Addr} {o : HO} (hp : Hf p = some o) (hm : HO.mt o) : ∀ (ds : List D) {xs : List V}, D.nls ds → aj K Hf ds xs → aj K (del Hf p) ds xs
 | [], _, _, h => by simpa [aj] using h
 | d :: ds, xs, f, h => by
  simp only [aj] at h ⊢
  simp only [D.nls] at f
  obtain ⟨x, r, e, h1, h2⟩ := h
  exact ⟨x, r, e, oX hp hm d f.1 h1, kU hp hm ds f.2 h2⟩
end
def Sl.nl : Sl → Prop
 | .va d => d.nl
 | .ow ds => D.nls ds
 | _ => False
theorem aQ.thaw {K : PySem.W.Frag} {H H' Hf' : Hp} {p : Addr} {oz : HO} {o : HO} {r : Sl} {v : V} (hp : Hf' p = some oz) (hm : HO.mt oz) (h0 : H p = some o) (f : r.nl) (h : aQ K (fun p => H p = none) H' Hf' r v) : aQ K (fun p => H p = none) H' (del Hf' p) r v := by
 cases r with
 | va d => exact oX hp hm d f h
 | ow ds =>
  obtain ⟨q, xs, rfl, fq, h1, h2, h3⟩ := h
  refine ⟨q, xs, rfl, fq, h1, ?_, kU hp hm ds f h3⟩
  rw [aR (by rintro rfl; rw [h0] at fq; cases fq)]; exact h2
 | _ => exact f.elim
section
variable {P : Program} {w : World} {K : PySem.W.Frag} {mg : Str → Option Value} {base : Heap} {k : Nat} {N : List Str} {sc : Scope} {bk : Bool} {c : Ctx P w K mg base k N sc bk} {ρ ρ' : List Sl} {pos ap cp px tp : Pos} {a b e f : Expr} {es : List Expr} {R : D → Prop} {T : Bool → Prop} {nx : List Sl → Prop} {p : Pt} {x : Str} {i : Nat} {r : Sl} {ds : List D}
def Sl.gT : Sl → Option D
 | .ow ds => some (.lst ds) | .aw _ ds => some (.lst ds)
 | _ => none
theorem iT {d : D} (h : r.gT = some d) : r.owned = true := by cases r <;> first | rfl | cases h
theorem fL {κ : Type} {Hf : Hp} {kvs : List (κ × D)} {xs : List (κ × V)} (h : KVR K Hf kvs xs) : xs.map (·.1) = kvs.map (·.1) ∧ aj K Hf (kvs.map (·.2)) (xs.map (·.2)) := by
 unfold KVR at h
 induction h with
 | nil => exact ⟨rfl, av.mpr rfl⟩
 | cons h t ih => exact ⟨by rw [List.map_cons, List.map_cons, ih.1, h.1], .cons h.2 ih.2⟩
theorem cP {Hf : Hp} {kvs : List (List Key × D)} {xs : List (List Key × Addr × V)} (h : TVR K Hf kvs xs) : xs.map (·.1) = kvs.map (·.1) ∧ (∀ y ∈ xs, SqT K Hf y.2.1 (y.1.map kV)) ∧ aj K Hf (kvs.map (·.2)) (xs.map (·.2.2)) := by
 refine ⟨?_, h.uY, ?_⟩
 ·unfold TVR at h
  induction h with
  | nil => rfl
  | cons h t ih => rw [List.map_cons, List.map_cons, ih, h.1]
 ·unfold TVR at h
  induction h with
  | nil => exact av.mpr rfl
  | cons h t ih => exact .cons h.2.2 ih
theorem aQ.gT {fr : Addr → Prop} {H Hf : Hp} {d : D} {v : V} (h : r.gT = some d) (q : aQ K fr H Hf r v) : ∃ p o, v = .ref p ∧ fr p ∧ H p = some o ∧ Hf p = none ∧ HO.mt o ∧ Rep K (upd Hf p o) d v := by
 have sf : ∀ {p : Addr} {o : HO}, Hf p = none → aC Hf (upd Hf p o) := fun hp b u e => by rw [ah (au e hp)]; exact e
 cases r with
 | ow ds => cases h; obtain ⟨p, xs, rfl, f, h1, h2, h3⟩ := q; exact ⟨p, _, rfl, f, h1, h2, trivial, aI.mpr ⟨p, xs, rfl, .inl (.inl ai), h3.mono (sf h2)⟩⟩
 | aw a ds => cases h; obtain ⟨p, xs, rfl, f, h1, h2, h3⟩ := q; exact ⟨p, _, rfl, f.1, h1, h2, trivial, aI.mpr ⟨p, xs, rfl, .inl (.inl ai), h3.mono (sf h2)⟩⟩
 | _ => cases h
theorem StR.ir {d : D} {H₀ Hf₀ H Hf : Hp} {σ : L2.St} (S : StR K H₀ Hf₀ σ H Hf ρ) (h : ρ[i]? = some r) (hr : r.gT = some d) :
 ∃ q o, H q = some o ∧ Hf q = none ∧ HO.mt o ∧ StR K H₀ Hf₀ σ H (L2.upd Hf q o) (ρ.set i (.va d)) := by
 obtain ⟨q, ev, rq⟩ := S.own h (iT hr)
 obtain ⟨_, o, e0, fq, hq, hfq, hm, rd⟩ := rq.gT hr
 cases e0
 have hi : i < ρ.length := (List.getElem?_eq_some_iff.mp h).1
 have hown := iT hr
 have sf : aC Hf (L2.upd Hf q o) := fun b u e => by rw [L2.ah (au e hfq)]; exact e
 have sb : aC (L2.upd Hf q o) H := fun b u e => by
  by_cases z : b = q
  ·subst z; rw [L2.ai] at e; rw [hq]; exact e
  ·rw [L2.ah z] at e; exact S.sb b u e
 refine ⟨q, o, hq, hfq, hm, ⟨S.bas.s, S.bas.f.trans sf, sb, fun b h1 h2 h3 => ?_⟩, by simp [S.len], fun j r' hj hu => ?_, fun j j' r1 r2 q' hne h1 h2 o1 o2 => ?_⟩
 ·have e := S.bas.n b h1 h2 h3
  by_cases z : b = q
  ·subst z; exact absurd fq h2
  ·rw [L2.ah z]; exact e
 ·by_cases z : j = i
  ·subst z
   rw [List.getElem?_set_self hi] at hj
   cases hj
   exact ⟨_, ev, rd⟩
  ·rw [List.getElem?_set_ne (Ne.symm z)] at hj
   obtain ⟨v, e1, e2⟩ := S.at_ j r' hj hu
   refine ⟨v, e1, ?_⟩
   have key : r'.owned = true → v ≠ .ref q := fun ho z => by
    subst z
    exact S.sep i j _ _ q (Ne.symm ‹_›) h hj hown ho ev e1
   cases r' with
   | un => exact e2
   | va d => exact Rep.mono sf d e2
   | ow es => obtain ⟨p', xs', rfl, f', h1, h2, h3⟩ := e2; exact ⟨p', xs', rfl, f', h1, by rw [L2.ah (fun z => key rfl (by rw [z]))]; exact h2, h3.mono sf⟩
   | oT es => obtain ⟨p', xs', rfl, f', h1, h2, h3⟩ := e2; exact ⟨p', xs', rfl, f', h1, by rw [L2.ah (fun z => key rfl (by rw [z]))]; exact h2, h3.mono sf⟩
   | oK es => obtain ⟨p', xs', rfl, f', h1, h2, h3⟩ := e2; exact ⟨p', xs', rfl, f', h1, by rw [L2.ah (fun z => key rfl (by rw [z]))]; exact h2, h3.mono sf⟩
   | aw a es => obtain ⟨p', xs', rfl, f', h1, h2, h3⟩ := e2; exact ⟨p', xs', rfl, f', h1, by rw [L2.ah (fun z => key rfl (by rw [z]))]; exact h2, h3.mono sf⟩
   | aT a es => obtain ⟨p', xs', rfl, f', h1, h2, h3⟩ := e2; exact ⟨p', xs', rfl, f', h1, by rw [L2.ah (fun z => key rfl (by rw [z]))]; exact h2, h3.mono sf⟩
   | aK a es => obtain ⟨p', xs', rfl, f', h1, h2, h3⟩ := e2; exact ⟨p', xs', rfl, f', h1, by rw [L2.ah (fun z => key rfl (by rw [z]))]; exact h2, h3.mono sf⟩
 ·have out : ∀ {j : Nat} {r : Sl}, (ρ.set i (.va d))[j]? = some r → r.owned = true → ρ[j]? = some r := fun {j r} hj ho => by
   by_cases z : j = i
   ·subst z; rw [List.getElem?_set_self hi] at hj; cases hj; cases ho
   ·rw [List.getElem?_set_ne (Ne.symm z)] at hj; exact hj
  exact S.sep j j' r1 r2 q' hne (out h1 o1) (out h2 o2) o1 o2
theorem mE {H Hf H' Hf' : Hp} {q : Addr} {o : HO} (sb : aC Hf H) (hq : H q = some o) (hfq : Hf q = none) (g : Grw H (upd Hf q o) H' Hf') : Grw H Hf H' (del Hf' q) :=
 ⟨g.s, fun b o e => by rw [aR (au e hfq)]; exact g.f b o (by rw [ah (au e hfq)]; exact e), fun b o e => by obtain ⟨_, e2⟩ := fH e; exact g.b b o e2, fun b h1 h2 h3 => by
   by_cases z : b = q
   ·subst z; exact fG
   ·rw [aR z]; exact g.n b (by rw [ah z]; exact h1) h2 h3⟩
section
variable {d0 : D}
theorem uZ (i : Nat) (hi : At ρ i r) (hr : r.gT = some d0) (hs : SSet ρ i (.va d0) ρ') (h : EvE c e ρ' fun d => Sd d.nl (R d)) : EvE c e ρ R := fun σ H Hf Q S q => by
 obtain ⟨a, o, ha, hfa, hm, S1⟩ := S.ir hi.get hr
 rw [← hs.eq] at S1
 exact h σ H _ Q S1 fun d v H' Hf' ⟨fl, rd⟩ rv g => q d v H' _ rd (oX (g.f a _ ai) hm d fl rv) (mE S.sb ha hfa g)
theorem x_bor (i : Nat) {R : Sl → Prop} (hi : At ρ i r) (hr : r.gT = some d0) (hs : SSet ρ i (.va d0) ρ') (h : EvX c e ρ' fun d => Sd d.nl (R d)) : EvX c e ρ R := fun σ H Hf Q S q => by
 obtain ⟨a, o, ha, hfa, hm, S1⟩ := S.ir hi.get hr
 rw [← hs.eq] at S1
 exact h σ H _ Q S1 fun d v H' Hf' ⟨fl, rd⟩ rv g => q d v H' _ rd (rv.thaw (g.f a _ ai) hm ha fl) (mE S.sb ha hfa g)
theorem u0 {st : List Stmt} (i : Nat) (hi : At ρ i r) (hr : r.gT = some d0) (hs : SSet ρ i (.va d0) ρ') (h : bu c st ρ' nx p) : bu c st ρ nx p := fun σ H Hf D S o => by
 obtain ⟨a, ob, ha, hfa, hm, S1⟩ := S.ir hi.get hr
 rw [← hs.eq] at S1
 exact h σ H _ D S1 o
theorem u5 {st : Stmt} (i : Nat) (hi : At ρ i r) (hr : r.gT = some d0) (hs : SSet ρ i (.va d0) ρ') (h : EvS c st ρ' nx p) : EvS c st ρ nx p := fun σ H Hf D S o => by
 obtain ⟨a, ob, ha, hfa, hm, S1⟩ := S.ir hi.get hr
 rw [← hs.eq] at S1
 exact h σ H _ D S1 o
end
theorem e_ixO {p2 : Pos} (hN : At N i x) (hi : At ρ i r) (hr : r.gT = some (.lst ds)) (hs : SSet ρ i (.va (.lst ds)) ρ') (h : EvE c b ρ' fun y => Sd y.nl (∃ j d, y = .int j ∧ atI ds j = some d ∧ Sd d.nl (R d))) (hx : At ρ' i (.va (.lst ds)))
 (hd : (x == ("__debug__" : Str)) = false := by decide) (hcd : (x == ("__classdict__" : Str)) = false := by decide) (hp : ic b := by with_unfolding_all exact fun _ _ => rfl) : EvE c (.Subscript (.Name x p2) b pos) ρ R :=
 uZ i hi hr hs (e_ix (qe hN hx (h.imp fun y ⟨_, j, d, e1, e2, e3⟩ => ⟨ds, j, d, rfl, e1, e2, e3⟩) hd hcd) hp)
theorem SSet.at {α : Type} {l l' : List α} {i : Nat} {r : α} (h : SSet l i r l') : At l' i r := by
 induction h with
 | z => exact .z
 | s _ ih => exact .s ih
theorem AR {p1 p2 : Pos} (hm : mg (Str.ofString "len") = none) (hN : At N i x) (hi : At ρ i r) (hr : r.gT = some (.lst ds)) (hs : SSet ρ i (.va (.lst ds)) ρ') (h : R (.int ds.length)) (hg : sc.names.lookup (Str.ofString "len") = some .globalImplicit := by with_unfolding_all rfl)
 (hd : (x == ("__debug__" : Str)) = false := by decide) (hcd : (x == ("__classdict__" : Str)) = false := by decide)
 (he : ∀ env, starEach [.Name x p2] env = (false, eval (.Name x p2) env) :: starEach [] env := by intro _; with_unfolding_all rfl) : EvE c (.Call (.Name (Str.ofString "len") p1) [.Name x p2] [] pos) ρ R :=
 uZ i hi hr hs (e_len hm (qe hN hs.at ⟨ds, rfl, kT, h⟩ hd hcd) hg he)
theorem u6 {p1 p2 : Pos} (hm : mg (Str.ofString "tuple") = none) (hN : At N i x) (hi : At ρ i r) (hr : r.gT = some (.lst ds)) (hs : SSet ρ i (.va (.lst ds)) ρ') (h : Sd (D.nls ds) (R (.tup ds))) (hg : sc.names.lookup (Str.ofString "tuple") = some .globalImplicit := by with_unfolding_all rfl)
 (hd : (x == ("__debug__" : Str)) = false := by decide) (hcd : (x == ("__classdict__" : Str)) = false := by decide)
 (he : ∀ env, starEach [.Name x p2] env = (false, eval (.Name x p2) env) :: starEach [] env := by intro _; with_unfolding_all rfl) : EvE c (.Call (.Name (Str.ofString "tuple") p1) [.Name x p2] [] pos) ρ R :=
 uZ i hi hr hs (qp hm (qe hN hs.at ⟨ds, rfl, oW h.s, h.r⟩ hd hcd) hg he)
def b2 (b : Bool) : Int := if b then 1 else 0
end
end EV
set_option Elab.async false
set_option linter.all false
set_option maxRecDepth 100000
set_option maxHeartbeats 0
namespace EV
open PySem PySem.Spec PyProof.Rows L2
section
variable {P : Program} {w : World} {K : PySem.W.Frag} {mg : Str → Option Value} {base h : Heap}
def aE (K : PySem.W.Frag) (mg : Str → Option Value) (x : Str) (st : Stmt) : Prop := ∃ f fd, mg x = some (.ref f) ∧ Fun K x x st f fd
theorem aU {x : Str} {st : Stmt} {f : Addr} {oc : Value} {od an : Option Addr} {osl : Array (Option Value)} {kV doc pm cdv ct : Value} (KX : K.In h) (G : h.Ns mainGlobals mg) (a : PySem.W.nsIn K mainGlobals x = some (some (.ref f)))
 (l : K.lookup f = some ⟨oc, od, .func (PySem.W.fnOf x x (cT st) (aB st) (aa st) .none kV doc pm an cdv ct), osl⟩) (c : PySem.W.codeIn K cdv x = true) (k : PySem.W.keepIn K (.ref f) = true) : aE K mg x st :=
 ⟨f, _, PySem.W.mg_of KX G a, Av l c k⟩
theorem AS {t : Value} {T : String} {b : Bool} (e : (t == Value.type T) = false) (m : PySem.W.kitMeta T = true) (s : PySem.W.subIn K t (.type T) = some b) : PySem.W.kitOne K t (.type T) = some b := by
 unfold PySem.W.kitOne PySem.W.kitCls
 simp [e, m, s]
theorem iU {t : Value} (e : (t == t) = true) : PySem.W.kitOne K t t = some true := by
 unfold PySem.W.kitOne
 simp [e]
structure Txt (K : PySem.W.Frag) (mg : Str → Option Value) : Prop where
 abs : mg (Str.ofString "abs") = none
 len : mg (Str.ofString "len") = none
 isin : mg (Str.ofString "isinstance") = none
 range : mg (Str.ofString "range") = none
 int : mg (Str.ofString "int") = none
 bool : mg (Str.ofString "bool") = none
 tuple : mg (Str.ofString "tuple") = none
 list : mg (Str.ofString "list") = none
 max : mg (Str.ofString "max") = none
 min : mg (Str.ofString "min") = none
 sum : mg (Str.ofString "sum") = none
 sorted : mg (Str.ofString "sorted") = none
 zip : mg (Str.ofString "zip") = none
 enum : mg (Str.ofString "enumerate") = none
 all : mg (Str.ofString "all") = none
 any : mg (Str.ofString "any") = none
 dict : mg (Str.ofString "dict") = none
 ib : PySem.W.kitOne K (.type "int") (.type "bool") = some false
theorem Txt.c_int (T : Txt K mg) : fE mg (Str.ofString "int") (.type "int") := .inr ⟨_, rfl, T.int, by decide +kernel, by decide +kernel⟩
theorem Txt.AU (T : Txt K mg) : fE mg (Str.ofString "bool") (.type "bool") := .inr ⟨_, rfl, T.bool, by decide +kernel, by decide +kernel⟩
theorem Txt.yb (T : Txt K mg) : fE mg (Str.ofString "tuple") (.type "tuple") := .inr ⟨_, rfl, T.tuple, by decide +kernel, by decide +kernel⟩
theorem Txt.AV (T : Txt K mg) : fE mg (Str.ofString "list") (.type "list") := .inr ⟨_, rfl, T.list, by decide +kernel, by decide +kernel⟩
theorem AW : PySem.W.kitOne K (.type "int") (.type "int") = some true := iU (by decide)
theorem AX : PySem.W.kitOne K (.type "tuple") (.type "tuple") = some true := iU (by decide)
theorem AY : PySem.W.kitOne K (.type "list") (.type "list") = some true := iU (by decide)
theorem AZ (KX : K.In h) (G : h.Ns mainGlobals mg)
 (z1 : PySem.W.nsIn K mainGlobals (Str.ofString "abs") = some none)
 (z2 : PySem.W.nsIn K mainGlobals (Str.ofString "len") = some none)
 (z3 : PySem.W.nsIn K mainGlobals (Str.ofString "isinstance") = some none)
 (z4 : PySem.W.nsIn K mainGlobals (Str.ofString "range") = some none)
 (z5 : PySem.W.nsIn K mainGlobals (Str.ofString "int") = some none)
 (z6 : PySem.W.nsIn K mainGlobals (Str.ofString "bool") = some none)
 (z7 : PySem.W.nsIn K mainGlobals (Str.ofString "tuple") = some none)
 (z8 : PySem.W.nsIn K mainGlobals (Str.ofString "list") = some none)
 (z9 : PySem.W.nsIn K mainGlobals (Str.ofString "max") = some none)
 (z10 : PySem.W.nsIn K mainGlobals (Str.ofString "min") = some none)
 (z11 : PySem.W.nsIn K mainGlobals (Str.ofString "sum") = some none)
 (z12 : PySem.W.nsIn K mainGlobals (Str.ofString "sorted") = some none)
 (z13 : PySem.W.nsIn K mainGlobals (Str.ofString "zip") = some none)
 (z14 : PySem.W.nsIn K mainGlobals (Str.ofString "enumerate") = some none)
 (z15 : PySem.W.nsIn K mainGlobals (Str.ofString "all") = some none)
 (z16 : PySem.W.nsIn K mainGlobals (Str.ofString "any") = some none)
 (z17 : PySem.W.nsIn K mainGlobals (Str.ofString "dict") = some none)
 (sib : PySem.W.subIn K (.type "int") (.type "bool") = some false) : Txt K mg :=
 ⟨PySem.W.mg_none_of KX G z1, PySem.W.mg_none_of KX G z2, PySem.W.mg_none_of KX G z3, PySem.W.mg_none_of KX G z4, PySem.W.mg_none_of KX G z5, PySem.W.mg_none_of KX G z6, PySem.W.mg_none_of KX G z7, PySem.W.mg_none_of KX G z8,
  PySem.W.mg_none_of KX G z9, PySem.W.mg_none_of KX G z10, PySem.W.mg_none_of KX G z11, PySem.W.mg_none_of KX G z12, PySem.W.mg_none_of KX G z13, PySem.W.mg_none_of KX G z14, PySem.W.mg_none_of KX G z15, PySem.W.mg_none_of KX G z16, PySem.W.mg_none_of KX G z17,
  AS (by decide) (by decide) sib⟩
theorem aZ {k : Nat} {x : Str} {st : Stmt} {F : Fn} {ps : List Str} {f : Addr} {fd : FuncData} (m : mg x = some (.ref f)) (Fu : Fun K x x st f fd) (ok : aX P w K mg base (CXE P w) k f fd ps (spF K F))
 (hb : ∀ (kV doc pm : Value) (an : Option Addr) (cdv ct : Value) (us : List Value), us.length = ps.length → bindArgs (PySem.W.fnOf x x (cT st) (aB st) (aa st) .none kV doc pm an cdv ct) ⟨us, []⟩ = pure (ps.zip us)) : Cal P w K mg base k x F :=
 ⟨f, fd, ps, m, Fu.kp, Fu.binds hb, ok⟩
theorem rS {α : Type} (us : List α) (h : us.length = 1) : ∃ a, us = [a] := by match us, h with | [a], _ => exact ⟨a, rfl⟩
theorem gU {α : Type} (us : List α) (h : us.length = 2) : ∃ a b, us = [a, b] := by match us, h with | [a, b], _ => exact ⟨a, b, rfl⟩
theorem len3 {α : Type} (us : List α) (h : us.length = 3) : ∃ a b c, us = [a, b, c] := by match us, h with | [a, b, c], _ => exact ⟨a, b, c, rfl⟩
def u7 : Fn := fun ds r => ∃ ns : List Int, ns.length ≤ 63 ∧ ds = [.lst (ns.map D.int)] ∧ r = .ok (.va (.bl true))
theorem A0 {K : PySem.W.Frag} (H : Hp) (a : Addr) (ns : List Int) (hl : ns.length ≤ 63) (hS : SqL K H a (ns.map V.int)) : spF K u7 [.ref a] H (fun v _ => v = .bl true) fun _ _ _ => False :=
 ⟨H, [.lst (ns.map D.int)], .ok (.va (.bl true)), .refl H, .cons (aI.mpr ⟨a, _, rfl, hS, jS ns⟩) (av.mpr rfl), ⟨ns, hl, rfl, rfl⟩, fun v H' Hf' _ r => (bQ (K := K) (H := Hf')).mp r⟩
theorem walk {k : Nat} {l : PySem.W.OpenLaw} {q : Program} {loose : List Str} {XP : (Str → Option Value) → Heap → Prop} {YP : World → Heap → Prop} {d : DefRec} {K : Params → PySem.W.Frag} (hk : k ≤ 20) (hn : l.most = some 63) (hdf : d.params.defaults = [])
 (hY : ∀ (w : World) (h : Heap), YP w h → (K w.params).In h)
 (F : ∀ (w : World) (mg : Str → Option Value) (fa : Addr) (h : Heap), (K w.params).In h → h.Ns mainGlobals mg → mg d.name = some (.ref fa) →
   ∃ fd : FuncData, (∀ (s : Shared) (u : Value), BindsTo s fd ⟨[u], []⟩ [("_law_script", u)]) ∧ ∀ base : Heap, (K w.params).In base → base.Ns mainGlobals mg → aX l.prog w (K w.params) mg base (CXE l.prog w) 20 fa fd ["_law_script"] (spF (K w.params) u7)) :
 PySem.W.WalkO q loose XP YP l.row.toRowW d [] (fun f vs => PySem.call f vs) :=
 L2.xH (n := 63) (k := 20) (x := "_law_script") (CX := fun w => CXE l.prog w) (sp := fun w => spF (K w.params) u7) hn (by decide) hdf ⟨rfl, by decide, by decide⟩ hY F (fun _ H a ns hl _ hS => A0 H a ns hl hS) fun _ _ _ _ _ ⟨_, _, _, _, _, q⟩ => q
end
end EV
set_option Elab.async false
set_option linter.all false
set_option maxRecDepth 100000
namespace EV
open PySem PySem.Spec PyProof.Rows L2
section
variable {a b c d : Int}
end
end EV
set_option Elab.async false
set_option linter.all false
set_option maxRecDepth 100000
namespace EV
open PySem PySem.Spec PyProof.Rows L2
theorem cz {α β : Type} (f : α → β) (xs : List α) (lo hi : Option Int) : EV.cutD (xs.map f) lo hi = (EV.cutD xs lo hi).map f := by
 unfold EV.cutD; simp only [List.length_map, List.map_take, List.map_drop]
theorem kW {α : Type} {xs : List α} {j : Int} (h0 : 0 ≤ j) (h1 : j < xs.length) : atI xs j = xs[j.toNat]? := by
 unfold atI ixN
 rw [if_pos h0, if_pos h1]; rfl
theorem yc {α : Type} {xs : List α} {j : Int} (h0 : j < 0) (h1 : 0 ≤ j + xs.length) : atI xs j = xs[(j + xs.length).toNat]? := by
 unfold atI ixN
 rw [if_neg (by omega)]
 rw [if_pos (by omega)]; rfl
theorem u9 {a : Int} (h : a.natAbs < 2 ^ 63) : Builtin.Int.intBits a ≤ 64 := by
 unfold Builtin.Int.intBits
 by_cases z : a = 0
 ·subst z; decide
 ·have e : (a == 0) = false := by simpa using z
  rw [e, if_neg Bool.false_ne_true]
  have := (Nat.log2_lt (n := a.natAbs) (k := 63) (by omega)).mpr h
  omega
theorem mF {a b : Int} (h : a.natAbs < 2 ^ 63) : EV.MulOk a b := IntMulOk.of_left (u9 h)
theorem kX {n i : Nat} {d : EV.D} (h : (mj 0 n)[i]? = some d) : i < n ∧ d = .int (i : Int) := by
 unfold mj at h
 simp only [List.getElem?_map, Option.map_eq_some_iff] at h
 obtain ⟨j, h1, rfl⟩ := h
 obtain ⟨hj, rfl⟩ := List.getElem?_eq_some_iff.mp h1
 simp at hj
 exact ⟨hj, by simp⟩
section
variable {P : Program} {w : World} {K : PySem.W.Frag} {mg : Str → Option Value} {base : Heap} {k : Nat} {N : List Str} {sc : Scope} {bk : Bool} {c : Ctx P w K mg base k N sc bk} {ρ : List Sl} {pos : Pos} {t : Expr} {A B : List Stmt} {nx : List Sl → Prop} {p : Pt}
end
end EV
set_option Elab.async false
set_option linter.all false
set_option maxRecDepth 100000
namespace EV
open PySem PySem.Spec PySem.Calls PyProof.Rows L2
def HO.dct : HO → Prop | .dK _ => True | .dT _ => True | _ => False
theorem vc {X : Cx} {pins : List (Addr × Obj)} {σ : L2.St} {H : Hp} {s : Shared} {a : Addr} {u v : HO} (I : Inv X pins σ H s) (hu : H a = some u) (nu : ∀ xs, u ≠ .tup xs) (nw : ∀ y, u ≠ .own y) (nt : ∀ ps, u ≠ .tbl ps) (nf : ∀ o z, X.H₀ a ≠ some (.frz o z))
 (hv : aJ X.prog X.w H s.heap a v) : Inv X pins σ (upd H a v) s := by
 have hne : ∀ {b : Addr} {z : HO}, H b = some z → z ≠ u → b ≠ a := fun e d q => by subst q; rw [hu] at e; cases e; exact d rfl
 have hno : ∀ {b : Addr}, H b = none → b ≠ a := fun e q => by subst q; rw [hu] at e; cases e
 have hst : ∀ {b : Addr} {z : HO}, aJ X.prog X.w H s.heap b z → aJ X.prog X.w (upd H a v) s.heap b z := fun q =>
  q.stay (fun _ _ _ e => e) (fun b e => by rw [ah (hne e (Ne.symm (nw _)))]; exact e) fun b xs e => by rw [ah (hne e (Ne.symm (nu xs)))]; exact e
 have fr := I.free
 exact {
  ok := I.ok, os := I.os, bare := I.bare, loc := I.loc, cell := I.cell, len := I.len
  base := ⟨I.base.keep, I.base.slot, fun b o h1 h2 h3 => by have e := I.base.free b o h1 h2 h3; rw [ah (hno e)]; exact e, I.base.there,
   fun b xs e => by have q := I.base.tups b xs e; rw [ah (hne q (Ne.symm (nu xs)))]; exact q,
   fun b o z e => by
    have q := I.base.frzs b o z e
    by_cases w : b = a
    ·subst w; exact absurd e (nf o z)
    ·rw [ah w]; exact q,
   fun b ps e => by obtain ⟨m, q⟩ := I.base.tbls b ps e; exact ⟨m, by rw [ah (hne q (Ne.symm (nt _)))]; exact q⟩⟩
  free := by rw [ah (hno I.free)]; exact I.free
  freeC := fun x c e => by have q := I.freeC x c e; rw [ah (hno q)]; exact q
  pin := fun q hq => by obtain ⟨h1, h2, h3⟩ := I.pin q hq; exact ⟨h1, by rw [ah (hno h2)]; exact h2, h3⟩
  hok := fun b z e => by
   by_cases w : b = a
   ·subst w; rw [ai] at e; cases e; exact hst hv
   ·rw [ah w] at e; exact hst (I.hok b z e) }
theorem yd {X : Cx} {pins : List (Addr × Obj)} {σ : L2.St} {H : Hp} {s : Shared} {a : Addr} {u : HO} (I : Inv X pins σ H s) (hu : H a = some u) (hd : HO.dct u) :
 ∃ o, Inv X pins σ (upd H a (.frz o u)) s ∧ ∀ o z, X.H₀ a ≠ some (.frz o z) := by
 obtain ⟨o, ho⟩ := AD (I.hok a u hu)
 have nf : ∀ o z, X.H₀ a ≠ some (.frz o z) := fun o z e => by
  have q := I.base.frzs a o z e
  rw [hu] at q; cases q; exact hd
 exact ⟨o, vc I hu (by rintro xs rfl; exact hd) (by rintro y rfl; exact hd) (by rintro ps rfl; exact hd) nf ⟨ho, I.hok a u hu⟩, nf⟩
theorem vd {X : Cx} {pins : List (Addr × Obj)} {σ : L2.St} {H : Hp} {s : Shared} {a : Addr} {o : Obj} {u : HO} (I : Inv X pins σ H s) (hu : H a = some (.frz o u)) (nf : ∀ o z, X.H₀ a ≠ some (.frz o z)) : Inv X pins σ (upd H a u) s :=
 vc I hu (by intro xs z; cases z) (by intro y z; cases z) (by intro ps z; cases z) nf (I.hok a _ hu).2
def Sl.mG : Sl → Option D
 | .oK kvs => some (.fdK (kvs.map (·.1)) (kvs.map (·.2))) | .aK _ kvs => some (.fdK (kvs.map (·.1)) (kvs.map (·.2)))
 | .oT kvs => some (.fdT (kvs.map (·.1)) (kvs.map (·.2))) | .aT _ kvs => some (.fdT (kvs.map (·.1)) (kvs.map (·.2)))
 | _ => none
theorem iV {r : Sl} {d : D} (h : r.mG = some d) : r.owned = true := by cases r <;> first | rfl | cases h
section
variable {K : PySem.W.Frag} {H₀ Hf₀ H Hf H1 Hf1 : Hp} {σ : L2.St} {ρ : List Sl}
theorem aQ.mG {fr : Addr → Prop} {r : Sl} {d : D} {v : V} (h : r.mG = some d) (q : aQ K fr H Hf r v) : ∃ p u, v = .ref p ∧ fr p ∧ H p = some u ∧ Hf p = none ∧ HO.dct u ∧ ∀ o, Rep K (L2.upd Hf p (.frz o u)) d v := by
 have sf : ∀ {p : Addr} {o : HO}, Hf p = none → aC Hf (L2.upd Hf p o) := fun hp b u e => by rw [ah (au e hp)]; exact e
 cases r with
 | oK ds => cases h; obtain ⟨p, xs, rfl, f, h1, h2, h3⟩ := q; exact ⟨p, _, rfl, f, h1, h2, trivial, fun o => fC.mpr ⟨p, xs, o, rfl, ai, (fL h3).1, (fL h3).2.mono (sf h2)⟩⟩
 | aK a ds => cases h; obtain ⟨p, xs, rfl, f, h1, h2, h3⟩ := q; exact ⟨p, _, rfl, f.1, h1, h2, trivial, fun o => fC.mpr ⟨p, xs, o, rfl, ai, (fL h3).1, (fL h3).2.mono (sf h2)⟩⟩
 | oT ds => cases h; obtain ⟨p, xs, rfl, f, h1, h2, h3⟩ := q; exact ⟨p, _, rfl, f, h1, h2, trivial, fun o => kK.mpr ⟨p, xs, o, rfl, ai, (cP h3).1, fun y hy => aq (sf h2) ((cP h3).2.1 y hy), (cP h3).2.2.mono (sf h2)⟩⟩
 | aT a ds => cases h; obtain ⟨p, xs, rfl, f, h1, h2, h3⟩ := q; exact ⟨p, _, rfl, f.1, h1, h2, trivial, fun o => kK.mpr ⟨p, xs, o, rfl, ai, (cP h3).1, fun y hy => aq (sf h2) ((cP h3).2.1 y hy), (cP h3).2.2.mono (sf h2)⟩⟩
 | _ => cases h
theorem StR.ye (S : StR K H₀ Hf₀ σ H Hf ρ) {i : Nat} {r : Sl} {d : D} (h : ρ[i]? = some r) (hr : r.mG = some d) :
 ∃ q u, H q = some u ∧ Hf q = none ∧ HO.dct u ∧ ∀ o, StR K H₀ Hf₀ σ (L2.upd H q (.frz o u)) (L2.upd Hf q (.frz o u)) (ρ.set i (.va d)) := by
 obtain ⟨q, ev, rq⟩ := S.own h (iV hr)
 obtain ⟨_, u, e0, fq, hq, hfq, hd, rd⟩ := rq.mG hr
 cases e0
 have hi : i < ρ.length := (List.getElem?_eq_some_iff.mp h).1
 have hown := iV hr
 refine ⟨q, u, hq, hfq, hd, fun o => ⟨⟨fun b z e => ?_, fun b z e => ?_, fun b z e => ?_, fun b h1 h2 h3 => ?_⟩, by simp [S.len], fun j r' hj hu => ?_, fun j j' r1 r2 q' hne h1 h2 o1 o2 => ?_⟩⟩
 ·rw [L2.ah (au e fq)]; exact S.bas.s b z e
 ·have e2 := S.bas.f b z e
  rw [L2.ah (au e2 hfq)]; exact e2
 ·by_cases w : b = q
  ·subst w; rw [L2.ai] at e ⊢; exact e
  ·rw [L2.ah w] at e ⊢; exact S.sb b z e
 ·have e := S.bas.n b h1 h2 h3
  by_cases z : b = q
  ·subst z; exact absurd fq h2
  ·rw [L2.ah z]; exact e
 ·have sf : aC Hf (L2.upd Hf q (.frz o u)) := fun b z e => by rw [L2.ah (au e hfq)]; exact e
  by_cases z : j = i
  ·subst z
   rw [List.getElem?_set_self hi] at hj
   cases hj
   exact ⟨_, ev, rd o⟩
  ·rw [List.getElem?_set_ne (Ne.symm z)] at hj
   obtain ⟨v, e1, e2⟩ := S.at_ j r' hj hu
   refine ⟨v, e1, ?_⟩
   have key : r'.owned = true → v ≠ .ref q := fun ho z => by
    subst z
    exact S.sep i j _ _ q (Ne.symm ‹_›) h hj hown ho ev e1
   cases r' with
   | un => exact e2
   | va d => exact Rep.mono sf d e2
   | ow es => obtain ⟨p', xs', rfl, f', h1, h2, h3⟩ := e2; exact ⟨p', xs', rfl, f', by rw [L2.ah (fun z => key rfl (by rw [z]))]; exact h1, by rw [L2.ah (fun z => key rfl (by rw [z]))]; exact h2, h3.mono sf⟩
   | oT es => obtain ⟨p', xs', rfl, f', h1, h2, h3⟩ := e2; exact ⟨p', xs', rfl, f', by rw [L2.ah (fun z => key rfl (by rw [z]))]; exact h1, by rw [L2.ah (fun z => key rfl (by rw [z]))]; exact h2, h3.mono sf⟩
   | oK es => obtain ⟨p', xs', rfl, f', h1, h2, h3⟩ := e2; exact ⟨p', xs', rfl, f', by rw [L2.ah (fun z => key rfl (by rw [z]))]; exact h1, by rw [L2.ah (fun z => key rfl (by rw [z]))]; exact h2, h3.mono sf⟩
   | aw a es => obtain ⟨p', xs', rfl, f', h1, h2, h3⟩ := e2; exact ⟨p', xs', rfl, f', by rw [L2.ah (fun z => key rfl (by rw [z]))]; exact h1, by rw [L2.ah (fun z => key rfl (by rw [z]))]; exact h2, h3.mono sf⟩
   | aT a es => obtain ⟨p', xs', rfl, f', h1, h2, h3⟩ := e2; exact ⟨p', xs', rfl, f', by rw [L2.ah (fun z => key rfl (by rw [z]))]; exact h1, by rw [L2.ah (fun z => key rfl (by rw [z]))]; exact h2, h3.mono sf⟩
   | aK a es => obtain ⟨p', xs', rfl, f', h1, h2, h3⟩ := e2; exact ⟨p', xs', rfl, f', by rw [L2.ah (fun z => key rfl (by rw [z]))]; exact h1, by rw [L2.ah (fun z => key rfl (by rw [z]))]; exact h2, h3.mono sf⟩
 ·have out : ∀ {j : Nat} {r : Sl}, (ρ.set i (.va d))[j]? = some r → r.owned = true → ρ[j]? = some r := fun {j r} hj ho => by
   by_cases z : j = i
   ·subst z; rw [List.getElem?_set_self hi] at hj; cases hj; cases ho
   ·rw [List.getElem?_set_ne (Ne.symm z)] at hj; exact hj
  exact S.sep j j' r1 r2 q' hne (out h1 o1) (out h2 o2) o1 o2
end
theorem rT {H Hf H' Hf' : Hp} {q : Addr} {o : Obj} {u : HO} (sb : aC Hf H) (hq : H q = some u) (hfq : Hf q = none) (g : Grw (upd H q (.frz o u)) (upd Hf q (.frz o u)) H' Hf') : Grw H Hf (upd H' q u) (del Hf' q) :=
 ⟨fun b z e => by
   by_cases w : b = q
   ·subst w; rw [ai]; rw [hq] at e; exact e
   ·rw [ah w]; exact g.s b z (by rw [ah w]; exact e),
   fun b z e => by rw [aR (au e hfq)]; exact g.f b z (by rw [ah (au e hfq)]; exact e),
   fun b z e => by obtain ⟨w, e2⟩ := fH e; rw [ah w]; exact g.b b z e2, fun b h1 h2 h3 => by
   by_cases w : b = q
   ·subst w; exact fG
   ·rw [aR w]; exact g.n b (by rw [ah w]; exact h1) (by rw [ah w]; exact h2) fun xs => by rw [ah w]; exact h3 xs⟩
theorem yf {Hf : Hp} {p : Addr} {K : PySem.W.Frag} {a : Addr} {xs : List V} {o : Obj} {u : HO} (hp : Hf p = some (.frz o u)) (hd : HO.dct u) (h : SqT K Hf a xs) : SqT K (del Hf p) a xs := by
 rcases h with (h | ⟨o', h⟩) | h
 ·exact .inl (.inl (by rw [aR (by rintro rfl; rw [hp] at h; cases h)]; exact h))
 ·exact .inl (.inr ⟨o', by rw [aR (by rintro rfl; rw [hp] at h; cases h; exact hd)]; exact h⟩)
 ·exact .inr h
mutual
theorem ve {K : PySem.W.Frag} {Hf : Hp} {p : Addr} {o : Obj} {u : HO} (hp : Hf p = some (.frz o u)) (hd : HO.dct u) : ∀ (d : D) {v : V}, d.nl → Rep K Hf d v → Rep K (del Hf p) d v
 | .non, _, _, h => by simpa [Rep] using h
 | .bl _, _, _, h => by simpa [Rep] using h
 | .int _, _, _, h => by simpa [Rep] using h
 | .str _, _, _, h => by simpa [Rep] using h
 | .adr _, _, _, h => by simpa [Rep] using h
 | .tup ds, v, f, h => by
  simp only [Rep] at h ⊢
  obtain ⟨a, xs, e, h1, h2⟩ := h
  exact ⟨a, xs, e, yf hp hd h1, kY hp hd ds (by simpa [D.nl] using f) h2⟩
 | .lst _, _, f, _ => by simp [D.nl] at f
 | .fdK _ _, _, f, _ => by simp [D.nl] at f
 | .fdT _ _, _, f, _ => by simp [D.nl] at f
 | .exc C, _, _, h => by
  simp only [Rep] at h ⊢
  obtain ⟨a, e, h⟩ := h
  exact ⟨a, e, by rw [aR (by rintro rfl; rw [hp] at h; cases h)]; exact h⟩
theorem kY {K : PySem.W.Frag} {Hf : Hp} {p : Addr} {o : Obj} {u : HO} (hp : Hf p = some (.frz o u)) (hd : HO.dct u) : ∀ (ds : List D) {xs : List V}, D.nls ds → aj K Hf ds xs → aj K (del Hf p) ds xs
 | [], _, _, h => by simpa [aj] using h
 | d :: ds, xs, f, h => by
  simp only [aj] at h ⊢
  simp only [D.nls] at f
  obtain ⟨x, r, e, h1, h2⟩ := h
  exact ⟨x, r, e, ve hp hd d f.1 h1, kY hp hd ds f.2 h2⟩
end
section
variable {P : Program} {w : World} {K : PySem.W.Frag} {mg : Str → Option Value} {base : Heap} {k : Nat} {N : List Str} {sc : Scope} {bk : Bool} {c : Ctx P w K mg base k N sc bk} {ρ ρ' : List Sl} {e : Expr} {R : D → Prop} {T : Bool → Prop} {nx : List Sl → Prop} {p : Pt} {i : Nat} {r : Sl} {d0 : D}
theorem vf {σ : L2.St} {H Hf : Hp} {Q : VK} (S : aL c σ H Hf ρ) (hi : At ρ i r) (hr : r.mG = some d0) (hs : SSet ρ i (.va d0) ρ')
 (h : ∀ q u o, H q = some u → Hf q = none → HO.dct u → aL c σ (upd H q (.frz o u)) (upd Hf q (.frz o u)) ρ' → bE c.X e σ (upd H q (.frz o u)) fun v H' => ∃ Hf', Grw (upd H q (.frz o u)) (upd Hf q (.frz o u)) H' Hf' ∧ Q v (upd H' q u)) : bE c.X e σ H Q := by
 obtain ⟨q, u, hq, hfq, hd, S1⟩ := S.ye hi.get hr
 intro pins s I
 obtain ⟨o, I1, nf⟩ := yd I hq hd
 have S2 := S1 o
 rw [← hs.eq] at S2
 refine thn (h q u o hq hfq hd S2 pins s I1) fun v s' ⟨x, H', I', rv, Hf', g, hQ⟩ => ⟨x, _, vd I' (g.s q _ ai) nf, rv, hQ⟩
theorem oY (i : Nat) {R : Sl → Prop} (hi : At ρ i r) (hr : r.mG = some d0) (hs : SSet ρ i (.va d0) ρ') (h : EvX c e ρ' fun d => Sd d.nl (R d)) : EvX c e ρ R := fun σ H Hf Q S q => by
 refine vf S hi hr hs fun a u o ha hfa hd S1 => h σ _ _ _ S1 fun r1 v H' Hf' ⟨fl, rd⟩ rv g => ⟨Hf', g, ?_⟩
 have hp := g.f a _ ai
 refine q r1 v _ (del Hf' a) rd ?_ (rT S.sb ha hfa g)
 have hH : H' a = some (.frz o u) := g.s a _ ai
 cases r1 with
 | va d => exact ve hp hd d fl rv
 | ow ds =>
  obtain ⟨b, xs, rfl, fb, h1, h2, h3⟩ := rv
  have nb : b ≠ a := by rintro rfl; rw [show (upd H b (.frz o u)) b = _ from ai] at fb; cases fb
  exact ⟨b, xs, rfl, by rw [ah nb] at fb; exact fb, by rw [ah nb]; exact h1, by rw [aR nb]; exact h2, kY hp hd ds fl h3⟩
 | _ => exact fl.elim
end
end EV
set_option Elab.async false
set_option linter.all false
set_option maxRecDepth 100000
namespace EV
open PySem PySem.Spec PySem.Calls PyProof.Rows L2
def ItG (h : Heap) (it d : Addr) (i n ep : Nat) : Prop :=
 ∃ (x : Value) (f : Bool) (k v : Value), h.get? it = some { cls := .type "dict_itemiterator", dict := none, data := .fields #[x, .bool f, .ref d, .int i 0, .int n 0, .int ep 0, k, v], slots := #[] } ∧ (x = .none ∨ ∃ a : Addr, x = rawInt a)
section
variable {prog : Program} {w : World} {A : Around} {E : Value → Shared → Prop} {s : Shared} {it d : Addr} {i n ep : Nat} {od : Obj} {es : Array DictEntry}
theorem kZ : Builtin.Dict_items.ownsTuple "dict_itemiterator" = true := by decide
theorem mH {M : Model} {a : Addr} {Q : Option Obj → Shared → Prop} (h : Q (s.heap.get? a) s) : wpAny M A (loadIfAlive a) Q E s := fun Γ p z => by
 show Sem.wp M Γ (Sem.loadIfAlive a Sem.pure) _ _ p s
 rw [Sem.wp_loadIfAlive, Sem.wp]
 exact h
theorem vg {h : Heap} {x k v a b : Value} {f : Bool} {Q : Value → Shared → Prop} (hs : s.heap = h) (hit : h.get? it = some { cls := .type "dict_itemiterator", dict := none, data := .fields #[x, .bool f, .ref d, .int i 0, .int n 0, .int ep 0, k, v], slots := #[] }) (hx : x = .none ∨ ∃ a : Addr, x = rawInt a)
 (hQ : ∀ h', ItG h' it d i n ep → h'.get? h.objs.size = some { cls := .type "tuple", data := .seq #[a, b] } → h'.objs.size = h.objs.size + 1 → (∀ c o, c ≠ it → h.get? c = some o → h'.get? c = some o) → Q (.ref h.objs.size) { s with heap := h' }) :
 wpAny (model prog w) A (Builtin.Dict_items.pairFromOwner (.ref it) 6 a b) Q E s := by
 subst hs
 have lt : it < s.heap.objs.size := Heap.lt_size hit
 have ne : s.heap.objs.size ≠ it := Nat.ne_of_gt lt
 unfold Builtin.Dict_items.pairFromOwner
 refine wpAny_bind (wpAny_newTuple ?_)
 have hit2 := Heap.get?_push_of_some ({ cls := .type "tuple", data := .seq [a, b].toArray } : Obj) hit
 have htu : (s.heap.push { cls := .type "tuple", data := .seq [a, b].toArray }).get? s.heap.objs.size = some { cls := .type "tuple", data := .seq #[a, b] } := Heap.get?_push_size _ rfl
 have hsz : (s.heap.push { cls := .type "tuple", data := .seq [a, b].toArray }).objs.size = s.heap.objs.size + 1 := Heap.size_push ..
 have hold : ∀ c o, s.heap.get? c = some o → (s.heap.push { cls := .type "tuple", data := .seq [a, b].toArray }).get? c = some o := fun c o e => Heap.get?_push_of_some _ e
 generalize (s.heap.push { cls := .type "tuple", data := .seq [a, b].toArray }) = h2 at hit2 htu hsz hold ⊢
 have free : wpAny (model prog w) A (do
  let old := [← field (.ref it) 6, ← field (.ref it) (6 + 1)]
  setField (.ref it) 6 a; setField (.ref it) (6 + 1) b
  setField (.ref it) 0 (rawInt s.heap.objs.size); setField (.ref it) 1 (.bool false)
  letGo old [.ref s.heap.objs.size]
  pure (Value.ref s.heap.objs.size)) Q E { s with heap := h2 } := by
  refine wpAny_bind (wpAny_field hit2 rfl (x := k) rfl (wpAny_bind (wpAny_field hit2 rfl (x := v) rfl ?_)))
  refine wpAny_bind (wpAny_setField_rec hit2 (by simp) fun h3 e3 s3 => ?_)
  refine wpAny_bind (wpAny_setField_rec e3 (by simp) fun h4 e4 s4 => ?_)
  refine wpAny_bind (wpAny_setField_rec e4 (by simp) fun h5 e5 s5 => ?_)
  refine wpAny_bind (wpAny_setField_rec e5 (by simp) fun h6 e6 s6 => ?_)
  have keep : ∀ c o, c ≠ it → h2.get? c = some o → h6.get? c = some o := fun c o hc e => s6.extBut c o hc (s5.extBut c o hc (s4.extBut c o hc (s3.extBut c o hc e)))
  refine wpAny_bind (wpAny_letGo (wpAny_pure (hQ h6 ⟨_, _, _, _, e6, .inr ⟨_, rfl⟩⟩ (keep _ _ ne htu) ?_ fun c o hc e => keep c o hc (hold c o e))))
  rw [s6.1, s5.1, s4.1, s3.1, hsz]
 have told : ∀ (h3 : Heap) (x : Value) (f : Bool), h3.get? it = some { cls := .type "dict_itemiterator", dict := none, data := .fields #[x, .bool f, .ref d, .int i 0, .int n 0, .int ep 0, k, v], slots := #[] } → (x = .none ∨ ∃ a : Addr, x = rawInt a) →
  Heap.SameBut it h2 h3 → Q (.ref s.heap.objs.size) { s with heap := h3 } := fun h3 x f e hx' s3 =>
  hQ h3 ⟨x, f, k, v, e, hx'⟩ (s3.extBut _ _ ne htu) (by rw [s3.1, hsz]) fun c o hc e => s3.extBut c o hc (hold c o e)
 show wpAny _ _ (Builtin.Dict_items.ownedTupleIsFree (.ref it) >>= _) _ _ _
 unfold Builtin.Dict_items.ownedTupleIsFree
 refine wpAny_bind (wpAny_bind (wpAny_field hit2 rfl (x := x) rfl ?_))
 rcases hx with rfl | ⟨a0, rfl⟩
 ·exact wpAny_pure free
 ·show wpAny _ _ (loadIfAlive (a0 : Int).toNat >>= _) _ _ _
  refine wpAny_bind (mH ?_)
  split
  ·exact wpAny_pure free
  ·refine wpAny_bind ?_
   refine wpAny_field hit2 rfl (x := .bool f) rfl ?_
   cases f with
   | true =>
    dsimp only
    rw [if_neg (by decide)]
    exact wpAny_pure (wpAny_pure (told h2 _ _ hit2 (.inr ⟨a0, rfl⟩) (.refl ..)))
   | false =>
    dsimp only
    rw [if_pos (by decide)]
    refine wpAny_bind (wpAny_setField_rec hit2 (by simp) fun h3 e3 s3 => ?_)
    exact wpAny_pure (wpAny_pure (told h3 _ true e3 (.inr ⟨a0, rfl⟩) s3))
theorem ItG.tyIs (h : ItG s.heap it d i n ep) : s.TypeIs (.ref it) "dict_itemiterator" := let ⟨_, _, _, _, e, _⟩ := h; ⟨_, e, rfl⟩
theorem next_item {e : DictEntry} {Q : Option Value → Shared → Prop} (hit : ItG s.heap it d i es.size ep) (hod : s.heap.get? d = some od) (hdd : od.data = .dict es ep) (hx : es[i]? = some e)
 (hQ : ∀ h', ItG h' it d (i + 1) es.size ep → h'.get? s.heap.objs.size = some { cls := .type "tuple", data := .seq #[e.key, e.val] } → h'.objs.size = s.heap.objs.size + 1 → (∀ c o, c ≠ it → s.heap.get? c = some o → h'.get? c = some o) → Q (some (.ref s.heap.objs.size)) { s with heap := h' }) :
 wpAny (model prog w) A (pyNext (.ref it)) Q E s := by
 have hT := hit.tyIs
 obtain ⟨x, f, k, v, hat, hxx⟩ := hit
 have hlt : i < es.size := (Array.getElem?_eq_some_iff.mp hx).1
 unfold pyNext
 refine wpAny_bind (wpAny_attempt (wpAny_callSpecial?_slot (name := Str.ofString "__next__") hT F.slot_dict_itemiterator_next (wpAny_call_entry F.slot_dict_itemiterator_next hT F.entry_dict_itemiterator_next ?_ (F.args_dict_itemiterator_next_1 _))))
 refine wpAny_bind (wpAny_pure (wpAny_bind (wpAny_bind ?_)))
 first | refine wpAny_bind (wpAny_typeNameOfWhole_itemiter hT (wpAny_pure ?_)) | refine wpAny_bind (wpAny_typeNameOf_itemiter hT (wpAny_pure ?_))
 refine wpAny_bind (wpAny_fieldsOf hat rfl ?_)
 simp only [kZ, if_true]
 show wpAny _ _ (if (Value.ref d == Value.none) = true then _ else _) _ _ _
 rw [if_neg (show ¬ (Value.ref d == Value.none) = true from Bool.false_ne_true)]
 refine wpAny_bind (wpAny_pure (wpAny_bind (wpAny_dictEntries hod hdd ?_)))
 rw [if_neg (by simp)]
 refine wpAny_bind (wpAny_pure (wpAny_bind (wpAny_dictEpoch hod hdd ?_)))
 rw [if_neg (by simp)]
 refine wpAny_pure ?_
 simp only [show ¬ ((i : Int) < 0) from by omega, if_false, Int.toNat_natCast, hx]
 refine wpAny_bind ?_
 first | refine wpAny_bind (wpAny_typeNameOfWhole_itemiter hT (wpAny_pure ?_)) | refine wpAny_bind (wpAny_typeNameOf_itemiter hT (wpAny_pure ?_))
 refine wpAny_bind (wpAny_isOneOf_itemiter hT ?_)
 show wpAny _ _ (setField (.ref it) 3 (rawInt ((i : Int) + 1)) >>= _) _ _ s
 refine wpAny_bind (wpAny_setField_rec hat (by simp) fun h1 e1 s1 => ?_)
 have e1' : h1.get? it = some { cls := .type "dict_itemiterator", dict := none, data := .fields #[x, .bool f, .ref d, .int ((i + 1 : Nat) : Int) 0, .int es.size 0, .int ep 0, k, v], slots := #[] } := by
  have q : ((i + 1 : Nat) : Int) = (i : Int) + 1 := by omega
  rw [q]; simpa [rawInt] using e1
 have hT1 : Shared.TypeIs { s with heap := h1 } (.ref it) "dict_itemiterator" := ⟨_, e1', rfl⟩
 refine wpAny_bind (wpAny_holding ?_)
 refine wpAny_bind (wpAny_isOneOf_itemiter hT1 (wpAny_bind (wpAny_isOneOf_itemiter hT1 ?_)))
 show wpAny _ _ (Builtin.Dict_items.pairFromOwner (.ref it) 6 e.key e.val) _ _ { s with heap := h1 }
 have z1 : h1.objs.size = s.heap.objs.size := s1.1
 refine vg (s := { s with heap := h1 }) rfl e1' hxx fun h2 g2 t2 z2 k2 => ?_
 rw [z1] at t2 z2 ⊢
 exact wpAny_pure ⟨_, rfl, wpAny_pure (hQ h2 g2 t2 z2 fun c o hc q => k2 c o hc (s1.extBut c o hc q))⟩
theorem next_end {Q : Option Value → Shared → Prop} (hh : A.handled = none) (hit : ItG s.heap it d i es.size ep) (hod : s.heap.get? d = some od) (hdd : od.data = .dict es ep) (hx : es.size ≤ i)
 (hQ : ∀ h', Heap.ExtBut it s.heap h' → Q none { s with heap := h' }) : wpAny (model prog w) A (pyNext (.ref it)) Q E s := by
 have hT := hit.tyIs
 obtain ⟨x, f, k, v, hat, hxx⟩ := hit
 unfold pyNext
 refine wpAny_bind (wpAny_attempt (wpAny_callSpecial?_slot (name := Str.ofString "__next__") hT F.slot_dict_itemiterator_next (wpAny_call_entry F.slot_dict_itemiterator_next hT F.entry_dict_itemiterator_next ?_ (F.args_dict_itemiterator_next_1 _))))
 refine wpAny_bind (wpAny_pure (wpAny_bind (wpAny_bind ?_)))
 first | refine wpAny_bind (wpAny_typeNameOfWhole_itemiter hT (wpAny_pure ?_)) | refine wpAny_bind (wpAny_typeNameOf_itemiter hT (wpAny_pure ?_))
 refine wpAny_bind (wpAny_fieldsOf hat rfl ?_)
 simp only [kZ, if_true]
 show wpAny _ _ (if (Value.ref d == Value.none) = true then _ else _) _ _ _
 rw [if_neg (show ¬ (Value.ref d == Value.none) = true from Bool.false_ne_true)]
 refine wpAny_bind (wpAny_pure (wpAny_bind (wpAny_dictEntries hod hdd ?_)))
 rw [if_neg (by simp)]
 refine wpAny_bind (wpAny_pure (wpAny_bind (wpAny_dictEpoch hod hdd ?_)))
 rw [if_neg (by simp)]
 refine wpAny_pure ?_
 simp only [show ¬ ((i : Int) < 0) from by omega, if_false, Int.toNat_natCast, Array.getElem?_eq_none hx]
 refine wpAny_bind ?_
 first | refine wpAny_bind (wpAny_typeNameOfWhole_itemiter hT (wpAny_pure ?_)) | refine wpAny_bind (wpAny_typeNameOf_itemiter hT (wpAny_pure ?_))
 show wpAny _ _ (setField (.ref it) 2 .none >>= _) _ _ s
 refine wpAny_bind (wpAny_setField hat rfl (by simp) (wpAny_bind ?_))
 simp only [newExc, newTuple]
 refine wpAny_bind (wpAny_newObj_type ?_ (by size_fits))
 refine wpAny_bind (m := firstArgMember _ _) (wpAny_of_eq (a := Value.none) (by first | rfl | (simp only [firstArgMember]; rfl)) ?_)
 refine wpAny_newObj_type ?_ (by size_fits)
 simp only [raiseNew]
 refine wpAny_bind (wpAny_handled ?_)
 rw [show A.in1.handled = none from hh]
 refine wpAny_bind (wpAny_pure (wpAny_throw ?_))
 refine wpAny_bind (wpAny_isInstance (T := "StopIteration") (b := true) ⟨_, Heap.get?_push_size _ rfl, rfl⟩ isSubtype_stop ?_)
 exact wpAny_pure (hQ _ (((Heap.SameBut.update ..).extBut.push _).push _))
theorem yg {tg : Expr} {a : Addr} {Q : Unit → Shared → Prop} (hit : ItG s.heap it d i n ep) (h : ∀ h', ItG h' it d i n ep → Heap.SameBut it s.heap h' → Q () { s with heap := h' }) : wpAny (model prog w) A (letOwnedTupleGo tg (.ref it) (.ref a)) Q E s := by
 have stay : Q () s := h s.heap hit (.refl ..)
 obtain ⟨x, f, k, v, hat, hxx⟩ := hit
 have part : wpAny (model prog w) A (do
  let o ← load it
  match o.cls, o.data with
  | .type n, .fields vs =>
   if (["enumerate", "zip", "dict_itemiterator", "dict_reverseitemiterator", "odict_iterator", "itertools.zip_longest", "itertools.pairwise"].contains n && vs[0]? == some (rawInt a)) = true then do
    rule "for.unpacks-the-owned-tuple"
    updateField it 0 .none
   else pure ()
  | _, _ => pure ()) Q E s := by
  refine wpAny_bind (wpAny_load hat ?_)
  dsimp only
  split
  ·refine wpAny_bind (wpAny_rule ?_)
   show wpAny _ _ (setField (.ref it) 0 .none) Q E s
   exact wpAny_setField_rec hat (by simp) fun h' e' s' => h h' ⟨_, _, _, _, e', .inl rfl⟩ s'
  ·exact wpAny_pure stay
 unfold letOwnedTupleGo
 cases tg <;> first
  | exact wpAny_pure stay
  | exact part
end
end EV
set_option Elab.async false
set_option linter.all false
set_option maxRecDepth 100000
namespace EV
open PySem PySem.Spec PySem.Calls PyProof.Rows L2
def bB : HO → List (V × V)
 | .dK ys => ys.map fun y => (kV y.1, y.2)
 | .dT ys => ys.map fun y => (.ref y.2.1, y.2.2)
 | _ => []
theorem qB {k : Key} {v : Value} (h : iC k v = true) : RelV (kV k) v := by
 rcases aM h with ⟨i, t, rfl, rfl⟩ | ⟨x, t, rfl, rfl⟩
 ·exact ⟨t, rfl⟩
 ·exact ⟨t, rfl⟩
theorem bX {P : Program} {w : World} {H : Hp} {h : Heap} {d : Addr} {o : Obj} {u : HO} (ok : aJ P w H h d u) (hd : HO.dct u) (ho : h.get? d = some o) :
 o.ExactDict ∧ ∃ es ep, o.data = .dict es ep ∧ Paired (fun (a : V × V) (e : DictEntry) => RelV a.1 e.key ∧ RelV a.2 e.val) (bB u) es.toList ∧ (d == sysModules) = false ∧ (bB u).length ≤ sizeLine := by
 cases u with
 | dK ys =>
  obtain ⟨z, y, vs, kv, o', es, ep, h1, h2, h3, h4, h5, h6⟩ := ok
  rw [ho] at h1; cases h1
  refine ⟨h2, es, ep, h3, ?_, y, by simpa [bB] using z⟩
  show Paired _ (ys.map _) _
  clear h3 h4 h6 z
  generalize es.toList = l at h5 ⊢
  unfold KV at kv
  induction kv generalizing l with
  | nil => cases h5; exact .nil
  | @cons a b as bs q t ih =>
   cases h5 with
   | cons r t' t'' => exact .cons ⟨by show L2.RelV (kV a.1) _; rw [q.1]; exact qB r, by rw [t']; exact q.2⟩ (ih hd _ t'')
 | dT ys =>
  obtain ⟨z, y, xs, kv, o', es, ep, h1, h2, h3, h4, h5⟩ := ok
  rw [ho] at h1; cases h1
  refine ⟨h2, es, ep, h3, ?_, y, by simpa [bB] using z⟩
  rw [h4]
  show Paired _ (ys.map _) _
  clear h3 h4 h5 z
  induction kv with
  | nil => exact .nil
  | @cons a b as bs q t ih =>
   rw [List.map_cons, List.map_cons]
   refine .cons ⟨?_, q.2.2⟩ (ih hd)
   show Value.ref b.2.1 = Value.ref a.2.1
   rw [q.2.1]
 | _ => exact hd.elim
theorem cX {α β : Type} {F : α → β → Prop} : ∀ {l : List α} {m : List β} {i : Nat} {a : α}, Paired F l m → l[i]? = some a → ∃ b, m[i]? = some b ∧ F a b
 | _, _, _, _, .nil, e => by simp at e
 | _, _, 0, _, .cons r _, e => by simp at e; subst e; exact ⟨_, rfl, r⟩
 | _, _, i + 1, a, .cons _ t, e => by
  obtain ⟨b, h1, h2⟩ := cX (i := i) t (by simpa using e)
  exact ⟨b, by simpa using h1, h2⟩
def Itd (d : Addr) (o : Obj) (u : HO) : It :=
 ⟨fun i H => H d = some (.frz o u) ∧ i < (bB u).length, fun i H x H' => ∃ p kv, (bB u)[i]? = some kv ∧ x = .ref p ∧ H p = none ∧ H' = upd H p (.tup [kv.1, kv.2]), fun i H => H d = some (.frz o u) ∧ (bB u).length ≤ i⟩
theorem rV : entryFor table "dict_itemiterator.__iter__" = some Builtin.«dict_keyiterator.__iter__» := entryFor_alias (id' := "dict_keyiterator.__iter__") (by kernel_rfl) rfl (by decide +kernel) (by kernel_rfl)
theorem iW {P : Program} {w : World} {K : PySem.W.Frag} {tg : Expr} {d it : Addr} {o : Obj} {u : HO} {es : Array DictEntry} {ep : Nat} (hd : HO.dct u) (hod : o.data = .dict es ep) (hne : it ≠ d) (hes : es.size = (bB u).length) :
 Turn P w K tg (Itd d o u) [it] it (fun i h => ItG h it d i es.size ep) where
 mem := by simp
 obj := fun i h st b hb => by
  have e : b = it := by simpa using hb
  subst e
  obtain ⟨x, f, k, v, e, _⟩ := st
  exact ⟨_, e, fun v z => by
   have z' : Data.fields _ = Data.cell v := z
   cases z'⟩
 keep := fun i h h' st k => by
  obtain ⟨x, f, kk, v, e, hx⟩ := st
  exact ⟨x, f, kk, v, k it (by simp) _ e, hx⟩
 item := by
  intro X hP hw hK hc i pins s σ H E I hf st hg
  subst hP hw hK
  obtain ⟨hH, hi⟩ := hg
  obtain ⟨f0, f1, f2, f3, f4, f5⟩ := hf it (by simp)
  obtain ⟨ho, ok⟩ := (show aJ X.prog X.w H s.heap d (.frz o u) from I.hok d _ hH)
  obtain ⟨_, es', ep', e1, e2, _⟩ := bX ok hd ho
  rw [hod] at e1; cases e1
  obtain ⟨e, he, re⟩ := cX e2 (List.getElem?_eq_getElem hi)
  have he' : es[i]? = some e := by simpa using he
  refine next_item st ho hod he' fun h1 g1 t1 z1 k1 => ?_
  have hil : it < s.heap.objs.size := by
   obtain ⟨_, _, _, _, q, _⟩ := st
   exact Heap.lt_size q
  have Hp : H s.heap.objs.size = none := I.hok.fresh (Nat.le_refl _)
  have hit0 : it ≠ s.heap.objs.size := Nat.ne_of_lt hil
  generalize hkv : (bB u)[i] = kv at re
  have IA : Inv X pins σ (upd H s.heap.objs.size (.tup [kv.1, kv.2])) { s with heap := s.heap.push { cls := .type "tuple", data := .seq #[e.key, e.val] }, toks := s.toks } :=
   I.laid (a := s.heap.objs.size) (o := .tup [kv.1, kv.2]) (fun _ _ q => Heap.get?_push_of_some _ q) (Nat.le_refl _) ⟨by show 2 ≤ sizeLine; decide, [e.key, e.val], .cons re.1 (.cons re.2 .nil), _, Heap.get?_push_size _ rfl, rfl, 0, rfl⟩
  have g0 : upd H s.heap.objs.size (.tup [kv.1, kv.2]) it = none := by rw [ah hit0]; exact f0
  have I1 : Inv X pins σ (upd H s.heap.objs.size (.tup [kv.1, kv.2])) { s with heap := h1, toks := s.toks } := IA.turned (fun b o hb q => by
   by_cases z : b = s.heap.objs.size
   ·subst z
    rw [Heap.get?_push_size _ rfl] at q; cases q; exact t1
   ·have lt : b < s.heap.objs.size := by
     have := Heap.lt_size q
     rw [Heap.size_push] at this
     exact Nat.lt_of_le_of_ne (Nat.le_of_lt_succ this) z
    refine k1 b o hb ?_
    rw [Heap.get?_push_ne _ _ _ z] at q; exact q) g0 f1 f3 f4 f5
  refine ⟨_, rfl, yg (s := { s with heap := h1 }) g1 fun h2 g2 s2 => ?_⟩
  refine ⟨.ref s.heap.objs.size, _, I1.turned (t' := s.toks) (fun b o hb q => (s2.2 b hb).trans q) g0 f1 f3 f4 f5, rfl, ⟨_, kv, by rw [List.getElem?_eq_getElem hi, hkv], rfl, Hp, rfl⟩, g2, fun b hb => ?_⟩
  have e : b = it := by simpa using hb
  rw [e]; exact g0
 done := by
  intro X hP hw hK hc i pins s σ H E I hf st hg
  subst hP hw hK
  obtain ⟨hH, hi⟩ := hg
  obtain ⟨f0, f1, f2, f3, f4, f5⟩ := hf it (by simp)
  obtain ⟨ho, ok⟩ := (show aJ X.prog X.w H s.heap d (.frz o u) from I.hok d _ hH)
  exact next_end (I.ok.hd hc) st ho hod (by omega) fun h' eb => ⟨rfl, I.turned (t' := s.toks) (fun b o hb e => eb b o hb e) f0 f1 f3 f4 f5⟩
 self := by
  intro A i s Q E st h
  have hT := st.tyIs
  refine wpAny_pyIter_slot hT F.slot_dict_itemiterator_iter (wpAny_call_entry F.slot_dict_itemiterator_iter hT rV ?_ (F.args_dict_itemiterator_iter_1 _))
  show wpAny _ _ (ret (.ref it)) _ _ s
  exact wpAny_pure ⟨_, rfl, "dict_itemiterator", _, hT, F.slot_dict_itemiterator_next.lookup, h⟩
section
variable {prog : Program} {w : World} {A : Around} {E : Value → Shared → Prop} {s : Shared}
theorem gM (d : Addr) (hd : (d == sysModules) = false) :
 MeetsIn prog w (Builtin.«dict.items» ⟨[.ref d], []⟩) (fun _ R s => s.TypeIs (.ref d) "dict" ∧ R (.ok (.ret (.ref s.heap.objs.size))) { s with heap := s.heap.push { cls := .type "dict_items", data := .fields #[.ref d] } }) :=
 .of_wp fun A R s ⟨hT, h⟩ => by
  unfold Builtin.«dict.items»
  refine wpAny_bind ?_
  unfold Builtin.Dict.noArgs
  refine wpAny_bind (wpAny_notOrdered_dict hT (show wpAny _ _ (pure d) _ _ s from wpAny_pure ?_))
  show wpAny _ _ (Builtin.Dict.showsAll d >>= _) _ _ s
  unfold Builtin.Dict.showsAll
  rw [if_neg (by rw [hd]; exact Bool.false_ne_true)]
  exact wpAny_bind (wpAny_pure (wpAny_bind (wpAny_newObj_type (wpAny_pure ⟨_, rfl, h⟩))))
theorem j3 {v d : Addr} {od : Obj} {es : Array DictEntry} {ep : Nat} {Q : Value → Shared → Prop} (hv : s.heap.IsItemsView v d) (hod : s.heap.get? d = some od) (hdd : od.data = .dict es ep)
 (hQ : Q (.ref s.heap.objs.size) { s with heap := s.heap.push { cls := .type "dict_itemiterator", data := .fields #[.none, .bool false, .ref d, .int 0 0, .int es.size 0, .int ep 0, .none, .none] } }) :
 wpAny (model prog w) A (pyIter (.ref v)) Q E s := by
 obtain ⟨ov, hov, hcv, hdv⟩ := id hv
 refine wpAny_pyIter_slot hv.typeIs F.slot_dict_items_iter (wpAny_call_entry F.slot_dict_items_iter hv.typeIs F.entry_dict_items_iter ?_ (F.args_dict_items_iter_1 _))
 unfold Builtin.«dict_items.__iter__»
 refine wpAny_bind (wpAny_pure (wpAny_bind ?_))
 unfold Builtin.Dict_items.dictOf
 refine wpAny_bind (wpAny_field hov hdv (x := .ref d) rfl (wpAny_pure (wpAny_bind ?_)))
 unfold Builtin.Dict_items.newIterator
 refine wpAny_bind (wpAny_dictEntries hod hdd (wpAny_bind (wpAny_dictEpoch hod hdd ?_)))
 simp only [kZ, if_true]
 refine wpAny_newObj_type (wpAny_pure ⟨_, rfl, "dict_itemiterator", _, ⟨_, Heap.get?_push_size _ rfl, rfl⟩, F.slot_dict_itemiterator_next.lookup, ?_⟩)
  (by simp only [sizeOk, Builtin.Dict_items.ownedTupleFields, List.size_toArray, List.length_append, List.length_cons, List.length_nil, sizeLine_eq]; omega)
 simpa [rawInt, Builtin.Dict_items.ownedTupleFields] using hQ
end
def rX : Key → D | .inl i => .int i | .inr x => .str x
def D.pairs : D → Option (List D)
 | .fdK ks ds => some (List.zipWith (fun k d => D.tup [rX k, d]) ks ds)
 | .fdT ks ds => some (List.zipWith (fun k d => D.tup [.tup (k.map rX), d]) ks ds)
 | _ => none
def A1 (te : TE) : TI := fun σ H R => te σ H fun x H1 => ∃ d o u, x = .ref d ∧ H1 d = some (.frz o u) ∧ HO.dct u ∧ ∀ v, H1 v = none → R (Itd d o u) (upd H1 v (.ext fun h => h.IsItemsView v d))
theorem vh {X : Cx} {tg e : Expr} {ap cp : Pos} {te : TE} (he : PE X e te) (hbase : attributeBase e "items" X.env (eval e X.env) = eval e X.env) (hline : (ap.endLine == cp.line) = true) : PI X tg (.Call (.Attribute e "items" ap) [] [] cp) (A1 te) := by
 intro pins s σ H R I h
 refine wpAny_Call_method (T := "dict") (id := "dict.items") hbase rfl hline F.plainAttrs_dict F.slot_dict_items F.type_dict_items (thn (he pins s σ H _ I h) fun v s1 ⟨x, H1, I1, r1, d, o, u, ex, hH, hd, q⟩ => ?_)
 subst ex
 cases r1
 obtain ⟨ho, ok⟩ := (show aJ X.prog X.w H1 s1.heap d (.frz o u) from I1.hok d _ hH)
 obtain ⟨hx, es, ep, hod, hp, hs, hz⟩ := bX ok hd ho
 have hT : s1.TypeIs (.ref d) "dict" := ⟨o, ho, hx.1⟩
 refine ⟨hT, fun b z => by cases z; exact ⟨o, ho, hx.2.1⟩, ?_⟩
 show wpAny _ _ (callWith cp (.builtin "dict.items") [.ref d] [] []) _ _ s1
 refine method_meetsIn F.slot_dict_items F.entry_dict_items rfl (PySem.evalArgs_none ⟨rfl, hT, F.args_dict_items_1 _, _, gM d hs, hT, ?_⟩)
 have Hv : H1 s1.heap.objs.size = none := I1.hok.fresh (Nat.le_refl _)
 have hve : (s1.heap.push { cls := .type "dict_items", data := .fields #[.ref d] }).IsItemsView s1.heap.objs.size d := ⟨_, Heap.get?_push_size _ rfl, rfl, rfl⟩
 have I2 : Inv X pins σ (upd H1 s1.heap.objs.size (.ext fun h => h.IsItemsView s1.heap.objs.size d)) { s1 with heap := s1.heap.push { cls := .type "dict_items", data := .fields #[.ref d] }, toks := s1.toks } :=
  I1.laid (a := s1.heap.objs.size) (fun _ _ q => Heap.get?_push_of_some _ q) (Nat.le_refl _) ⟨hve, ⟨_, Heap.get?_push_size _ rfl⟩, fun h1 h2 ⟨o, e, r⟩ k => ⟨o, k o e, r⟩⟩
 refine j3 hve (Heap.get?_push_of_some _ ho) hod ?_
 have hsz : es.size = (bB u).length := by rw [Paired.length hp]; simp
 have I3 := I2.kept (t' := s1.toks) (h' := (s1.heap.push { cls := .type "dict_items", data := .fields #[.ref d] }).push { cls := .type "dict_itemiterator", data := .fields #[.none, .bool false, .ref d, .int 0 0, .int es.size 0, .int ep 0, .none, .none] }) fun b o e => Heap.get?_push_of_some _ e
 refine ⟨_, [_], _, _, _, rfl, I3, iW (o := o) (u := u) (es := es) (ep := ep) hd hod (fun z => ?_) hsz, ⟨.none, false, .none, .none, Heap.get?_push_size _ rfl, .inl rfl⟩, fun b hb => ?_, q _ Hv⟩
 ·have lt := Heap.lt_size (Heap.get?_push_of_some ({ cls := .type "dict_items", data := .fields #[.ref d] } : Obj) ho)
  rw [z] at lt
  exact absurd lt (Nat.lt_irrefl _)
 ·have e : b = (s1.heap.push { cls := .type "dict_items", data := .fields #[.ref d] }).objs.size := by simpa using hb
  subst e
  exact I2.jy (Nat.le_refl _) (I2.hok.fresh (Nat.le_refl _))
end EV
set_option Elab.async false
set_option linter.all false
set_option maxRecDepth 100000
namespace EV
open PySem PySem.Spec PySem.Calls PyProof.Rows L2
section
variable {K : PySem.W.Frag} {Hf : Hp}
theorem mJ {k : Key} : Rep K Hf (rX k) (kV k) := by
 cases k with
 | inl i => exact ak.mpr rfl
 | inr x => exact cU.mpr rfl
theorem j4 : ∀ {ks : List Key}, aj K Hf (ks.map rX) (ks.map kV)
 | [] => av.mpr rfl
 | k :: ks => .cons mJ j4
def d9 (K : PySem.W.Frag) (Hf : Hp) (d : D) (kv : V × V) : Prop := ∃ k e, d = .tup [k, e] ∧ Rep K Hf k kv.1 ∧ Rep K Hf e kv.2
theorem d9.mono {Hf' : Hp} {d : D} {kv : V × V} (s : aC Hf Hf') (h : d9 K Hf d kv) : d9 K Hf' d kv := let ⟨k, e, h1, h2, h3⟩ := h; ⟨k, e, h1, Rep.mono s k h2, Rep.mono s e h3⟩
theorem qC : ∀ {ys : List (Key × V)} {vs : List D}, aj K Hf vs (ys.map (·.2)) → Paired (d9 K Hf) (List.zipWith (fun k d => D.tup [rX k, d]) (ys.map (·.1)) vs) (ys.map fun y => (kV y.1, y.2))
 | [], vs, h => by
  cases vs with
  | nil => exact .nil
  | cons d ds => obtain ⟨x, r, e, _⟩ := az.mp h; cases e
 | y :: ys, vs, h => by
  cases vs with
  | nil => rw [av] at h; cases h
  | cons d ds =>
   obtain ⟨x, r, e, h1, h2⟩ := az.mp h
   cases e
   exact .cons ⟨_, _, rfl, mJ, h1⟩ (qC h2)
theorem qD : ∀ {ys : List (List Key × Addr × V)} {vs : List D}, (∀ y ∈ ys, SqT K Hf y.2.1 (y.1.map kV)) → aj K Hf vs (ys.map (·.2.2)) → Paired (d9 K Hf) (List.zipWith (fun k d => D.tup [.tup (k.map rX), d]) (ys.map (·.1)) vs) (ys.map fun y => (.ref y.2.1, y.2.2))
 | [], vs, _, h => by
  cases vs with
  | nil => exact .nil
  | cons d ds => obtain ⟨x, r, e, _⟩ := az.mp h; cases e
 | y :: ys, vs, hk, h => by
  cases vs with
  | nil => rw [av] at h; cases h
  | cons d ds =>
   obtain ⟨x, r, e, h1, h2⟩ := az.mp h
   cases e
   exact .cons ⟨_, _, rfl, aA.mpr ⟨_, _, rfl, hk y List.mem_cons_self, j4⟩, h1⟩ (qD (fun z hz => hk z (List.mem_cons_of_mem _ hz)) h2)
theorem j5 {d : D} {ds : List D} {v : V} (hp : d.pairs = some ds) (h : Rep K Hf d v) : ∃ a o u, v = .ref a ∧ Hf a = some (.frz o u) ∧ HO.dct u ∧ Paired (d9 K Hf) ds (bB u) := by
 cases d with
 | fdK ks vs =>
  cases hp
  obtain ⟨a, ys, o, rfl, h1, h2, h3⟩ := fC.mp h
  subst h2
  exact ⟨a, o, _, rfl, h1, trivial, qC h3⟩
 | fdT ks vs =>
  cases hp
  obtain ⟨a, ys, o, rfl, h1, h2, h3, h4⟩ := kK.mp h
  subst h2
  exact ⟨a, o, _, rfl, h1, trivial, qD h3 h4⟩
 | _ => cases hp
theorem iX {ds : List D} {a : Addr} {o : Obj} {u : HO} (h : Hf a = some (.frz o u)) (hp : Paired (d9 K Hf) ds (bB u)) : gS K (Itd a o u) ds Hf where
 go := fun i d H Hf1 s1 s2 e => by
  obtain ⟨kv, ekv, k, dd, rfl, r1, r2⟩ := cX hp e
  refine ⟨⟨s2 _ _ (s1 _ _ h), (List.getElem?_eq_some_iff.mp ekv).1⟩, fun x H' ⟨p, kv', e1, e2, e3, e4⟩ => ?_⟩
  rw [ekv] at e1; cases e1
  subst e2 e4
  have g := Grw.new s2 e3 (o := .tup [kv.1, kv.2])
  exact ⟨upd Hf1 p (.tup [kv.1, kv.2]), g, aA.mpr ⟨p, _, rfl, .inl (.inl ai), .cons (Rep.mono (s1.trans g.f) _ r1) (.cons (Rep.mono (s1.trans g.f) _ r2) (av.mpr rfl))⟩⟩
 stop := fun i H Hf1 s1 s2 e => ⟨s2 _ _ (s1 _ _ h), by rw [← Paired.length hp]; exact e⟩
end
section
variable {P : Program} {w : World} {K : PySem.W.Frag} {mg : Str → Option Value} {base : Heap} {k : Nat} {N : List Str} {sc : Scope} {bk : Bool} {c : Ctx P w K mg base k N sc bk} {ρ : List Sl} {ap cp : Pos} {e tg : Expr}
theorem yh {R : List D → Prop} (h : EvE c e ρ fun d => ∃ ds, d.pairs = some ds ∧ R ds)
 (hb : ∀ env, attributeBase e (Str.ofString "items") env (eval e env) = eval e env := by intro _; with_unfolding_all rfl) (hl : (ap.endLine == cp.line) = true := by with_unfolding_all rfl) :
 EvI c tg (.Call (.Attribute e (Str.ofString "items") ap) [] [] cp) ρ R := fun σ H Hf Q S q pins s I =>
 vh (pbE (X := c.X)) (hb _) hl pins s σ H Q I (h σ H Hf _ S fun d v H1 Hf1 ⟨ds, hp, hR⟩ rv g => by
  obtain ⟨a, o, u, e1, e2, e3, e4⟩ := j5 hp rv
  refine ⟨a, o, u, e1, g.b _ _ e2, e3, fun vw hv => ?_⟩
  exact q ds _ _ Hf1 hR (g.trans (Grw.dZ g.b hv)) (iX e2 e4))
theorem A2 {x : D} {ds : List D} {Q : List D → Prop} (e : x.pairs = some ds) (h : Q ds) : ∃ ys, x.pairs = some ys ∧ Q ys := ⟨ds, e, h⟩
end
end EV
set_option Elab.async false
set_option linter.all false
set_option maxRecDepth 100000
namespace SR
open PySem PyProof.Rows
def cY : Bool → Keyed → Array Keyed → Nat → Nat → Nat → StateT SortSt Sem (Option Nat) := sortPriv% PySem.Builtin.gallop
def jF : Nat → StateT SortSt Sem Unit := sortPriv% PySem.Builtin.setMinGallop
def cg (left : Bool) (key : Keyed) (arr : Array Keyed) (base i : Nat) : StateT SortSt Sem (Option Bool) := do
 let x ← elem' arr (base + i)
 if left then lt' x key else return (← lt' key x).map (!·)
abbrev mK := Option (Option Nat) × Nat × Nat
def iY (bey : Nat → StateT SortSt Sem (Option Bool)) (n lo hi : Nat) : StateT SortSt Sem (Option Nat) := do
 let __s ← forIn [0:n] ((none, lo, hi) : mK) fun _ __s =>
  if __s.snd.fst ≥ __s.snd.snd then pure (ForInStep.done (none, __s.snd.fst, __s.snd.snd))
  else do
   let __x ← bey (__s.snd.fst + (__s.snd.snd - __s.snd.fst) / 2)
   match __x with
   | some more => if more = true then pure (ForInStep.yield (none, __s.snd.fst + (__s.snd.snd - __s.snd.fst) / 2 + 1, __s.snd.snd)) else pure (ForInStep.yield (none, __s.snd.fst, __s.snd.fst + (__s.snd.snd - __s.snd.fst) / 2))
   | _ => pure (ForInStep.done (some none, __s.snd.fst, __s.snd.snd))
 match __s.fst with
 | some r => pure r
 | none => pure (some __s.snd.snd)
def vj (bey : Nat → StateT SortSt Sem (Option Bool)) (n hint maxofs : Nat) : StateT SortSt Sem mK :=
 forIn [0:n] ((none, 0, 1) : mK) fun _ __s =>
  if __s.snd.snd ≥ maxofs then pure (ForInStep.done (none, __s.snd.fst, __s.snd.snd))
  else do
   let __x ← bey (hint + __s.snd.snd)
   match __x with
   | some more => if (!more) = true then pure (ForInStep.done (none, __s.snd.fst, __s.snd.snd)) else pure (ForInStep.yield (none, __s.snd.snd, 2 * __s.snd.snd + 1))
   | _ => pure (ForInStep.done (some none, __s.snd.fst, __s.snd.snd))
def vm (bey : Nat → StateT SortSt Sem (Option Bool)) (n hint maxofs : Nat) : StateT SortSt Sem mK :=
 forIn [0:n] ((none, 0, 1) : mK) fun _ __s =>
  if __s.snd.snd ≥ maxofs then pure (ForInStep.done (none, __s.snd.fst, __s.snd.snd))
  else do
   let __x ← bey (hint - __s.snd.snd)
   match __x with
   | some found => if found = true then pure (ForInStep.done (none, __s.snd.fst, __s.snd.snd)) else pure (ForInStep.yield (none, __s.snd.snd, 2 * __s.snd.snd + 1))
   | _ => pure (ForInStep.done (some none, __s.snd.fst, __s.snd.snd))
local macro_rules | `(tactic| walk_at "dl gallop") => do
 let i := Lean.mkIdent (Lean.mkPrivateNameCore `PySem.Builtin.List.W1All `PySem.Builtin.gallop)
 `(tactic| delta $i)
theorem oZ (left : Bool) (key : Keyed) (arr : Array Keyed) (base n hint : Nat) : cY left key arr base n hint = (do
 let __x ← cg left key arr base hint
 match __x with
 | some right =>
  if right = true then do
   let __s ← vj (cg left key arr base) n hint (n - hint)
   match __s.fst with
   | some r => pure r
   | none => iY (cg left key arr base) n (hint + __s.snd.fst + 1) (hint + min __s.snd.snd (n - hint))
  else do
   let __s ← vm (cg left key arr base) n hint (hint + 1)
   match __s.fst with
   | some r => pure r
   | none => iY (cg left key arr base) n (hint + 1 - min __s.snd.snd (hint + 1)) (hint - __s.snd.fst)
 | _ => pure none) := by
 unfold cY
 walk_at "dl gallop"
 unfold vj vm iY cg
 dsimp only
 congr 1
 funext x
 cases x with
 | none => rfl
 | some right =>
  dsimp only
  cases right with
  | true =>
   rw [if_pos rfl, if_pos rfl]
   congr 1
   funext c
   obtain ⟨r, l, o⟩ := c
   cases r with
   | some r => rfl
   | none =>
    dsimp only
    congr 1
    funext c
    obtain ⟨r, l, o⟩ := c
    cases r <;> rfl
  | false =>
   rw [if_neg Bool.false_ne_true, if_neg Bool.false_ne_true]
   congr 1
   funext c
   obtain ⟨r, l, o⟩ := c
   cases r with
   | some r => rfl
   | none =>
    dsimp only
    congr 1
    funext c
    obtain ⟨r, l, o⟩ := c
    cases r <;> rfl
section
variable {prog : Program} {w : World} {A : Around} {E : Value → Shared → Prop} {s : Shared} {L : List Keyed} {κ : SortKind} {rk : Keyed → Int}
def Cmp (prog : Program) (w : World) (A : Around) (s : Shared) (κ : SortKind) (rk : Keyed → Int) (L : List Keyed) : Prop :=
 ∀ x ∈ L, ∀ y ∈ L, ∀ (E : Value → Shared → Prop) (Q : Bool → Shared → Prop), Q (decide (rk x < rk y)) s → wpAny (model prog w) A (keyLt' κ x.1 y.1) Q E s
def R (rk : Keyed → Int) (xs : Array Keyed) (i : Nat) : Int := match xs[i]? with | some p => rk p | none => 0
theorem cj {xs : Array Keyed} {i : Nat} {p : Keyed} (h : xs[i]? = some p) : R rk xs i = rk p := by unfold R; rw [h]
theorem br {xs ys : Array Keyed} {i j : Nat} (h : xs[i]? = ys[j]?) : R rk xs i = R rk ys j := by unfold R; rw [h]
theorem iZ {st : SortSt} {x y : Keyed} {Q : Option Bool → SortSt → Prop} (hC : Cmp prog w A s κ rk L) (hk : kindOf st = κ) (hx : x ∈ L) (hy : y ∈ L) (h : Q (some (decide (rk x < rk y))) st) : wpS (model prog w) A E s (lt' x y) Q st := by
 rw [lt'_eq]
 refine wpS_bind (wpS_get ?_)
 rw [hk]
 refine wpS_bind (wpS_lift (wpAny_attempt (hC x hx y hy _ _ ⟨rfl, ?_⟩)))
 exact wpS_pure h
theorem ay {st : SortSt} {arr : Array Keyed} {i : Nat} {p : Keyed} {Q : Keyed → SortSt → Prop} (hi : arr[i]? = some p) (h : Q p st) : wpS (model prog w) A E s (elem' arr i) Q st := by
 rw [elem'_eq, hi]; exact wpS_pure h
theorem rY {st : SortSt} {i j : Nat} {p q : Keyed} {Q : Option Bool → SortSt → Prop} (hC : Cmp prog w A s κ rk L) (hk : kindOf st = κ) (hi : (arrOf st)[i]? = some p) (hj : (arrOf st)[j]? = some q) (hp : p ∈ L) (hq : q ∈ L)
 (h : Q (some (decide (R rk (arrOf st) i < R rk (arrOf st) j))) st) : wpS (model prog w) A E s (ltAt' i j) Q st := by
 rw [ltAt'_eq]
 refine wpS_bind (wpS_get ?_)
 show wpS _ _ _ _ (do let x ← elem' (arrOf st) i; let y ← elem' (arrOf st) j; lt' x y) Q st
 refine wpS_bind (ay hi (wpS_bind (ay hj (iZ hC hk hp hq ?_))))
 rw [cj hi, cj hj] at h
 exact h
theorem o7 {st : SortSt} {left : Bool} {key : Keyed} {arr : Array Keyed} {base i k : Nat} {p : Keyed} {Q : Option Bool → SortSt → Prop} (hC : Cmp prog w A s κ rk L) (hk : kindOf st = κ) (hkey : key ∈ L) (hi : arr[base + i]? = some p) (hp : p ∈ L)
 (hb : (if left = true then rk p < rk key else rk p ≤ rk key) ↔ i < k) (h : Q (some (decide (i < k))) st) : wpS (model prog w) A E s (cg left key arr base i) Q st := by
 unfold cg
 refine wpS_bind (ay hi ?_)
 cases left with
 | true =>
  simp only [if_true] at hb ⊢
  refine iZ hC hk hp hkey ?_
  rw [decide_eq_decide.mpr hb]; exact h
 | false =>
  simp only [Bool.false_eq_true, if_false] at hb ⊢
  refine wpS_bind (iZ hC hk hkey hp (wpS_pure ?_))
  have e : (!decide (rk key < rk p)) = decide (i < k) := by
   rw [← decide_not]; exact decide_eq_decide.mpr (by rw [← hb]; omega)
  rw [Option.map_some, e]; exact h
theorem i0 {st : SortSt} {bey : Nat → StateT SortSt Sem (Option Bool)} {n lo hi k : Nat} {Q : Option Nat → SortSt → Prop} (hb : ∀ i, i < n → ∀ (Q : Option Bool → SortSt → Prop), Q (some (decide (i < k))) st → wpS (model prog w) A E s (bey i) Q st)
 (h1 : lo ≤ k) (h2 : k ≤ hi) (h3 : hi ≤ n) (h : Q (some k) st) : wpS (model prog w) A E s (iY bey n lo hi) Q st := by
 unfold iY
 refine wpS_bind (wpS_mono (wpS_forRange (I := fun x c st' => st' = st ∧ ∃ l r, c = (none, l, r) ∧ l ≤ k ∧ k ≤ r ∧ r ≤ n ∧ r - l ≤ n - x) (Q := fun c st' => st' = st ∧ ∃ l, c = (none, l, k)) ?step ?fin ⟨rfl, lo, hi, rfl, h1, h2, h3, by omega⟩) ?post)
 case fin =>
  rintro c st' ⟨rfl, l, r, rfl, a1, a2, a3, a4⟩
  have : r = k := by omega
  subst this
  exact ⟨rfl, l, rfl⟩
 case step =>
  rintro x c st' _ hx ⟨rfl, l, r, rfl, a1, a2, a3, a4⟩
  dsimp only
  by_cases hge : l ≥ r
  ·rw [if_pos hge]
   have : r = k := by omega
   subst this
   exact wpS_pure ⟨rfl, l, rfl⟩
  ·rw [if_neg hge]
   refine wpS_bind (hb _ (by omega) _ ?_)
   dsimp only
   by_cases hm : l + (r - l) / 2 < k
   ·rw [decide_eq_true hm, if_pos rfl]
    exact wpS_pure ⟨rfl, _, _, rfl, by omega, by omega, by omega, by omega⟩
   ·rw [decide_eq_false hm, if_neg Bool.false_ne_true]
    exact wpS_pure ⟨rfl, _, _, rfl, by omega, by omega, by omega, by omega⟩
 case post =>
  rintro c st' ⟨rfl, l, rfl⟩
  exact wpS_pure h
theorem cZ {st : SortSt} {left : Bool} {key : Keyed} {arr : Array Keyed} {base n hint k : Nat} {Q : Option Nat → SortSt → Prop} (hC : Cmp prog w A s κ rk L) (hk : kindOf st = κ) (hkey : key ∈ L) (harr : ∀ i, i < n → ∃ p, arr[base + i]? = some p ∧ p ∈ L)
 (hb : ∀ i, i < n → ((if left = true then R rk arr (base + i) < rk key else R rk arr (base + i) ≤ rk key) ↔ i < k)) (hkn : k ≤ n) (hh : hint < n) (h : Q (some k) st) : wpS (model prog w) A E s (cY left key arr base n hint) Q st := by
 have bey : ∀ i, i < n → ∀ (Q : Option Bool → SortSt → Prop), Q (some (decide (i < k))) st → wpS (model prog w) A E s (cg left key arr base i) Q st := fun i hi Q hQ => by
  obtain ⟨p, e, hp⟩ := harr i hi
  refine o7 hC hk hkey e hp ?_ hQ
  have := hb i hi
  rw [cj e] at this
  exact this
 rw [oZ]
 refine wpS_bind (bey hint hh _ ?_)
 dsimp only
 by_cases hr : hint < k
 ·rw [decide_eq_true hr, if_pos rfl]
  unfold vj
  refine wpS_bind (wpS_mono (wpS_forRange (I := fun x c st' => st' = st ∧ ∃ l o, c = (none, l, o) ∧ hint + l < k ∧ x < o) (Q := fun c st' => st' = st ∧ ∃ l o, c = (none, l, o) ∧ hint + l < k ∧ (k ≤ hint + o ∨ n - hint ≤ o)) ?step ?fin ⟨rfl, 0, 1, rfl, hr, by omega⟩) ?post)
  case fin =>
   rintro c st' ⟨rfl, l, o, rfl, a1, a2⟩
   exact ⟨rfl, l, o, rfl, a1, .inr (by omega)⟩
  case step =>
   rintro x c st' _ hx ⟨rfl, l, o, rfl, a1, a2⟩
   dsimp only
   by_cases hge : o ≥ n - hint
   ·rw [if_pos hge]; exact wpS_pure ⟨rfl, l, o, rfl, a1, .inr hge⟩
   ·rw [if_neg hge]
    refine wpS_bind (bey _ (by omega) _ ?_)
    dsimp only
    by_cases hm : hint + o < k
    ·rw [decide_eq_true hm]; simp only [Bool.not_true, Bool.false_eq_true, if_false]
     exact wpS_pure ⟨rfl, o, 2 * o + 1, rfl, hm, by omega⟩
    ·rw [decide_eq_false hm]; simp only [Bool.not_false, if_true]
     exact wpS_pure ⟨rfl, l, o, rfl, a1, .inl (by omega)⟩
  case post =>
   rintro c st' ⟨rfl, l, o, rfl, a1, a2⟩
   dsimp only
   exact i0 bey (by omega) (by omega) (by omega) h
 ·rw [decide_eq_false hr, if_neg Bool.false_ne_true]
  unfold vm
  refine wpS_bind (wpS_mono (wpS_forRange (I := fun x c st' => st' = st ∧ ∃ l o, c = (none, l, o) ∧ l ≤ hint ∧ k ≤ hint - l ∧ x < o) (Q := fun c st' => st' = st ∧ ∃ l o, c = (none, l, o) ∧ l ≤ hint ∧ k ≤ hint - l ∧ (hint + 1 ≤ k + o ∨ hint + 1 ≤ o)) ?step ?fin ⟨rfl, 0, 1, rfl, by omega, by omega, by omega⟩) ?post)
  case fin =>
   rintro c st' ⟨rfl, l, o, rfl, a1, a2, a3⟩
   exact ⟨rfl, l, o, rfl, a1, a2, .inr (by omega)⟩
  case step =>
   rintro x c st' _ hx ⟨rfl, l, o, rfl, a1, a2, a3⟩
   dsimp only
   by_cases hge : o ≥ hint + 1
   ·rw [if_pos hge]; exact wpS_pure ⟨rfl, l, o, rfl, a1, a2, .inr hge⟩
   ·rw [if_neg hge]
    refine wpS_bind (bey _ (by omega) _ ?_)
    dsimp only
    by_cases hm : hint - o < k
    ·rw [decide_eq_true hm, if_pos rfl]
     exact wpS_pure ⟨rfl, l, o, rfl, a1, a2, .inl (by omega)⟩
    ·rw [decide_eq_false hm, if_neg Bool.false_ne_true]
     exact wpS_pure ⟨rfl, o, 2 * o + 1, rfl, by omega, by omega, by omega⟩
  case post =>
   rintro c st' ⟨rfl, l, o, rfl, a1, a2, a3⟩
   dsimp only
   exact i0 bey (by omega) (by omega) (by omega) h
end
end SR
set_option Elab.async false
set_option linter.all false
set_option maxRecDepth 100000
namespace SR
open PySem PyProof.Rows
def mO : Array Keyed → Array Keyed → StateT SortSt Sem (Array Keyed) := sortPriv% PySem.Builtin.mergeLo
theorem c7 {M : Model} {A : Around} {E : Value → Shared → Prop} {s : Shared} {g : Nat} {st : SortSt} {Q : Unit → SortSt → Prop} (h : Q () (SortSt.mk' (kindOf st) (arrOf st) (pendingOf st) g (failedOf st))) : wpS M A E s (jF g) Q st :=
 wpS_modify (f := fun st => SortSt.mk' (kindOf st) (arrOf st) (pendingOf st) g (failedOf st)) h
section
variable {rk : Keyed → Int} {a b : Array Keyed}
def Srt (rk : Keyed → Int) (xs : List Keyed) : Prop := xs.Pairwise fun p q => rk p ≤ rk q
def Res (rk : Keyed → Int) (a b r : Array Keyed) : Prop := r.toList.Perm (a.toList ++ b.toList) ∧ Srt rk r.toList
structure WL (rk : Keyed → Int) (a b : Array Keyed) (out : Array Keyed) (ia ib : Nat) : Prop where
 pa : ia ≤ a.size
 pb : ib ≤ b.size
 pm : out.toList.Perm (a.toList.take ia ++ b.toList.take ib)
 sr : Srt rk out.toList
 ha : ∀ p ∈ out.toList, ∀ (j : Nat) (q : Keyed), ia ≤ j → a[j]? = some q → rk p ≤ rk q
 hb : ∀ p ∈ out.toList, ∀ (j : Nat) (q : Keyed), ib ≤ j → b[j]? = some q → rk p ≤ rk q
def Up (rk : Keyed → Int) (a : Array Keyed) : Prop := ∀ (i j : Nat) (p q : Keyed), i ≤ j → a[i]? = some p → a[j]? = some q → rk p ≤ rk q
theorem gu (h : Up rk a) : Srt rk a.toList := by
 unfold Srt
 rw [List.pairwise_iff_getElem]
 intro i j hi hj hij
 exact h i j _ _ (Nat.le_of_lt hij) (by simp at hi ⊢) (by simp at hj ⊢)
theorem A3 (h : Srt rk a.toList) : Up rk a := fun i j p q hij e1 e2 => by
 rw [← Array.getElem?_toList] at e1 e2
 obtain ⟨h1, r1⟩ := List.getElem?_eq_some_iff.mp e1
 obtain ⟨h2, r2⟩ := List.getElem?_eq_some_iff.mp e2
 subst r1 r2
 rcases Nat.lt_or_eq_of_le hij with z | z
 ·exact (List.pairwise_iff_getElem.mp h) i j h1 h2 z
 ·subst z; exact Int.le_refl _
theorem aV {xs ys : List Keyed} (h1 : Srt rk xs) (h2 : Srt rk ys) (h3 : ∀ p ∈ xs, ∀ q ∈ ys, rk p ≤ rk q) : Srt rk (xs ++ ys) := List.pairwise_append.mpr ⟨h1, h2, h3⟩
theorem cA (xs : Array Keyed) (i j : Nat) : (xs.extract i j).toList = (xs.toList.take j).drop i := by
 rw [List.drop_take]; simp [List.extract_eq_take_drop]
theorem dU (xs : Array Keyed) (i : Nat) : (xs.extract i xs.size).toList = xs.toList.drop i := by
 rw [cA, List.take_of_length_le (by simp)]
theorem fM (xs : Array Keyed) (i : Nat) : (xs.extract i i).toList = [] := by
 rw [cA, List.drop_take]; simp
theorem qE {xs : Array Keyed} {i j : Nat} {q : Keyed} (h : q ∈ (xs.extract i j).toList) : ∃ k, i ≤ k ∧ k < j ∧ xs[k]? = some q := by
 obtain ⟨n, hn⟩ := List.getElem?_of_mem h
 rw [Array.getElem?_toList, Array.getElem?_extract] at hn
 split at hn
 ·rename_i z
  exact ⟨i + n, by omega, by omega, hn⟩
 ·cases hn
theorem WL.c8 {out : Array Keyed} {ia ib : Nat} (h : WL rk a b out ia ib) (ua : Up rk a) (e : ib = b.size) : Res rk a b (out ++ a.extract ia a.size ++ b.extract ib b.size) := by
 subst e
 have e0 : (out ++ a.extract ia a.size ++ b.extract b.size b.size).toList = out.toList ++ a.toList.drop ia := by
  rw [Array.toList_append, Array.toList_append, dU, dU, List.drop_of_length_le (show b.toList.length ≤ b.size by simp), List.append_nil]
 refine ⟨?_, ?_⟩
 ·rw [e0]
  have hp := h.pm
  rw [List.take_of_length_le (show b.toList.length ≤ b.size by simp)] at hp
  refine (hp.append_right _).trans ?_
  have : (a.toList.take ia ++ b.toList ++ a.toList.drop ia).Perm (a.toList.take ia ++ a.toList.drop ia ++ b.toList) := by
   rw [List.append_assoc, List.append_assoc]
   exact List.Perm.append_left _ List.perm_append_comm
  rw [List.take_append_drop] at this
  exact this
 ·rw [e0]
  refine aV h.sr ((gu ua).sublist (List.drop_sublist _ _)) fun p hp q hq => ?_
  obtain ⟨n, hn⟩ := List.getElem?_of_mem hq
  rw [List.getElem?_drop] at hn
  exact h.ha p hp (ia + n) q (by omega) (by rw [← Array.getElem?_toList]; exact hn)
theorem WL.c9 {out : Array Keyed} {ia ib : Nat} (h : WL rk a b out ia ib) (ub : Up rk b) (e : ia = a.size) : Res rk a b (out ++ a.extract ia a.size ++ b.extract ib b.size) := by
 subst e
 have e0 : (out ++ a.extract a.size a.size ++ b.extract ib b.size).toList = out.toList ++ b.toList.drop ib := by
  rw [Array.toList_append, Array.toList_append, dU, dU, List.drop_of_length_le (show a.toList.length ≤ a.size by simp), List.append_nil]
 refine ⟨?_, ?_⟩
 ·rw [e0]
  have hp := h.pm
  rw [List.take_of_length_le (show a.toList.length ≤ a.size by simp)] at hp
  refine (hp.append_right _).trans ?_
  rw [List.append_assoc, List.take_append_drop]
 ·rw [e0]
  refine aV h.sr ((gu ub).sublist (List.drop_sublist _ _)) fun p hp q hq => ?_
  obtain ⟨n, hn⟩ := List.getElem?_of_mem hq
  rw [List.getElem?_drop] at hn
  exact h.hb p hp (ib + n) q (by omega) (by rw [← Array.getElem?_toList]; exact hn)
theorem WL.last {out : Array Keyed} {ia ib : Nat} (h : WL rk a b out ia ib) (ub : Up rk b) (e : ia + 1 = a.size) (hl : ∀ (j : Nat) (p q : Keyed), a[ia]? = some p → b[j]? = some q → rk q ≤ rk p) :
 Res rk a b (out ++ b.extract ib b.size ++ a.extract ia a.size) := by
 have e0 : (out ++ b.extract ib b.size ++ a.extract ia a.size).toList = out.toList ++ (b.toList.drop ib ++ a.toList.drop ia) := by
  rw [Array.toList_append, Array.toList_append, dU, dU, List.append_assoc]
 refine ⟨?_, ?_⟩
 ·rw [e0]
  refine (h.pm.append_right _).trans ?_
  have : (a.toList.take ia ++ b.toList.take ib ++ (b.toList.drop ib ++ a.toList.drop ia)).Perm (a.toList.take ia ++ a.toList.drop ia ++ (b.toList.take ib ++ b.toList.drop ib)) := by
   rw [List.append_assoc, List.append_assoc]
   refine List.Perm.append_left _ ?_
   rw [← List.append_assoc]
   exact List.perm_append_comm
  rw [List.take_append_drop, List.take_append_drop] at this
  exact this
 ·rw [e0]
  have ml : ∀ q ∈ b.toList.drop ib, ∃ j, ib ≤ j ∧ b[j]? = some q := fun q hq => by
   obtain ⟨n, hn⟩ := List.getElem?_of_mem hq
   rw [List.getElem?_drop] at hn
   exact ⟨ib + n, by omega, by rw [← Array.getElem?_toList]; exact hn⟩
  have ml2 : ∀ q ∈ a.toList.drop ia, a[ia]? = some q := fun q hq => by
   obtain ⟨n, hn⟩ := List.getElem?_of_mem hq
   rw [List.getElem?_drop] at hn
   have := (List.getElem?_eq_some_iff.mp hn).1
   have hn0 : n = 0 := by simp at this; omega
   subst hn0
   rw [← Array.getElem?_toList]; exact hn
  refine aV h.sr (aV ((gu ub).sublist (List.drop_sublist _ _)) ?_ fun p hp q hq => ?_) fun p hp q hq => ?_
  ·have : (a.toList.drop ia).length ≤ 1 := by simp; omega
   match z : a.toList.drop ia, this with
   | [], _ => exact List.Pairwise.nil
   | [x], _ => exact List.pairwise_singleton _ _
  ·obtain ⟨j, _, e1⟩ := ml p hp
   exact hl j q p (ml2 q hq) e1
  ·rcases List.mem_append.mp hq with z | z
   ·obtain ⟨j, h1, e1⟩ := ml q z
    exact h.hb p hp j q h1 e1
   ·exact h.ha p hp ia q (Nat.le_refl _) (ml2 q z)
theorem bK {xs : Array Keyed} {i : Nat} {p : Keyed} (h : xs[i]? = some p) : xs.toList.take (i + 1) = xs.toList.take i ++ [p] := by
 rw [List.take_add_one, Array.getElem?_toList, h]; rfl
theorem WL.cG {out : Array Keyed} {ia ib : Nat} {p : Keyed} (h : WL rk a b out ia ib) (ub : Up rk b) (e : b[ib]? = some p) (hl : ∀ (j : Nat) (q : Keyed), ia ≤ j → a[j]? = some q → rk p ≤ rk q) : WL rk a b (out.push p) ia (ib + 1) where
 pa := h.pa
 pb := (Array.getElem?_eq_some_iff.mp e).1
 pm := by
  rw [Array.toList_push, bK e, ← List.append_assoc]
  exact h.pm.append_right _
 sr := by
  rw [Array.toList_push]
  exact aV h.sr (List.pairwise_singleton _ _) fun q hq r hr => by
   rw [List.mem_singleton.mp hr]; exact h.hb q hq ib p (Nat.le_refl _) e
 ha := fun q hq j r hj er => by
  rw [Array.toList_push] at hq
  rcases List.mem_append.mp hq with z | z
  ·exact h.ha q z j r hj er
  ·rw [List.mem_singleton.mp z]; exact hl j r hj er
 hb := fun q hq j r hj er => by
  rw [Array.toList_push] at hq
  rcases List.mem_append.mp hq with z | z
  ·exact h.hb q z j r (by omega) er
  ·rw [List.mem_singleton.mp z]; exact ub ib j p r (by omega) e er
theorem WL.bL {out : Array Keyed} {ia ib : Nat} {p : Keyed} (h : WL rk a b out ia ib) (ua : Up rk a) (e : a[ia]? = some p) (hl : ∀ (j : Nat) (q : Keyed), ib ≤ j → b[j]? = some q → rk p ≤ rk q) : WL rk a b (out.push p) (ia + 1) ib where
 pa := (Array.getElem?_eq_some_iff.mp e).1
 pb := h.pb
 pm := by
  rw [Array.toList_push, bK e]
  refine (h.pm.append_right _).trans ?_
  rw [List.append_assoc, List.append_assoc]
  exact List.Perm.append_left _ List.perm_append_comm
 sr := by
  rw [Array.toList_push]
  exact aV h.sr (List.pairwise_singleton _ _) fun q hq r hr => by
   rw [List.mem_singleton.mp hr]; exact h.ha q hq ia p (Nat.le_refl _) e
 hb := fun q hq j r hj er => by
  rw [Array.toList_push] at hq
  rcases List.mem_append.mp hq with z | z
  ·exact h.hb q z j r hj er
  ·rw [List.mem_singleton.mp z]; exact hl j r hj er
 ha := fun q hq j r hj er => by
  rw [Array.toList_push] at hq
  rcases List.mem_append.mp hq with z | z
  ·exact h.ha q z j r (by omega) er
  ·rw [List.mem_singleton.mp z]; exact ua ia j p r (by omega) e er
theorem WL.mP {out : Array Keyed} {ia ib : Nat} (h : WL rk a b out ia ib) (ua : Up rk a) : ∀ (k : Nat), ia + k ≤ a.size → (∀ (i j : Nat) (p q : Keyed), ia ≤ i → i < ia + k → ib ≤ j → a[i]? = some p → b[j]? = some q → rk p ≤ rk q) → WL rk a b (out ++ a.extract ia (ia + k)) (ia + k) ib
 | 0, _, _ => by
  have : out ++ a.extract ia (ia + 0) = out := by
   apply Array.ext'
   rw [Array.toList_append, Nat.add_zero, fM, List.append_nil]
  rw [this]; exact h
 | k + 1, hk, hl => by
  have ih := h.mP ua k (by omega) fun i j p q h1 h2 => hl i j p q h1 (by omega)
  have e : a[ia + k]? = some (a[ia + k]'(by omega)) := Array.getElem?_eq_getElem _
  have z := ih.bL ua e fun j q hj eq => hl _ j _ q (by omega) (by omega) hj e eq
  have : out ++ a.extract ia (ia + (k + 1)) = (out ++ a.extract ia (ia + k)).push (a[ia + k]'(by omega)) := by
   apply Array.ext'
   simp only [Array.toList_append, Array.toList_push, cA]
   rw [show ia + (k + 1) = (ia + k) + 1 by omega, bK e, List.drop_append_of_le_length (by simp; omega), List.append_assoc]
  rw [this]; exact z
theorem WL.i6 {out : Array Keyed} {ia ib : Nat} (h : WL rk a b out ia ib) (ub : Up rk b) : ∀ (k : Nat), ib + k ≤ b.size → (∀ (i j : Nat) (p q : Keyed), ib ≤ i → i < ib + k → ia ≤ j → b[i]? = some p → a[j]? = some q → rk p ≤ rk q) → WL rk a b (out ++ b.extract ib (ib + k)) ia (ib + k)
 | 0, _, _ => by
  have : out ++ b.extract ib (ib + 0) = out := by
   apply Array.ext'
   rw [Array.toList_append, Nat.add_zero, fM, List.append_nil]
  rw [this]; exact h
 | k + 1, hk, hl => by
  have ih := h.i6 ub k (by omega) fun i j p q h1 h2 => hl i j p q h1 (by omega)
  have e : b[ib + k]? = some (b[ib + k]'(by omega)) := Array.getElem?_eq_getElem _
  have z := ih.cG ub e fun j q hj eq => hl _ j _ q (by omega) (by omega) hj e eq
  have : out ++ b.extract ib (ib + (k + 1)) = (out ++ b.extract ib (ib + k)).push (b[ib + k]'(by omega)) := by
   apply Array.ext'
   simp only [Array.toList_append, Array.toList_push, cA]
   rw [show ib + (k + 1) = (ib + k) + 1 by omega, bK e, List.drop_append_of_le_length (by simp; omega), List.append_assoc]
  rw [this]; exact z
end
end SR
set_option Elab.async false
set_option linter.all false
set_option maxRecDepth 100000
namespace SR
open PySem PyProof.Rows
section
variable {prog : Program} {w : World} {A : Around} {E : Value → Shared → Prop} {s : Shared} {L : List Keyed} {κ : SortKind} {rk : Keyed → Int} {a b : Array Keyed}
theorem i7 (f : Nat → Int) (c : Int) : ∀ n, (∀ i j, i ≤ j → j < n → f i ≤ f j) → ∃ k, k ≤ n ∧ ∀ i, i < n → (f i ≤ c ↔ i < k)
 | 0, _ => ⟨0, Nat.le_refl _, fun i hi => by omega⟩
 | n + 1, hm => by
  obtain ⟨k, h1, h2⟩ := i7 f c n fun i j hij hj => hm i j hij (by omega)
  by_cases hc : f n ≤ c
  ·refine ⟨n + 1, Nat.le_refl _, fun i hi => ⟨fun _ => hi, fun _ => ?_⟩⟩
   exact Int.le_trans (hm i n (by omega) (by omega)) hc
  ·refine ⟨k, by omega, fun i hi => ?_⟩
   by_cases hin : i < n
   ·exact h2 i hin
   ·have : i = n := by omega
    subst this
    exact ⟨fun z => absurd z hc, fun z => by omega⟩
theorem i8 (f : Nat → Int) (c : Int) : ∀ n, (∀ i j, i ≤ j → j < n → f i ≤ f j) → ∃ k, k ≤ n ∧ ∀ i, i < n → (f i < c ↔ i < k)
 | 0, _ => ⟨0, Nat.le_refl _, fun i hi => by omega⟩
 | n + 1, hm => by
  obtain ⟨k, h1, h2⟩ := i8 f c n fun i j hij hj => hm i j hij (by omega)
  by_cases hc : f n < c
  ·refine ⟨n + 1, Nat.le_refl _, fun i hi => ⟨fun _ => hi, fun _ => ?_⟩⟩
   exact Int.lt_of_le_of_lt (hm i n (by omega) (by omega)) hc
  ·refine ⟨k, by omega, fun i hi => ?_⟩
   by_cases hin : i < n
   ·exact h2 i hin
   ·have : i = n := by omega
    subst this
    exact ⟨fun z => absurd z hc, fun z => by omega⟩
theorem up_R (h : Up rk a) {i j : Nat} (hij : i ≤ j) (hj : j < a.size) : R rk a i ≤ R rk a j := by
 have e1 : a[i]? = some (a[i]'(by omega)) := Array.getElem?_eq_getElem _
 have e2 : a[j]? = some a[j] := Array.getElem?_eq_getElem _
 rw [cj e1, cj e2]
 exact h i j _ _ hij e1 e2
structure dh (st st' : SortSt) : Prop where
 k : kindOf st' = kindOf st
 a : arrOf st' = arrOf st
 p : pendingOf st' = pendingOf st
 f : failedOf st' = failedOf st
theorem dh.refl (st : SortSt) : dh st st := ⟨rfl, rfl, rfl, rfl⟩
theorem dh.min {st st' : SortSt} (h : dh st st') (g : Nat) : dh st (SortSt.mk' (kindOf st') (arrOf st') (pendingOf st') g (failedOf st')) := ⟨h.k, h.a, h.p, h.f⟩
theorem mQ {st : SortSt} {key : Keyed} {xs : Array Keyed} {base hint : Nat} {Q : Option Nat → SortSt → Prop} (hC : Cmp prog w A s κ rk L) (hk : kindOf st = κ) (hkey : key ∈ L) (mx : ∀ (i : Nat) (p : Keyed), xs[i]? = some p → p ∈ L) (ux : Up rk xs) (n : Nat) (hn : base + n ≤ xs.size) (hh : hint < n)
 (h : ∀ k, k ≤ n → (∀ (i : Nat) (p : Keyed), i < k → xs[base + i]? = some p → rk p ≤ rk key) → (∀ (i : Nat) (p : Keyed), k ≤ i → base + i < base + n → xs[base + i]? = some p → rk key < rk p) → Q (some k) st) :
 wpS (model prog w) A E s (cY false key xs base n hint) Q st := by
 obtain ⟨k, h1, h2⟩ := i7 (fun i => R rk xs (base + i)) (rk key) n fun i j hij hj => up_R ux (by omega) (by omega)
 refine cZ hC hk hkey (fun i hi => ⟨xs[base + i]'(by omega), Array.getElem?_eq_getElem _, mx _ _ (Array.getElem?_eq_getElem _)⟩) (fun i hi => by simp only [Bool.false_eq_true, if_false]; exact h2 i hi) h1 hh (h k h1 (fun i p hi e => ?_) fun i p hi hb e => ?_)
 ·have := (h2 i (by omega)).mpr hi
  rw [cj e] at this; exact this
 ·have := mt (h2 i (by omega)).mp (by omega)
  rw [cj e] at this; omega
theorem fN {st : SortSt} {key : Keyed} {xs : Array Keyed} {base hint : Nat} {Q : Option Nat → SortSt → Prop} (hC : Cmp prog w A s κ rk L) (hk : kindOf st = κ) (hkey : key ∈ L) (mx : ∀ (i : Nat) (p : Keyed), xs[i]? = some p → p ∈ L) (ux : Up rk xs) (n : Nat) (hn : base + n ≤ xs.size) (hh : hint < n)
 (h : ∀ k, k ≤ n → (∀ (i : Nat) (p : Keyed), i < k → xs[base + i]? = some p → rk p < rk key) → (∀ (i : Nat) (p : Keyed), k ≤ i → base + i < base + n → xs[base + i]? = some p → rk key ≤ rk p) → Q (some k) st) :
 wpS (model prog w) A E s (cY true key xs base n hint) Q st := by
 obtain ⟨k, h1, h2⟩ := i8 (fun i => R rk xs (base + i)) (rk key) n fun i j hij hj => up_R ux (by omega) (by omega)
 refine cZ hC hk hkey (fun i hi => ⟨xs[base + i]'(by omega), Array.getElem?_eq_getElem _, mx _ _ (Array.getElem?_eq_getElem _)⟩) (fun i hi => by simp only [if_true]; exact h2 i hi) h1 hh (h k h1 (fun i p hi e => ?_) fun i p hi hb e => ?_)
 ·have := (h2 i (by omega)).mpr hi
  rw [cj e] at this; exact this
 ·have := mt (h2 i (by omega)).mp (by omega)
  rw [cj e] at this; omega
structure vn (rk : Keyed → Int) (a b out : Array Keyed) (ia ib : Nat) : Prop where
 w : WL rk a b out ia ib
 la : ia + 1 < a.size
 lb : ib < b.size
local macro_rules | `(tactic| walk_at "dl mergeLo") => do
 let i := Lean.mkIdent (Lean.mkPrivateNameCore `PySem.Builtin.List.W1All `PySem.Builtin.mergeLo)
 `(tactic| delta $i)
theorem mR {st : SortSt} {Q : Array Keyed → SortSt → Prop} (hC : Cmp prog w A s κ rk L) (hk : kindOf st = κ) (ma : ∀ (i : Nat) (p : Keyed), a[i]? = some p → p ∈ L) (mb : ∀ (i : Nat) (p : Keyed), b[i]? = some p → p ∈ L) (ua : Up rk a) (ub : Up rk b) (na : 1 ≤ a.size) (nb : 1 ≤ b.size)
 (h0 : ∀ p q, a[0]? = some p → b[0]? = some q → rk q ≤ rk p) (hl : ∀ (j : Nat) (p q : Keyed), a[a.size - 1]? = some p → b[j]? = some q → rk q ≤ rk p) (h : ∀ r st', Res rk a b r → dh st st' → Q r st') : wpS (model prog w) A E s (mO a b) Q st := by
 have ga : ∀ i, i < a.size → ∃ p, a[i]? = some p := fun i hi => ⟨a[i], Array.getElem?_eq_getElem hi⟩
 have gb : ∀ i, i < b.size → ∃ p, b[i]? = some p := fun i hi => ⟨b[i], Array.getElem?_eq_getElem hi⟩
 have lastA : ∀ {out : Array Keyed} {ia ib : Nat}, WL rk a b out ia ib → ia + 1 = a.size → Res rk a b (out ++ b.extract ib b.size ++ a.extract ia a.size) := fun hw e => hw.last ub e fun j p q e1 e2 => hl j p q (by rw [← e]; exact e1) e2
 obtain ⟨q0, eq0⟩ := gb 0 (by omega)
 obtain ⟨p0, ep0⟩ := ga 0 (by omega)
 have W0 : WL rk a b #[q0] 0 1 := by
  have z : WL rk a b #[] 0 0 := ⟨Nat.zero_le _, Nat.zero_le _, by simp, List.Pairwise.nil, by simp, by simp⟩
  exact z.cG ub eq0 fun j q _ e => Int.le_trans (h0 p0 q0 ep0 eq0) (ua 0 j p0 q (Nat.zero_le _) ep0 e)
 unfold mO
 walk_at "dl mergeLo"
 dsimp only
 refine wpS_bind (wpS_lift (wpAny_rule ⟨rfl, ?_⟩))
 refine wpS_bind (ay eq0 ?_)
 by_cases e1 : 1 = b.size
 ·rw [if_pos (by simpa using e1)]
  exact wpS_pure (h _ _ (W0.c8 ua e1) (.refl _))
 rw [if_neg (by simpa using e1)]
 by_cases e2 : 0 + 1 = a.size
 ·rw [if_pos (by simpa using e2)]
  exact wpS_pure (h _ _ (lastA W0 e2) (.refl _))
 rw [if_neg (by simpa using e2)]
 refine wpS_bind (wpS_get ?_)
 refine wpS_bind (wpS_mono (wpS_forRange (I := fun x c st' => dh st st' ∧ c.1 = none ∧ vn rk a b c.2.1 c.2.2.1 c.2.2.2.1 ∧ x + 1 ≤ c.2.2.1 + c.2.2.2.1) (Q := fun c st' => dh st st' ∧ ∃ r, c.1 = some r ∧ Res rk a b r) ?step ?fin ⟨.refl _, rfl, ⟨W0, by dsimp only; omega, by dsimp only; omega⟩, by dsimp only; omega⟩) ?post)
 case fin =>
  rintro c st' ⟨hK, hc, hL, hx⟩
  have h1 := hL.la
  have h2 := hL.lb
  omega
 case post =>
  rintro c st' ⟨hK, r, hc, hr⟩
  rw [hc]
  exact wpS_pure (h r st' hr hK)
 case step =>
  rintro x ⟨_, out, ia, ib, g⟩ st1 _ hx ⟨hK, rfl, hL, hn⟩
  dsimp only at hL hn ⊢
  refine wpS_bind (wpS_mono (wpS_forRange (I := fun y c st' => dh st st' ∧ c.1 = none ∧ vn rk a b c.2.1 c.2.2.1 c.2.2.2.1 ∧ x + 1 + y ≤ c.2.2.1 + c.2.2.2.1) (Q := fun c st' => dh st st' ∧ ((∃ r, c.1 = some r ∧ Res rk a b r) ∨ (c.1 = none ∧ vn rk a b c.2.1 c.2.2.1 c.2.2.2.1 ∧ x + 2 ≤ c.2.2.1 + c.2.2.2.1))) ?istep ?ifin ⟨hK, rfl, hL, by omega⟩) ?ipost)
  case ifin =>
   rintro c st' ⟨hK', hc, hL', hx'⟩
   exact ⟨hK', .inr ⟨hc, hL', by omega⟩⟩
  case istep =>
   rintro y ⟨_, out, ia, ib, ac, bc⟩ st2 _ hy ⟨hK', rfl, hL', hn'⟩
   dsimp only at hL' hn' ⊢
   have l1 := hL'.la
   have l2 := hL'.lb
   obtain ⟨q, eq⟩ := gb ib l2
   obtain ⟨p, ep⟩ := ga ia (by omega)
   refine wpS_bind (ay eq (wpS_bind (ay ep (wpS_bind (iZ hC (hK'.k.trans hk) (mb _ _ eq) (ma _ _ ep) ?_)))))
   dsimp only
   by_cases hw : rk q < rk p
   ·rw [decide_eq_true hw, if_pos rfl]
    have W1 := hL'.w.cG ub eq fun j r hj e => Int.le_trans (Int.le_of_lt hw) (ua ia j p r hj ep e)
    refine wpS_bind (ay eq ?_)
    by_cases e3 : ib + 1 = b.size
    ·rw [if_pos (by simpa using e3)]
     exact wpS_pure ⟨hK', .inl ⟨_, rfl, W1.c8 ua e3⟩⟩
    ·rw [if_neg (by simpa using e3)]
     split
     ·exact wpS_pure ⟨hK', .inr ⟨rfl, ⟨W1, l1, by dsimp only; omega⟩, by dsimp only; omega⟩⟩
     ·exact wpS_pure ⟨hK', rfl, ⟨W1, l1, by dsimp only; omega⟩, by dsimp only; omega⟩
   ·rw [decide_eq_false hw, if_neg Bool.false_ne_true]
    have W1 := hL'.w.bL ua ep fun j r hj e => Int.le_trans (Int.not_lt.mp hw) (ub ib j q r hj eq e)
    refine wpS_bind (ay ep ?_)
    by_cases e3 : ia + 1 + 1 = a.size
    ·rw [if_pos (by simpa using e3)]
     exact wpS_pure ⟨hK', .inl ⟨_, rfl, lastA W1 e3⟩⟩
    ·rw [if_neg (by simpa using e3)]
     split
     ·exact wpS_pure ⟨hK', .inr ⟨rfl, ⟨W1, by dsimp only; omega, l2⟩, by dsimp only; omega⟩⟩
     ·exact wpS_pure ⟨hK', rfl, ⟨W1, by dsimp only; omega, l2⟩, by dsimp only; omega⟩
  case ipost =>
   rintro ⟨o1, out, ia, ib, ac, bc⟩ st2 ⟨hK2, hor⟩
   dsimp only at hor ⊢
   rcases hor with ⟨r, rfl, hr⟩ | ⟨rfl, hL2, hn2⟩
   ·exact wpS_pure ⟨hK2, r, rfl, hr⟩
   dsimp only
   refine wpS_bind (wpS_lift (wpAny_rule ⟨rfl, ?_⟩))
   refine wpS_bind (wpS_mono (wpS_forRange (I := fun y c st' => dh st st' ∧ c.1 = none ∧ vn rk a b c.2.1 c.2.2.1 c.2.2.2.1 ∧ x + 2 ≤ c.2.2.1 + c.2.2.2.1) (Q := fun c st' => dh st st' ∧ ((∃ r, c.1 = some r ∧ Res rk a b r) ∨ (c.1 = none ∧ vn rk a b c.2.1 c.2.2.1 c.2.2.2.1 ∧ x + 2 ≤ c.2.2.1 + c.2.2.2.1))) ?gstep ?gfin ⟨hK2, rfl, hL2, hn2⟩) ?gpost)
   case gfin => rintro c st' ⟨a1, a2, a3, a4⟩; exact ⟨a1, .inr ⟨a2, a3, a4⟩⟩
   case gpost =>
    rintro ⟨o1, out, ia, ib, g2, ac, bc⟩ st3 ⟨hK3, hor⟩
    dsimp only at hor ⊢
    rcases hor with ⟨r, rfl, hr⟩ | ⟨rfl, hL3, hn3⟩
    ·exact wpS_pure ⟨hK3, r, rfl, hr⟩
    ·dsimp only
     refine wpS_bind (c7 (wpS_pure ⟨hK3.min _, rfl, hL3, ?_⟩))
     dsimp only; omega
   case gstep =>
    rintro y ⟨_, out, ia, ib, g2, ac, bc⟩ st3 _ hy ⟨hK3, rfl, hL3, hn3⟩
    dsimp only at hL3 hn3 ⊢
    have l1 := hL3.la
    have l2 := hL3.lb
    obtain ⟨q, eq⟩ := gb ib l2
    by_cases hg : g2 > 1
    all_goals
     first | rw [if_pos hg] | rw [if_neg hg]
     refine wpS_bind (c7 ?_)
     refine wpS_bind (ay eq ?_)
     refine wpS_bind (mQ hC (by exact hK3.k.trans hk) (mb _ _ eq) ma ua _ (by omega) (by omega) fun k hk1 hk2 hk3 => ?_)
     dsimp only
     have Wk := hL3.w.mP ua k (by omega) fun i j p r z1 z2 z3 e3 e4 => by
      have z4 : a[ia + (i - ia)]? = some p := by rw [show ia + (i - ia) = i by omega]; exact e3
      exact Int.le_trans (hk2 (i - ia) p (by omega) z4) (ub ib j q r z3 eq e4)
     have fwd : ∀ (j : Nat) (r : Keyed), ia + k ≤ j → a[j]? = some r → rk q ≤ rk r := fun j r hj e3 => by
      have z4 : a[ia + (j - ia)]? = some r := by rw [show ia + (j - ia) = j by omega]; exact e3
      exact Int.le_of_lt (hk3 (j - ia) r (by omega) (by have := (Array.getElem?_eq_some_iff.mp e3).1; omega) z4)
     have W2 := Wk.cG ub eq fwd
     by_cases hk0 : k > 0
     ·rw [if_pos hk0]
      by_cases e3 : ia + k + 1 = a.size
      ·rw [if_pos (by simpa using e3)]
       exact wpS_pure ⟨hK3.min _, .inl ⟨_, rfl, lastA Wk e3⟩⟩
      rw [if_neg (by simpa using e3)]
      by_cases e4 : ia + k = a.size
      ·rw [if_pos (by simpa using e4)]
       exact wpS_pure ⟨hK3.min _, .inl ⟨_, rfl, Wk.c9 ub e4⟩⟩
      rw [if_neg (by simpa using e4)]
      refine wpS_bind (ay eq ?_)
      by_cases e5 : ib + 1 = b.size
      ·rw [if_pos (by simpa using e5)]
       exact wpS_pure ⟨hK3.min _, .inl ⟨_, rfl, W2.c8 ua e5⟩⟩
      rw [if_neg (by simpa using e5)]
      obtain ⟨p, ep⟩ := ga (ia + k) (by omega)
      refine wpS_bind (ay ep ?_)
      refine wpS_bind (fN hC (by exact hK3.k.trans hk) (ma _ _ ep) mb ub _ (by omega) (by omega) fun k2 hj1 hj2 hj3 => ?_)
      dsimp only
      have W3 := W2.i6 ub k2 (by omega) fun i j r p' z1 z2 z3 e6 e7 => by
       have z4 : b[ib + 1 + (i - (ib + 1))]? = some r := by rw [show ib + 1 + (i - (ib + 1)) = i by omega]; exact e6
       exact Int.le_trans (Int.le_of_lt (hj2 (i - (ib + 1)) r (by omega) z4)) (ua (ia + k) j p p' z3 ep e7)
      have bwd : ∀ (j : Nat) (r : Keyed), ib + 1 + k2 ≤ j → b[j]? = some r → rk p ≤ rk r := fun j r hj e6 => by
       have z4 : b[ib + 1 + (j - (ib + 1))]? = some r := by rw [show ib + 1 + (j - (ib + 1)) = j by omega]; exact e6
       exact hj3 (j - (ib + 1)) r (by omega) (by have := (Array.getElem?_eq_some_iff.mp e6).1; omega) z4
      by_cases hj0 : k2 > 0
      ·rw [if_pos hj0]
       by_cases e8 : ib + 1 + k2 = b.size
       ·rw [if_pos (by simpa using e8)]
        exact wpS_pure ⟨hK3.min _, .inl ⟨_, rfl, W3.c8 ua e8⟩⟩
       rw [if_neg (by simpa using e8)]
       refine wpS_bind (ay ep ?_)
       have W4 := W3.bL ua ep bwd
       by_cases e9 : ia + k + 1 + 1 = a.size
       ·rw [if_pos (by simpa using e9)]
        exact wpS_pure ⟨hK3.min _, .inl ⟨_, rfl, lastA W4 e9⟩⟩
       rw [if_neg (by simpa using e9)]
       by_cases hd : (decide (k < 7) && decide (k2 < 7)) = true
       ·rw [if_pos hd]
        exact wpS_pure ⟨hK3.min _, .inr ⟨rfl, ⟨W4, by dsimp only; omega, by dsimp only; omega⟩, by dsimp only; omega⟩⟩
       ·rw [if_neg hd]
        exact wpS_pure ⟨hK3.min _, rfl, ⟨W4, by dsimp only; omega, by dsimp only; omega⟩, by dsimp only; omega⟩
      ·rw [if_neg hj0]
       refine wpS_bind (ay ep ?_)
       have W4 := W2.bL ua ep fun j r hj e6 => bwd j r (by omega) e6
       by_cases e9 : ia + k + 1 + 1 = a.size
       ·rw [if_pos (by simpa using e9)]
        exact wpS_pure ⟨hK3.min _, .inl ⟨_, rfl, lastA W4 e9⟩⟩
       rw [if_neg (by simpa using e9)]
       by_cases hd : (decide (k < 7) && decide (k2 < 7)) = true
       ·rw [if_pos hd]
        exact wpS_pure ⟨hK3.min _, .inr ⟨rfl, ⟨W4, by dsimp only; omega, by dsimp only; omega⟩, by dsimp only; omega⟩⟩
       ·rw [if_neg hd]
        exact wpS_pure ⟨hK3.min _, rfl, ⟨W4, by dsimp only; omega, by dsimp only; omega⟩, by dsimp only; omega⟩
     ·rw [if_neg hk0]
      have W2' := hL3.w.cG ub eq fun j r hj e3 => fwd j r (by omega) e3
      refine wpS_bind (ay eq ?_)
      by_cases e5 : ib + 1 = b.size
      ·rw [if_pos (by simpa using e5)]
       exact wpS_pure ⟨hK3.min _, .inl ⟨_, rfl, W2'.c8 ua e5⟩⟩
      rw [if_neg (by simpa using e5)]
      obtain ⟨p, ep⟩ := ga (ia) (by omega)
      refine wpS_bind (ay ep ?_)
      refine wpS_bind (fN hC (by exact hK3.k.trans hk) (ma _ _ ep) mb ub _ (by omega) (by omega) fun k2 hj1 hj2 hj3 => ?_)
      dsimp only
      have W3 := W2'.i6 ub k2 (by omega) fun i j r p' z1 z2 z3 e6 e7 => by
       have z4 : b[ib + 1 + (i - (ib + 1))]? = some r := by rw [show ib + 1 + (i - (ib + 1)) = i by omega]; exact e6
       exact Int.le_trans (Int.le_of_lt (hj2 (i - (ib + 1)) r (by omega) z4)) (ua (ia) j p p' z3 ep e7)
      have bwd : ∀ (j : Nat) (r : Keyed), ib + 1 + k2 ≤ j → b[j]? = some r → rk p ≤ rk r := fun j r hj e6 => by
       have z4 : b[ib + 1 + (j - (ib + 1))]? = some r := by rw [show ib + 1 + (j - (ib + 1)) = j by omega]; exact e6
       exact hj3 (j - (ib + 1)) r (by omega) (by have := (Array.getElem?_eq_some_iff.mp e6).1; omega) z4
      by_cases hj0 : k2 > 0
      ·rw [if_pos hj0]
       by_cases e8 : ib + 1 + k2 = b.size
       ·rw [if_pos (by simpa using e8)]
        exact wpS_pure ⟨hK3.min _, .inl ⟨_, rfl, W3.c8 ua e8⟩⟩
       rw [if_neg (by simpa using e8)]
       refine wpS_bind (ay ep ?_)
       have W4 := W3.bL ua ep bwd
       by_cases e9 : ia + 1 + 1 = a.size
       ·rw [if_pos (by simpa using e9)]
        exact wpS_pure ⟨hK3.min _, .inl ⟨_, rfl, lastA W4 e9⟩⟩
       rw [if_neg (by simpa using e9)]
       by_cases hd : (decide (k < 7) && decide (k2 < 7)) = true
       ·rw [if_pos hd]
        exact wpS_pure ⟨hK3.min _, .inr ⟨rfl, ⟨W4, by dsimp only; omega, by dsimp only; omega⟩, by dsimp only; omega⟩⟩
       ·rw [if_neg hd]
        exact wpS_pure ⟨hK3.min _, rfl, ⟨W4, by dsimp only; omega, by dsimp only; omega⟩, by dsimp only; omega⟩
      ·rw [if_neg hj0]
       refine wpS_bind (ay ep ?_)
       have W4 := W2'.bL ua ep fun j r hj e6 => bwd j r (by omega) e6
       by_cases e9 : ia + 1 + 1 = a.size
       ·rw [if_pos (by simpa using e9)]
        exact wpS_pure ⟨hK3.min _, .inl ⟨_, rfl, lastA W4 e9⟩⟩
       rw [if_neg (by simpa using e9)]
       by_cases hd : (decide (k < 7) && decide (k2 < 7)) = true
       ·rw [if_pos hd]
        exact wpS_pure ⟨hK3.min _, .inr ⟨rfl, ⟨W4, by dsimp only; omega, by dsimp only; omega⟩, by dsimp only; omega⟩⟩
       ·rw [if_neg hd]
        exact wpS_pure ⟨hK3.min _, rfl, ⟨W4, by dsimp only; omega, by dsimp only; omega⟩, by dsimp only; omega⟩
end
end SR
set_option Elab.async false
set_option linter.all false
set_option maxRecDepth 100000
namespace SR
open PySem PyProof.Rows
def mS : Array Keyed → Array Keyed → StateT SortSt Sem (Array Keyed) := sortPriv% PySem.Builtin.mergeHi
section
variable {rk : Keyed → Int} {a b : Array Keyed}
structure WH (rk : Keyed → Int) (a b : Array Keyed) (out : Array Keyed) (na nb : Nat) : Prop where
 pa : na ≤ a.size
 pb : nb ≤ b.size
 pm : out.toList.Perm (a.toList.drop na ++ b.toList.drop nb)
 sr : Srt rk out.toList.reverse
 ha : ∀ p ∈ out.toList, ∀ (j : Nat) (q : Keyed), j < na → a[j]? = some q → rk q ≤ rk p
 hb : ∀ p ∈ out.toList, ∀ (j : Nat) (q : Keyed), j < nb → b[j]? = some q → rk q ≤ rk p
theorem bY (xs : Array Keyed) (i : Nat) : (xs.extract 0 i).toList = xs.toList.take i := by rw [cA, List.drop_zero]
theorem fO {xs : Array Keyed} {i : Nat} {q : Keyed} (h : q ∈ xs.toList.take i) : ∃ j, j < i ∧ xs[j]? = some q := by
 obtain ⟨n, hn⟩ := List.getElem?_of_mem h
 have hl := (List.getElem?_eq_some_iff.mp hn).1
 rw [List.length_take] at hl
 rw [List.getElem?_take_of_lt (by omega)] at hn
 exact ⟨n, by omega, by rw [← Array.getElem?_toList]; exact hn⟩
theorem WH.res {out : Array Keyed} {na nb : Nat} (h : WH rk a b out na nb) (x : Array Keyed) (hx : x.toList.Perm (a.toList.take na ++ b.toList.take nb)) (hs : Srt rk x.toList) : Res rk a b (x ++ out.reverse) := by
 have e0 : (x ++ out.reverse).toList = x.toList ++ out.toList.reverse := by simp
 refine ⟨?_, ?_⟩
 ·rw [e0]
  refine (hx.append ((List.reverse_perm _).trans h.pm)).trans ?_
  have : (a.toList.take na ++ b.toList.take nb ++ (a.toList.drop na ++ b.toList.drop nb)).Perm (a.toList.take na ++ a.toList.drop na ++ (b.toList.take nb ++ b.toList.drop nb)) := by
   rw [List.append_assoc, List.append_assoc]
   refine List.Perm.append_left _ ?_
   rw [← List.append_assoc, ← List.append_assoc]
   exact List.Perm.append_right _ List.perm_append_comm
  rw [List.take_append_drop, List.take_append_drop] at this
  exact this
 ·rw [e0]
  refine aV hs h.sr fun p hp q hq => ?_
  have hq' : q ∈ out.toList := by simpa using hq
  rcases List.mem_append.mp (hx.mem_iff.mp hp) with z | z
  ·obtain ⟨j, h1, e⟩ := fO z
   exact h.ha q hq' j p h1 e
  ·obtain ⟨j, h1, e⟩ := fO z
   exact h.hb q hq' j p h1 e
theorem WH.c9 {out : Array Keyed} {na nb : Nat} (h : WH rk a b out na nb) (ub : Up rk b) (e : na = 0) : Res rk a b (a.extract 0 na ++ b.extract 0 nb ++ out.reverse) := by
 subst e
 refine h.res _ ?_ ?_
 ·simp [bY]
 ·have : (a.extract 0 0 ++ b.extract 0 nb).toList = b.toList.take nb := by rw [Array.toList_append, bY, bY]; simp
  rw [this]; exact (gu ub).sublist (List.take_sublist _ _)
theorem WH.c8 {out : Array Keyed} {na nb : Nat} (h : WH rk a b out na nb) (ua : Up rk a) (e : nb = 0) : Res rk a b (a.extract 0 na ++ b.extract 0 nb ++ out.reverse) := by
 subst e
 refine h.res _ ?_ ?_
 ·simp [bY]
 ·have : (a.extract 0 na ++ b.extract 0 0).toList = a.toList.take na := by rw [Array.toList_append, bY, bY]; simp
  rw [this]; exact (gu ua).sublist (List.take_sublist _ _)
theorem WH.first {out : Array Keyed} {na nb : Nat} (h : WH rk a b out na nb) (ua : Up rk a) (e : nb = 1) (hf : ∀ (j : Nat) (p q : Keyed), a[j]? = some p → b[0]? = some q → rk q ≤ rk p) :
 Res rk a b (b.extract 0 nb ++ a.extract 0 na ++ out.reverse) := by
 subst e
 have e1 : (b.extract 0 1 ++ a.extract 0 na).toList = b.toList.take 1 ++ a.toList.take na := by rw [Array.toList_append, bY, bY]
 refine h.res _ ?_ ?_
 ·rw [e1]; exact List.perm_append_comm
 ·rw [e1]
  refine aV ?_ ((gu ua).sublist (List.take_sublist _ _)) fun p hp q hq => ?_
  ·have : (b.toList.take 1).length ≤ 1 := by simp; omega
   match z : b.toList.take 1, this with
   | [], _ => exact List.Pairwise.nil
   | [x], _ => exact List.pairwise_singleton _ _
  ·obtain ⟨j, h1, e2⟩ := fO hp
   obtain ⟨j2, h2, e3⟩ := fO hq
   have : j = 0 := by omega
   subst this
   exact hf j2 q p e3 e2
theorem j6 {xs : Array Keyed} {i : Nat} {p : Keyed} (hi : 1 ≤ i) (h : xs[i - 1]? = some p) : xs.toList.drop (i - 1) = p :: xs.toList.drop i := by
 rw [← Array.getElem?_toList] at h
 obtain ⟨h1, h2⟩ := List.getElem?_eq_some_iff.mp h
 rw [List.drop_eq_getElem_cons h1, h2, show i - 1 + 1 = i by omega]
theorem WH.bL {out : Array Keyed} {na nb : Nat} {p : Keyed} (h : WH rk a b out na nb) (ua : Up rk a) (hn : 1 ≤ na) (e : a[na - 1]? = some p) (hl : ∀ (j : Nat) (q : Keyed), j < nb → b[j]? = some q → rk q ≤ rk p) : WH rk a b (out.push p) (na - 1) nb where
 pa := by have := h.pa; omega
 pb := h.pb
 pm := by
  rw [Array.toList_push, j6 hn e]
  refine (h.pm.append_right _).trans ?_
  rw [List.cons_append]
  exact List.perm_append_comm
 sr := by
  rw [Array.toList_push, List.reverse_append]
  exact aV (List.pairwise_singleton _ _) h.sr fun r hr q hq => by
   have hr' : r = p := by simpa using hr
   rw [hr']
   exact h.ha q (by simpa using hq) (na - 1) p (by omega) e
 ha := fun q hq j r hj er => by
  rw [Array.toList_push] at hq
  rcases List.mem_append.mp hq with z | z
  ·exact h.ha q z j r (by omega) er
  ·rw [List.mem_singleton.mp z]; exact ua j (na - 1) r p (by omega) er e
 hb := fun q hq j r hj er => by
  rw [Array.toList_push] at hq
  rcases List.mem_append.mp hq with z | z
  ·exact h.hb q z j r hj er
  ·rw [List.mem_singleton.mp z]; exact hl j r hj er
theorem WH.cG {out : Array Keyed} {na nb : Nat} {p : Keyed} (h : WH rk a b out na nb) (ub : Up rk b) (hn : 1 ≤ nb) (e : b[nb - 1]? = some p) (hl : ∀ (j : Nat) (q : Keyed), j < na → a[j]? = some q → rk q ≤ rk p) : WH rk a b (out.push p) na (nb - 1) where
 pa := h.pa
 pb := by have := h.pb; omega
 pm := by
  rw [Array.toList_push, j6 hn e]
  refine (h.pm.append_right _).trans ?_
  rw [List.append_assoc]
  exact List.Perm.append_left _ List.perm_append_comm
 sr := by
  rw [Array.toList_push, List.reverse_append]
  exact aV (List.pairwise_singleton _ _) h.sr fun r hr q hq => by
   have hr' : r = p := by simpa using hr
   rw [hr']
   exact h.hb q (by simpa using hq) (nb - 1) p (by omega) e
 hb := fun q hq j r hj er => by
  rw [Array.toList_push] at hq
  rcases List.mem_append.mp hq with z | z
  ·exact h.hb q z j r (by omega) er
  ·rw [List.mem_singleton.mp z]; exact ub j (nb - 1) r p (by omega) er e
 ha := fun q hq j r hj er => by
  rw [Array.toList_push] at hq
  rcases List.mem_append.mp hq with z | z
  ·exact h.ha q z j r hj er
  ·rw [List.mem_singleton.mp z]; exact hl j r hj er
theorem qF {xs : Array Keyed} {m n : Nat} {p : Keyed} (h : m < n) (e : xs[m]? = some p) : (xs.extract m n).reverse = (xs.extract (m + 1) n).reverse.push p := by
 apply Array.ext'
 rw [Array.toList_push, Array.toList_reverse, Array.toList_reverse, cA, cA]
 rw [← Array.getElem?_toList] at e
 obtain ⟨h1, h2⟩ := List.getElem?_eq_some_iff.mp e
 have h3 : m < (xs.toList.take n).length := by rw [List.length_take]; omega
 rw [List.drop_eq_getElem_cons h3, List.reverse_cons, List.getElem_take, h2]
theorem mT (xs ys : Array Keyed) (p : Keyed) : xs ++ ys.push p = (xs ++ ys).push p := by
 apply Array.ext'; simp
theorem WH.mP {out : Array Keyed} {na nb : Nat} (h : WH rk a b out na nb) (ua : Up rk a) : ∀ (k m : Nat), m + k = na → (∀ (i j : Nat) (p q : Keyed), m ≤ i → i < na → j < nb → a[i]? = some p → b[j]? = some q → rk q ≤ rk p) → WH rk a b (out ++ (a.extract m na).reverse) m nb
 | 0, m, hm, _ => by
  have e : m = na := by omega
  subst e
  have : out ++ (a.extract m m).reverse = out := by
   apply Array.ext'
   rw [Array.toList_append, Array.toList_reverse, fM, List.reverse_nil, List.append_nil]
  rw [this]; exact h
 | k + 1, m, hm, hl => by
  have hp := h.pa
  have ih := h.mP ua k (m + 1) (by omega) fun i j p q h1 h2 => hl i j p q (by omega) h2
  have e : a[m + 1 - 1]? = some (a[m]'(by omega)) := Array.getElem?_eq_getElem (show m < a.size by omega)
  have z := ih.bL ua (by omega) e fun j q hj eq => hl m j _ q (Nat.le_refl _) (by omega) hj (Array.getElem?_eq_getElem (show m < a.size by omega)) eq
  rw [qF (show m < na by omega) (Array.getElem?_eq_getElem (show m < a.size by omega)), mT]
  exact z
theorem WH.i6 {out : Array Keyed} {na nb : Nat} (h : WH rk a b out na nb) (ub : Up rk b) : ∀ (k m : Nat), m + k = nb → (∀ (i j : Nat) (p q : Keyed), m ≤ i → i < nb → j < na → b[i]? = some p → a[j]? = some q → rk q ≤ rk p) → WH rk a b (out ++ (b.extract m nb).reverse) na m
 | 0, m, hm, _ => by
  have e : m = nb := by omega
  subst e
  have : out ++ (b.extract m m).reverse = out := by
   apply Array.ext'
   rw [Array.toList_append, Array.toList_reverse, fM, List.reverse_nil, List.append_nil]
  rw [this]; exact h
 | k + 1, m, hm, hl => by
  have hp := h.pb
  have ih := h.i6 ub k (m + 1) (by omega) fun i j p q h1 h2 => hl i j p q (by omega) h2
  have e : b[m + 1 - 1]? = some (b[m]'(by omega)) := Array.getElem?_eq_getElem (show m < b.size by omega)
  have z := ih.cG ub (by omega) e fun j q hj eq => hl m j _ q (Nat.le_refl _) (by omega) hj (Array.getElem?_eq_getElem (show m < b.size by omega)) eq
  rw [qF (show m < nb by omega) (Array.getElem?_eq_getElem (show m < b.size by omega)), mT]
  exact z
structure mU (rk : Keyed → Int) (a b out : Array Keyed) (na nb : Nat) : Prop where
 w : WH rk a b out na nb
 la : 1 ≤ na
 lb : 2 ≤ nb
end
section
variable {prog : Program} {w : World} {A : Around} {E : Value → Shared → Prop} {s : Shared} {L : List Keyed} {κ : SortKind} {rk : Keyed → Int} {a b : Array Keyed}
local macro_rules | `(tactic| walk_at "dl mergeHi") => do
 let i := Lean.mkIdent (Lean.mkPrivateNameCore `PySem.Builtin.List.W1All `PySem.Builtin.mergeHi)
 `(tactic| delta $i)
theorem mV {st : SortSt} {Q : Array Keyed → SortSt → Prop} (hC : Cmp prog w A s κ rk L) (hk : kindOf st = κ) (ma : ∀ (i : Nat) (p : Keyed), a[i]? = some p → p ∈ L) (mb : ∀ (i : Nat) (p : Keyed), b[i]? = some p → p ∈ L) (ua : Up rk a) (ub : Up rk b) (na1 : 1 ≤ a.size) (nb1 : 1 ≤ b.size)
 (h0 : ∀ p q, a[0]? = some p → b[0]? = some q → rk q ≤ rk p) (hl : ∀ (j : Nat) (p q : Keyed), a[a.size - 1]? = some p → b[j]? = some q → rk q ≤ rk p) (h : ∀ r st', Res rk a b r → dh st st' → Q r st') : wpS (model prog w) A E s (mS a b) Q st := by
 have ga : ∀ i, i < a.size → ∃ p, a[i]? = some p := fun i hi => ⟨a[i], Array.getElem?_eq_getElem hi⟩
 have gb : ∀ i, i < b.size → ∃ p, b[i]? = some p := fun i hi => ⟨b[i], Array.getElem?_eq_getElem hi⟩
 obtain ⟨p0, ep0⟩ := ga 0 (by omega)
 have firstB : ∀ {out : Array Keyed} {na nb : Nat}, WH rk a b out na nb → nb = 1 → Res rk a b (b.extract 0 nb ++ a.extract 0 na ++ out.reverse) := fun hw e => hw.first ua e fun j p q e1 e2 => Int.le_trans (h0 p0 q ep0 e2) (ua 0 j p0 p (Nat.zero_le _) ep0 e1)
 obtain ⟨pl, epl⟩ := ga (a.size - 1) (by omega)
 have W0 : WH rk a b #[pl] (a.size - 1) b.size := by
  have z : WH rk a b #[] a.size b.size := ⟨Nat.le_refl _, Nat.le_refl _, by simp, List.Pairwise.nil, by simp, by simp⟩
  exact z.bL ua na1 epl fun j q _ e => hl j pl q epl e
 unfold mS
 walk_at "dl mergeHi"
 dsimp only
 refine wpS_bind (wpS_lift (wpAny_rule ⟨rfl, ?_⟩))
 refine wpS_bind (ay epl ?_)
 by_cases e1 : a.size - 1 = 0
 ·rw [if_pos (by simpa using e1)]
  exact wpS_pure (h _ _ (W0.c9 ub e1) (.refl _))
 rw [if_neg (by simpa using e1)]
 by_cases e2 : b.size = 1
 ·rw [if_pos (by simpa using e2)]
  exact wpS_pure (h _ _ (firstB W0 e2) (.refl _))
 rw [if_neg (by simpa using e2)]
 refine wpS_bind (wpS_get ?_)
 refine wpS_bind (wpS_mono (wpS_forRange (I := fun x c st' => dh st st' ∧ c.1 = none ∧ mU rk a b c.2.2.2.1 c.2.1 c.2.2.1 ∧ x + c.2.1 + c.2.2.1 < a.size + b.size) (Q := fun c st' => dh st st' ∧ ∃ r, c.1 = some r ∧ Res rk a b r) ?step ?fin ⟨.refl _, rfl, ⟨W0, by dsimp only; omega, by dsimp only; omega⟩, by dsimp only; omega⟩) ?post)
 case fin =>
  rintro c st' ⟨hK, hc, hL, hx⟩
  have h1 := hL.la
  have h2 := hL.lb
  omega
 case post =>
  rintro c st' ⟨hK, r, hc, hr⟩
  rw [hc]
  exact wpS_pure (h r st' hr hK)
 case step =>
  rintro x ⟨_, na, nb, out, g⟩ st1 _ hx ⟨hK, rfl, hL, hn⟩
  dsimp only at hL hn ⊢
  refine wpS_bind (wpS_mono (wpS_forRange (I := fun y c st' => dh st st' ∧ c.1 = none ∧ mU rk a b c.2.2.2.1 c.2.1 c.2.2.1 ∧ x + y + c.2.1 + c.2.2.1 < a.size + b.size) (Q := fun c st' => dh st st' ∧ ((∃ r, c.1 = some r ∧ Res rk a b r) ∨ (c.1 = none ∧ mU rk a b c.2.2.2.1 c.2.1 c.2.2.1 ∧ x + 1 + c.2.1 + c.2.2.1 < a.size + b.size))) ?istep ?ifin ⟨hK, rfl, hL, by omega⟩) ?ipost)
  case ifin =>
   rintro c st' ⟨hK', hc, hL', hx'⟩
   exact ⟨hK', .inr ⟨hc, hL', by omega⟩⟩
  case istep =>
   rintro y ⟨_, na, nb, out, ac, bc⟩ st2 _ hy ⟨hK', rfl, hL', hn'⟩
   dsimp only at hL' hn' ⊢
   have l1 := hL'.la
   have l2 := hL'.lb
   have w1 := hL'.w.pa
   have w2 := hL'.w.pb
   obtain ⟨q, eq⟩ := gb (nb - 1) (by omega)
   obtain ⟨p, ep⟩ := ga (na - 1) (by omega)
   refine wpS_bind (ay eq (wpS_bind (ay ep (wpS_bind (iZ hC (hK'.k.trans hk) (mb _ _ eq) (ma _ _ ep) ?_)))))
   dsimp only
   by_cases hw : rk q < rk p
   ·rw [decide_eq_true hw, if_pos rfl]
    have W1 := hL'.w.bL ua l1 ep fun j r hj e => Int.le_trans (ub j (nb - 1) r q (by omega) e eq) (Int.le_of_lt hw)
    refine wpS_bind (ay ep ?_)
    by_cases e3 : na - 1 = 0
    ·rw [if_pos (by simpa using e3)]
     exact wpS_pure ⟨hK', .inl ⟨_, rfl, W1.c9 ub e3⟩⟩
    ·rw [if_neg (by simpa using e3)]
     split
     ·exact wpS_pure ⟨hK', .inr ⟨rfl, ⟨W1, by dsimp only; omega, l2⟩, by dsimp only; omega⟩⟩
     ·exact wpS_pure ⟨hK', rfl, ⟨W1, by dsimp only; omega, l2⟩, by dsimp only; omega⟩
   ·rw [decide_eq_false hw, if_neg Bool.false_ne_true]
    have W1 := hL'.w.cG ub (by omega) eq fun j r hj e => Int.le_trans (ua j (na - 1) r p (by omega) e ep) (Int.not_lt.mp hw)
    refine wpS_bind (ay eq ?_)
    by_cases e3 : nb - 1 = 1
    ·rw [if_pos (by simpa using e3)]
     exact wpS_pure ⟨hK', .inl ⟨_, rfl, firstB W1 e3⟩⟩
    ·rw [if_neg (by simpa using e3)]
     split
     ·exact wpS_pure ⟨hK', .inr ⟨rfl, ⟨W1, l1, by dsimp only; omega⟩, by dsimp only; omega⟩⟩
     ·exact wpS_pure ⟨hK', rfl, ⟨W1, l1, by dsimp only; omega⟩, by dsimp only; omega⟩
  case ipost =>
   rintro ⟨o1, na, nb, out, ac, bc⟩ st2 ⟨hK2, hor⟩
   dsimp only at hor ⊢
   rcases hor with ⟨r, rfl, hr⟩ | ⟨rfl, hL2, hn2⟩
   ·exact wpS_pure ⟨hK2, r, rfl, hr⟩
   dsimp only
   refine wpS_bind (wpS_lift (wpAny_rule ⟨rfl, ?_⟩))
   refine wpS_bind (wpS_mono (wpS_forRange (I := fun y c st' => dh st st' ∧ c.1 = none ∧ mU rk a b c.2.2.2.1 c.2.1 c.2.2.1 ∧ x + 1 + c.2.1 + c.2.2.1 < a.size + b.size) (Q := fun c st' => dh st st' ∧ ((∃ r, c.1 = some r ∧ Res rk a b r) ∨ (c.1 = none ∧ mU rk a b c.2.2.2.1 c.2.1 c.2.2.1 ∧ x + 1 + c.2.1 + c.2.2.1 < a.size + b.size))) ?gstep ?gfin ⟨hK2, rfl, hL2, hn2⟩) ?gpost)
   case gfin => rintro c st' ⟨a1, a2, a3, a4⟩; exact ⟨a1, .inr ⟨a2, a3, a4⟩⟩
   case gpost =>
    rintro ⟨o1, na, nb, out, g2, ac, bc⟩ st3 ⟨hK3, hor⟩
    dsimp only at hor ⊢
    rcases hor with ⟨r, rfl, hr⟩ | ⟨rfl, hL3, hn3⟩
    ·exact wpS_pure ⟨hK3, r, rfl, hr⟩
    ·dsimp only
     refine wpS_bind (c7 (wpS_pure ⟨hK3.min _, rfl, hL3, ?_⟩))
     dsimp only; omega
   case gstep =>
    rintro y ⟨_, na, nb, out, g2, ac, bc⟩ st3 _ hy ⟨hK3, rfl, hL3, hn3⟩
    dsimp only at hL3 hn3 ⊢
    have l1 := hL3.la
    have l2 := hL3.lb
    have w1 := hL3.w.pa
    have w2 := hL3.w.pb
    obtain ⟨q, eq⟩ := gb (nb - 1) (by omega)
    by_cases hg : g2 > 1
    all_goals
     first | rw [if_pos hg] | rw [if_neg hg]
     refine wpS_bind (c7 ?_)
     refine wpS_bind (ay eq ?_)
     refine wpS_bind (mQ hC (by exact hK3.k.trans hk) (mb _ _ eq) ma ua _ (by omega) (by omega) fun k hk1 hk2 hk3 => ?_)
     dsimp only
     have up1 : ∀ (i : Nat) (p : Keyed), k ≤ i → i < na → a[i]? = some p → rk q < rk p := fun i p z1 z2 e3 => hk3 i p z1 (by omega) (by rw [Nat.zero_add]; exact e3)
     have dn1 : ∀ (i : Nat) (p : Keyed), i < k → a[i]? = some p → rk p ≤ rk q := fun i p z1 e3 => hk2 i p z1 (by rw [Nat.zero_add]; exact e3)
     have Wk := hL3.w.mP ua (na - k) k (by omega) fun i j p r z1 z2 z3 e3 e4 => Int.le_trans (ub j (nb - 1) r q (by omega) e4 eq) (Int.le_of_lt (up1 i p z1 z2 e3))
     have W2 := Wk.cG ub (by omega) eq fun j r hj e3 => dn1 j r hj e3
     by_cases hk0 : na - k > 0
     ·rw [if_pos hk0]
      by_cases e4 : k = 0
      ·rw [if_pos (by simpa using e4)]
       exact wpS_pure ⟨hK3.min _, .inl ⟨_, rfl, Wk.c9 ub e4⟩⟩
      rw [if_neg (by simpa using e4)]
      refine wpS_bind (ay eq ?_)
      by_cases e5 : nb - 1 = 1
      ·rw [if_pos (by simpa using e5)]
       exact wpS_pure ⟨hK3.min _, .inl ⟨_, rfl, firstB W2 e5⟩⟩
      rw [if_neg (by simpa using e5)]
      obtain ⟨p, ep⟩ := ga (k - 1) (by omega)
      refine wpS_bind (ay ep ?_)
      refine wpS_bind (fN hC (by exact hK3.k.trans hk) (ma _ _ ep) mb ub _ (by omega) (by omega) fun k2 hj1 hj2 hj3 => ?_)
      dsimp only
      have up2 : ∀ (i : Nat) (r : Keyed), k2 ≤ i → i < nb - 1 → b[i]? = some r → rk p ≤ rk r := fun i r z1 z2 e6 => hj3 i r z1 (by omega) (by rw [Nat.zero_add]; exact e6)
      have dn2 : ∀ (i : Nat) (r : Keyed), i < k2 → b[i]? = some r → rk r < rk p := fun i r z1 e6 => hj2 i r z1 (by rw [Nat.zero_add]; exact e6)
      have W3 := W2.i6 ub (nb - 1 - k2) k2 (by omega) fun i j r p' z1 z2 z3 e6 e7 => Int.le_trans (ua j (k - 1) p' p (by omega) e7 ep) (up2 i r z1 z2 e6)
      by_cases hj0 : nb - 1 - k2 > 0
      ·rw [if_pos hj0]
       by_cases e8 : k2 = 1
       ·rw [if_pos (by simpa using e8)]
        exact wpS_pure ⟨hK3.min _, .inl ⟨_, rfl, firstB W3 e8⟩⟩
       rw [if_neg (by simpa using e8)]
       by_cases e10 : k2 = 0
       ·rw [if_pos (by simpa using e10)]
        exact wpS_pure ⟨hK3.min _, .inl ⟨_, rfl, W3.c8 ua e10⟩⟩
       rw [if_neg (by simpa using e10)]
       refine wpS_bind (ay ep ?_)
       have W4 := W3.bL ua (by omega) ep fun j r hj e6 => Int.le_of_lt (dn2 j r hj e6)
       by_cases e9 : k - 1 = 0
       ·rw [if_pos (by simpa using e9)]
        exact wpS_pure ⟨hK3.min _, .inl ⟨_, rfl, W4.c9 ub e9⟩⟩
       rw [if_neg (by simpa using e9)]
       by_cases hd : (decide (na - k < 7) && decide (nb - 1 - k2 < 7)) = true
       ·rw [if_pos hd]
        exact wpS_pure ⟨hK3.min _, .inr ⟨rfl, ⟨W4, by dsimp only; omega, by dsimp only; omega⟩, by dsimp only; omega⟩⟩
       ·rw [if_neg hd]
        exact wpS_pure ⟨hK3.min _, rfl, ⟨W4, by dsimp only; omega, by dsimp only; omega⟩, by dsimp only; omega⟩
      ·rw [if_neg hj0]
       have ek2 : k2 = nb - 1 := by omega
       refine wpS_bind (ay ep ?_)
       have W4 := W2.bL ua (by omega) ep fun j r hj e6 => Int.le_of_lt (dn2 j r (by omega) e6)
       by_cases e9 : k - 1 = 0
       ·rw [if_pos (by simpa using e9)]
        exact wpS_pure ⟨hK3.min _, .inl ⟨_, rfl, W4.c9 ub e9⟩⟩
       rw [if_neg (by simpa using e9)]
       by_cases hd : (decide (na - k < 7) && decide (nb - 1 - k2 < 7)) = true
       ·rw [if_pos hd]
        exact wpS_pure ⟨hK3.min _, .inr ⟨rfl, ⟨W4, by dsimp only; omega, by dsimp only; omega⟩, by dsimp only; omega⟩⟩
       ·rw [if_neg hd]
        exact wpS_pure ⟨hK3.min _, rfl, ⟨W4, by dsimp only; omega, by dsimp only; omega⟩, by dsimp only; omega⟩
     ·rw [if_neg hk0]
      have ek : k = na := by omega
      have W2' := hL3.w.cG ub (by omega) eq fun j r hj e3 => dn1 j r (by omega) e3
      refine wpS_bind (ay eq ?_)
      by_cases e5 : nb - 1 = 1
      ·rw [if_pos (by simpa using e5)]
       exact wpS_pure ⟨hK3.min _, .inl ⟨_, rfl, firstB W2' e5⟩⟩
      rw [if_neg (by simpa using e5)]
      obtain ⟨p, ep⟩ := ga (na - 1) (by omega)
      refine wpS_bind (ay ep ?_)
      refine wpS_bind (fN hC (by exact hK3.k.trans hk) (ma _ _ ep) mb ub _ (by omega) (by omega) fun k2 hj1 hj2 hj3 => ?_)
      dsimp only
      have up2 : ∀ (i : Nat) (r : Keyed), k2 ≤ i → i < nb - 1 → b[i]? = some r → rk p ≤ rk r := fun i r z1 z2 e6 => hj3 i r z1 (by omega) (by rw [Nat.zero_add]; exact e6)
      have dn2 : ∀ (i : Nat) (r : Keyed), i < k2 → b[i]? = some r → rk r < rk p := fun i r z1 e6 => hj2 i r z1 (by rw [Nat.zero_add]; exact e6)
      have W3 := W2'.i6 ub (nb - 1 - k2) k2 (by omega) fun i j r p' z1 z2 z3 e6 e7 => Int.le_trans (ua j (na - 1) p' p (by omega) e7 ep) (up2 i r z1 z2 e6)
      by_cases hj0 : nb - 1 - k2 > 0
      ·rw [if_pos hj0]
       by_cases e8 : k2 = 1
       ·rw [if_pos (by simpa using e8)]
        exact wpS_pure ⟨hK3.min _, .inl ⟨_, rfl, firstB W3 e8⟩⟩
       rw [if_neg (by simpa using e8)]
       by_cases e10 : k2 = 0
       ·rw [if_pos (by simpa using e10)]
        exact wpS_pure ⟨hK3.min _, .inl ⟨_, rfl, W3.c8 ua e10⟩⟩
       rw [if_neg (by simpa using e10)]
       refine wpS_bind (ay ep ?_)
       have W4 := W3.bL ua (by omega) ep fun j r hj e6 => Int.le_of_lt (dn2 j r hj e6)
       by_cases e9 : na - 1 = 0
       ·rw [if_pos (by simpa using e9)]
        exact wpS_pure ⟨hK3.min _, .inl ⟨_, rfl, W4.c9 ub e9⟩⟩
       rw [if_neg (by simpa using e9)]
       by_cases hd : (decide (na - k < 7) && decide (nb - 1 - k2 < 7)) = true
       ·rw [if_pos hd]
        exact wpS_pure ⟨hK3.min _, .inr ⟨rfl, ⟨W4, by dsimp only; omega, by dsimp only; omega⟩, by dsimp only; omega⟩⟩
       ·rw [if_neg hd]
        exact wpS_pure ⟨hK3.min _, rfl, ⟨W4, by dsimp only; omega, by dsimp only; omega⟩, by dsimp only; omega⟩
      ·rw [if_neg hj0]
       have ek2 : k2 = nb - 1 := by omega
       refine wpS_bind (ay ep ?_)
       have W4 := W2'.bL ua (by omega) ep fun j r hj e6 => Int.le_of_lt (dn2 j r (by omega) e6)
       by_cases e9 : na - 1 = 0
       ·rw [if_pos (by simpa using e9)]
        exact wpS_pure ⟨hK3.min _, .inl ⟨_, rfl, W4.c9 ub e9⟩⟩
       rw [if_neg (by simpa using e9)]
       by_cases hd : (decide (na - k < 7) && decide (nb - 1 - k2 < 7)) = true
       ·rw [if_pos hd]
        exact wpS_pure ⟨hK3.min _, .inr ⟨rfl, ⟨W4, by dsimp only; omega, by dsimp only; omega⟩, by dsimp only; omega⟩⟩
       ·rw [if_neg hd]
        exact wpS_pure ⟨hK3.min _, rfl, ⟨W4, by dsimp only; omega, by dsimp only; omega⟩, by dsimp only; omega⟩
end
end SR
set_option Elab.async false
set_option linter.all false
set_option maxRecDepth 100000
namespace SR
open PySem PyProof.Rows
def Seg (rk : Keyed → Int) (xs : Array Keyed) (lo hi : Nat) : Prop := ∀ i j, lo ≤ i → i ≤ j → j < hi → R rk xs i ≤ R rk xs j
def Dsc (rk : Keyed → Int) (xs : Array Keyed) (lo hi : Nat) : Prop := ∀ i j, lo ≤ i → i ≤ j → j < hi → R rk xs j ≤ R rk xs i
structure Bs (κ : SortKind) (L : List Keyed) (st : SortSt) : Prop where
 perm : (arrOf st).toList.Perm L
 kind : kindOf st = κ
 failed : failedOf st = none
structure Mv (st st' : SortSt) (lo hi : Nat) : Prop where
 out : ∀ i, i < lo ∨ hi ≤ i → (arrOf st')[i]? = (arrOf st)[i]?
 pend : pendingOf st' = pendingOf st
section
variable {L : List Keyed} {κ : SortKind} {rk : Keyed → Int} {st st' st'' : SortSt} {lo hi : Nat}
theorem Bs.size (h : Bs κ L st) : (arrOf st).size = L.length := by simpa using h.perm.length_eq
theorem Bs.at (h : Bs κ L st) {i : Nat} (hi : i < L.length) : ∃ p, (arrOf st)[i]? = some p ∧ p ∈ L := by
 have hs := h.size
 refine ⟨(arrOf st)[i]'(by omega), Array.getElem?_eq_getElem _, h.perm.mem_iff.mp ?_⟩
 rw [Array.mem_toList_iff]; exact Array.getElem_mem _
theorem Bs.arr (h : Bs κ L st) {xs : Array Keyed} (hp : xs.toList.Perm (arrOf st).toList) : Bs κ L (setArr st xs) := ⟨hp.trans h.perm, h.kind, h.failed⟩
theorem Mv.refl : Mv st st lo hi := ⟨fun _ _ => rfl, rfl⟩
theorem Mv.trans (a : Mv st st' lo hi) (b : Mv st' st'' lo hi) : Mv st st'' lo hi := ⟨fun i h => (b.out i h).trans (a.out i h), b.pend.trans a.pend⟩
theorem vo {xs : Array Keyed} {i j : Nat} (hj : j ≤ xs.size) (k : Nat) : R rk (mirror xs i j ((j - i) / 2)) k = if i ≤ k ∧ k < j then R rk xs (i + j - 1 - k) else R rk xs k := by
 have e := getElem?_mirror_all (i := i) hj k
 by_cases h : i ≤ k ∧ k < j
 ·rw [if_pos h] at e ⊢; exact br e
 ·rw [if_neg h] at e ⊢; exact br e
theorem i9 {i j : Nat} (hj : j ≤ (arrOf st).size) (h1 : lo ≤ i) (h2 : j ≤ hi) : Mv st (setArr st (mirror (arrOf st) i j ((j - i) / 2))) lo hi :=
 ⟨fun k hk => by
   have e := getElem?_mirror_all (i := i) hj k
   rw [if_neg (by omega)] at e; exact e, rfl⟩
theorem yi (i : Nat) (xs : Array Keyed) : Seg rk xs i (i + 1) := fun a b h1 h2 h3 => by
 have : a = b := by omega
 subst this; exact Int.le_refl _
theorem vp {xs : Array Keyed} {lo n : Nat} (h : Seg rk xs lo (lo + n)) (hn : 1 ≤ n) (hl : ¬ R rk xs (lo + n) < R rk xs (lo + n - 1)) : Seg rk xs lo (lo + (n + 1)) := fun a b h1 h2 h3 => by
 by_cases hb : b < lo + n
 ·exact h a b h1 h2 hb
 ·have e : b = lo + n := by omega
  subst e
  by_cases ha : a = lo + n
  ·subst ha; exact Int.le_refl _
  ·exact Int.le_trans (h a (lo + n - 1) h1 (by omega) (by omega)) (Int.not_lt.mp hl)
theorem dI {xs : Array Keyed} {lo n : Nat} (h : Dsc rk xs lo (lo + n)) (hn : 1 ≤ n) (hl : R rk xs (lo + n) ≤ R rk xs (lo + n - 1)) : Dsc rk xs lo (lo + (n + 1)) := fun a b h1 h2 h3 => by
 by_cases hb : b < lo + n
 ·exact h a b h1 h2 hb
 ·have e : b = lo + n := by omega
  subst e
  by_cases ha : a = lo + n
  ·subst ha; exact Int.le_refl _
  ·exact Int.le_trans hl (h a (lo + n - 1) h1 (by omega) (by omega))
end
section
variable {prog : Program} {w : World} {A : Around} {E : Value → Shared → Prop} {s : Shared} {L : List Keyed} {κ : SortKind} {rk : Keyed → Int} {st : SortSt} {lo nrem : Nat}
theorem ja {i j : Nat} {Q : Option Bool → SortSt → Prop} (hC : Cmp prog w A s κ rk L) (hB : Bs κ L st) (hi : i < L.length) (hj : j < L.length) (h : Q (some (decide (R rk (arrOf st) i < R rk (arrOf st) j))) st) : wpS (model prog w) A E s (ltAt' i j) Q st := by
 obtain ⟨p, ep, hp⟩ := hB.at hi
 obtain ⟨q, eq, hq⟩ := hB.at hj
 exact rY hC hB.kind ep eq hp hq h
theorem cD {i j : Nat} {Q : Unit → SortSt → Prop} (h : Q () (setArr st (mirror (arrOf st) i j ((j - i) / 2)))) : wpS (model prog w) A E s (reverseSlice' i j) Q st :=
 wpS_modify (f := fun s => setArr s (mirror (arrOf s) i j ((j - i) / 2))) h
abbrev AscC := Option (Option Nat) × Nat
def asc (lo a nrem : Nat) : StateT SortSt Sem AscC :=
 forIn [a:nrem] ((none, a) : AscC) fun _ c => ltAt' (lo + c.2) (lo + c.2 - 1) >>= fun x => match x with
  | some smaller => if smaller = true then pure (ForInStep.done (none, c.2)) else pure (ForInStep.yield (none, c.2 + 1))
  | _ => pure (ForInStep.done (some none, c.2))
theorem qG {a : Nat} {Q : AscC → SortSt → Prop} (hC : Cmp prog w A s κ rk L) (hB : Bs κ L st) (hn : lo + nrem ≤ L.length) (h1 : 1 ≤ a) (h2 : a ≤ nrem) (hs : Seg rk (arrOf st) lo (lo + a))
 (h : ∀ n, a ≤ n → n ≤ nrem → Seg rk (arrOf st) lo (lo + n) → (n = nrem ∨ R rk (arrOf st) (lo + n) < R rk (arrOf st) (lo + n - 1)) → Q (none, n) st) : wpS (model prog w) A E s (asc lo a nrem) Q st := by
 unfold asc
 refine wpS_forRange (I := fun x c st' => st' = st ∧ c = (none, x) ∧ Seg rk (arrOf st) lo (lo + x)) ?step ?fin ⟨rfl, rfl, hs⟩
 case fin =>
  rintro c st' ⟨rfl, rfl, hs'⟩
  rw [show max a nrem = nrem by omega] at hs' ⊢
  exact h nrem h2 (Nat.le_refl _) hs' (.inl rfl)
 case step =>
  rintro x c st' hax hxn ⟨rfl, rfl, hs'⟩
  refine wpS_bind (ja hC hB (by dsimp only; omega) (by dsimp only; omega) ?_)
  dsimp only
  by_cases hl : R rk (arrOf st') (lo + x) < R rk (arrOf st') (lo + x - 1)
  ·rw [decide_eq_true hl, if_pos rfl]
   exact wpS_pure (h x hax (by omega) hs' (.inr hl))
  ·rw [decide_eq_false hl, if_neg Bool.false_ne_true]
   exact wpS_pure ⟨rfl, rfl, vp hs' (by omega) hl⟩
abbrev DscC := Option (Option Nat) × Nat × Nat
def dsc (lo n nrem : Nat) : StateT SortSt Sem DscC :=
 forIn [n:nrem] ((none, n, 0) : DscC) fun _ c => ltAt' (lo + c.2.1) (lo + c.2.1 - 1) >>= fun x => match x with
  | some smaller => if smaller = true then
   (if c.2.2 > 0 then reverseSlice' (lo + c.2.1 - (c.2.2 + 1)) (lo + c.2.1) >>= fun _ => pure (ForInStep.yield (none, c.2.1 + 1, 0)) else pure (ForInStep.yield (none, c.2.1 + 1, 0)))
   else ltAt' (lo + c.2.1 - 1) (lo + c.2.1) >>= fun y => match y with
    | some larger => if larger = true then pure (ForInStep.done (none, c.2.1, c.2.2)) else pure (ForInStep.yield (none, c.2.1 + 1, c.2.2 + 1))
    | _ => pure (ForInStep.done (some none, c.2.1, c.2.2))
  | _ => pure (ForInStep.done (some none, c.2.1, c.2.2))
theorem fP {xs : Array Keyed} {i j : Nat} (hj : j ≤ xs.size) (he : ∀ k, i ≤ k → k < j → R rk xs k = R rk xs (j - 1)) (k : Nat) : R rk (mirror xs i j ((j - i) / 2)) k = R rk xs k := by
 rw [vo hj]
 split
 ·rw [he _ (by omega) (by omega), he k (by omega) (by omega)]
 ·rfl
theorem yj {n : Nat} {Q : DscC → SortSt → Prop} (hC : Cmp prog w A s κ rk L) (hB : Bs κ L st) (hn : lo + nrem ≤ L.length) (h1 : 1 ≤ n) (h2 : n ≤ nrem) (hs : Dsc rk (arrOf st) lo (lo + n))
 (h : ∀ m neq st', Bs κ L st' → Mv st st' lo (lo + nrem) → n ≤ m → m ≤ nrem → Dsc rk (arrOf st') lo (lo + m) → neq + 1 ≤ m → (∀ i, lo + m - (neq + 1) ≤ i → i < lo + m → R rk (arrOf st') i = R rk (arrOf st') (lo + m - 1)) → Q (none, m, neq) st') :
 wpS (model prog w) A E s (dsc lo n nrem) Q st := by
 unfold dsc
 refine wpS_forRange (I := fun x c st' => ∃ neq, c = (none, x, neq) ∧ Bs κ L st' ∧ Mv st st' lo (lo + nrem) ∧ Dsc rk (arrOf st') lo (lo + x) ∧ neq + 1 ≤ x ∧ (∀ i, lo + x - (neq + 1) ≤ i → i < lo + x → R rk (arrOf st') i = R rk (arrOf st') (lo + x - 1))) ?step ?fin
  ⟨0, rfl, hB, .refl, hs, h1, fun i a1 a2 => by congr 1; omega⟩
 case fin =>
  rintro c st' ⟨neq, rfl, hB', hM', hs', hq, he⟩
  rw [show max n nrem = nrem by omega] at hs' hq he ⊢
  exact h nrem neq st' hB' hM' h2 (Nat.le_refl _) hs' hq he
 case step =>
  rintro x c st' hax hxn ⟨neq, rfl, hB', hM', hs', hq, he⟩
  have hsz := hB'.size
  refine wpS_bind (ja hC hB' (by dsimp only; omega) (by dsimp only; omega) ?_)
  dsimp only
  by_cases hl : R rk (arrOf st') (lo + x) < R rk (arrOf st') (lo + x - 1)
  ·rw [decide_eq_true hl, if_pos rfl]
   by_cases hq0 : neq > 0
   ·rw [if_pos hq0]
    have key := fP (rk := rk) (xs := arrOf st') (i := lo + x - (neq + 1)) (j := lo + x) (by omega) he
    refine wpS_bind (cD (wpS_pure ⟨0, rfl, hB'.arr (Array.perm_iff_toList_perm.mp (mirror_perm _ _ _ _)), hM'.trans (i9 (by omega) (by omega) (by omega)), ?_, by omega, fun i a1 a2 => by congr 1; omega⟩))
    refine dI (fun a b z1 z2 z3 => ?_) (by omega) ?_
    ·show R rk (mirror _ _ _ _) b ≤ R rk (mirror _ _ _ _) a
     rw [key, key]; exact hs' a b z1 z2 z3
    ·show R rk (mirror _ _ _ _) _ ≤ R rk (mirror _ _ _ _) _
     rw [key, key]; omega
   ·rw [if_neg hq0]
    exact wpS_pure ⟨0, rfl, hB', hM', dI hs' (by omega) (by omega), by omega, fun i a1 a2 => by congr 1; omega⟩
  ·rw [decide_eq_false hl, if_neg Bool.false_ne_true]
   refine wpS_bind (ja hC hB' (by omega) (by omega) ?_)
   dsimp only
   by_cases hg : R rk (arrOf st') (lo + x - 1) < R rk (arrOf st') (lo + x)
   ·rw [decide_eq_true hg, if_pos rfl]
    exact wpS_pure (h x neq st' hB' hM' hax (by omega) hs' hq he)
   ·rw [decide_eq_false hg, if_neg Bool.false_ne_true]
    have heq : R rk (arrOf st') (lo + x) = R rk (arrOf st') (lo + x - 1) := by omega
    refine wpS_pure ⟨neq + 1, rfl, hB', hM', dI hs' (by omega) (by omega), by omega, fun i a1 a2 => ?_⟩
    rw [show lo + (x + 1) - 1 = lo + x by omega]
    by_cases hi : i = lo + x
    ·rw [hi]
    ·rw [heq]; exact he i (by omega) (by omega)
def countRun' : Nat → Nat → StateT SortSt Sem (Option Nat) := sortPriv% PySem.Builtin.countRun
theorem fQ {n : Nat} {Q : Option Nat → SortSt → Prop} (hC : Cmp prog w A s κ rk L) (hB : Bs κ L st) (hn : lo + nrem ≤ L.length) (h1 : 1 ≤ n) (h2 : n ≤ nrem) (hs : Dsc rk (arrOf st) lo (lo + n))
 (h : ∀ m st', Bs κ L st' → Mv st st' lo (lo + nrem) → 1 ≤ m → m ≤ nrem → Seg rk (arrOf st') lo (lo + m) → Q (some m) st') :
 wpS (model prog w) A E s (asc lo n nrem) (fun c st' => c.1 = none ∧ Q (some c.2) st') (setArr st (mirror (arrOf st) lo (lo + n) ((lo + n - lo) / 2))) := by
 have hsz := hB.size
 have hB' := hB.arr (Array.perm_iff_toList_perm.mp (mirror_perm (arrOf st) lo (lo + n) ((lo + n - lo) / 2)))
 refine qG hC hB' hn h1 h2 (fun a b z1 z2 z3 => ?_) fun m m1 m2 ms _ => ⟨rfl, h m _ hB' (i9 (by omega) (Nat.le_refl _) (by omega)) (by omega) m2 ms⟩
 show R rk (mirror _ _ _ _) a ≤ R rk (mirror _ _ _ _) b
 rw [vo (by omega), vo (by omega), if_pos (by omega), if_pos (by omega)]
 exact hs _ _ (by omega) (by omega) (by omega)
local macro_rules | `(tactic| walk_at "dl countRun") => do
 let i := Lean.mkIdent (Lean.mkPrivateNameCore `PySem.Builtin.List.W1All `PySem.Builtin.countRun)
 `(tactic| delta $i)
theorem wpS_countRun {Q : Option Nat → SortSt → Prop} (hC : Cmp prog w A s κ rk L) (hB : Bs κ L st) (hn : lo + nrem ≤ L.length) (h1 : 1 ≤ nrem)
 (h : ∀ m st', Bs κ L st' → Mv st st' lo (lo + nrem) → 1 ≤ m → m ≤ nrem → Seg rk (arrOf st') lo (lo + m) → Q (some m) st') : wpS (model prog w) A E s (countRun' lo nrem) Q st := by
 unfold countRun'
 walk_at "dl countRun"
 dsimp only
 have hsz := hB.size
 refine wpS_bind (show wpS _ _ _ _ (asc lo 1 nrem) _ _ from qG hC hB hn (Nat.le_refl _) h1 (yi lo _) fun n n1 n2 ns nor => ?_)
 dsimp only
 by_cases hnn : n = nrem
 ·rw [if_pos (by simpa using hnn)]
  exact wpS_pure (h n st hB .refl n1 n2 ns)
 rw [if_neg (by simpa using hnn)]
 have hlt := nor.resolve_left hnn
 have rest : ∀ (st1 : SortSt), Bs κ L st1 → Mv st st1 lo (lo + nrem) → Dsc rk (arrOf st1) lo (lo + (n + 1)) → wpS (model prog w) A E s (dsc lo (n + 1) nrem) (fun c st2 => Bs κ L st2 ∧ Mv st st2 lo (lo + nrem) ∧ c.1 = none ∧ n + 1 ≤ c.2.1 ∧ c.2.1 ≤ nrem ∧ Dsc rk (arrOf st2) lo (lo + c.2.1) ∧ c.2.2 + 1 ≤ c.2.1 ∧ (∀ i, lo + c.2.1 - (c.2.2 + 1) ≤ i → i < lo + c.2.1 → R rk (arrOf st2) i = R rk (arrOf st2) (lo + c.2.1 - 1))) st1 :=
  fun st1 hB1 hM1 hs1 => yj hC hB1 hn (by omega) (by omega) hs1 fun m neq st2 a1 a2 a3 a4 a5 a6 a7 => ⟨a1, hM1.trans a2, rfl, a3, a4, a5, a6, a7⟩
 by_cases hgt : n > 1
 ·rw [if_pos hgt]
  refine wpS_bind (ja hC hB (by omega) (by omega) ?_)
  dsimp only
  by_cases hrose : R rk (arrOf st) lo < R rk (arrOf st) (lo + n - 1)
  ·rw [decide_eq_true hrose, if_pos rfl]
   exact wpS_pure (h n st hB .refl n1 n2 ns)
  ·rw [decide_eq_false hrose, if_neg Bool.false_ne_true]
   have hall : ∀ k, lo ≤ k → k < lo + n → R rk (arrOf st) k = R rk (arrOf st) (lo + n - 1) := fun k z1 z2 => by
    have a1 := ns lo k (Nat.le_refl _) z1 z2
    have a2 := ns k (lo + n - 1) z1 (by omega) (by omega)
    omega
   have key := fP (rk := rk) (xs := arrOf st) (i := lo) (j := lo + n) (by omega) hall
   refine wpS_bind (cD ?_)
   refine wpS_bind (wpS_lift (wpAny_rule ⟨rfl, ?_⟩))
   refine wpS_bind (wpS_mono (show wpS _ _ _ _ (dsc lo (n + 1) nrem) _ _ from rest _ (hB.arr (Array.perm_iff_toList_perm.mp (mirror_perm _ _ _ _))) (i9 (by omega) (Nat.le_refl _) (by omega)) (dI (fun a b z1 z2 z3 => ?_) (by omega) ?_)) fun c st2 hc => ?_)
   ·show R rk (mirror _ _ _ _) b ≤ R rk (mirror _ _ _ _) a
    rw [key, key, hall b (by omega) z3, hall a z1 (by omega)]; exact Int.le_refl _
   ·show R rk (mirror _ _ _ _) _ ≤ R rk (mirror _ _ _ _) _
    rw [key, key]; omega
   ·obtain ⟨r, m, neq⟩ := c
    obtain ⟨b1, b2, b3, b4, b5, b6, b7, b8⟩ := hc
    dsimp only at b3 b4 b5 b6 b7 b8 ⊢
    rw [b3]
    dsimp only
    by_cases hq0 : neq > 0
    ·rw [if_pos hq0]
     have hsz2 := b1.size
     have key2 := fP (rk := rk) (xs := arrOf st2) (i := lo + m - (neq + 1)) (j := lo + m) (by omega) b8
     refine wpS_bind (cD (wpS_bind (cD (wpS_bind (wpS_mono (show wpS _ _ _ _ (asc lo m nrem) _ _ from fQ (Q := Q) hC (b1.arr (Array.perm_iff_toList_perm.mp (mirror_perm _ _ _ _))) hn (by omega) b5 (fun a b z1 z2 z3 => ?_) fun k st3 c1 c2 c3 c4 c5 => h k st3 c1 ((b2.trans (i9 (by omega) (by omega) (by omega))).trans c2) c3 c4 c5) fun c st4 hc => ?_)))))
     ·show R rk (mirror _ _ _ _) b ≤ R rk (mirror _ _ _ _) a
      rw [key2, key2]; exact b6 a b z1 z2 z3
     ·obtain ⟨r, k⟩ := c
      obtain ⟨e, hQ⟩ := hc
      dsimp only at e hQ ⊢
      rw [e]
      exact wpS_pure hQ
    ·rw [if_neg hq0]
     refine wpS_bind (cD (wpS_bind (wpS_mono (show wpS _ _ _ _ (asc lo m nrem) _ _ from fQ (Q := Q) hC b1 hn (by omega) b5 b6 fun k st3 c1 c2 c3 c4 c5 => h k st3 c1 (b2.trans c2) c3 c4 c5) fun c st4 hc => ?_)))
     obtain ⟨r, k⟩ := c
     obtain ⟨e, hQ⟩ := hc
     dsimp only at e hQ ⊢
     rw [e]
     exact wpS_pure hQ
 ·rw [if_neg hgt]
  have e1 : n = 1 := by omega
  subst e1
  refine wpS_bind (wpS_lift (wpAny_rule ⟨rfl, ?_⟩))
  refine wpS_bind (wpS_mono (show wpS _ _ _ _ (dsc lo (1 + 1) nrem) _ _ from rest st hB .refl (dI (fun a b z1 z2 z3 => ?_) (Nat.le_refl _) (Int.le_of_lt hlt))) fun c st2 hc => ?_)
  ·have : a = b := by omega
   subst this; exact Int.le_refl _
  ·obtain ⟨r, m, neq⟩ := c
   obtain ⟨b1, b2, b3, b4, b5, b6, b7, b8⟩ := hc
   dsimp only at b3 b4 b5 b6 b7 b8 ⊢
   rw [b3]
   dsimp only
   by_cases hq0 : neq > 0
   ·rw [if_pos hq0]
    have hsz2 := b1.size
    have key2 := fP (rk := rk) (xs := arrOf st2) (i := lo + m - (neq + 1)) (j := lo + m) (by omega) b8
    refine wpS_bind (cD (wpS_bind (cD (wpS_bind (wpS_mono (show wpS _ _ _ _ (asc lo m nrem) _ _ from fQ (Q := Q) hC (b1.arr (Array.perm_iff_toList_perm.mp (mirror_perm _ _ _ _))) hn (by omega) b5 (fun a b z1 z2 z3 => ?_) fun k st3 c1 c2 c3 c4 c5 => h k st3 c1 ((b2.trans (i9 (by omega) (by omega) (by omega))).trans c2) c3 c4 c5) fun c st4 hc => ?_)))))
    ·show R rk (mirror _ _ _ _) b ≤ R rk (mirror _ _ _ _) a
     rw [key2, key2]; exact b6 a b z1 z2 z3
    ·obtain ⟨r, k⟩ := c
     obtain ⟨e, hQ⟩ := hc
     dsimp only at e hQ ⊢
     rw [e]
     exact wpS_pure hQ
   ·rw [if_neg hq0]
    refine wpS_bind (cD (wpS_bind (wpS_mono (show wpS _ _ _ _ (asc lo m nrem) _ _ from fQ (Q := Q) hC b1 hn (by omega) b5 b6 fun k st3 c1 c2 c3 c4 c5 => h k st3 c1 (b2.trans c2) c3 c4 c5) fun c st4 hc => ?_)))
    obtain ⟨r, k⟩ := c
    obtain ⟨e, hQ⟩ := hc
    dsimp only at e hQ ⊢
    rw [e]
    exact wpS_pure hQ
end
end SR
set_option Elab.async false
set_option linter.all false
set_option maxRecDepth 100000
namespace SR
open PySem PyProof.Rows
section
variable {prog : Program} {w : World} {A : Around} {E : Value → Shared → Prop} {s : Shared} {L : List Keyed} {κ : SortKind} {rk : Keyed → Int} {st : SortSt} {lo : Nat}
theorem zz {xs : Array Keyed} {src d : Nat} (hs : src < xs.size) (hd : d ≤ src) (k : Nat) : R rk (bubble xs src d) k = if k = src - d then R rk xs src else if src - d < k ∧ k ≤ src then R rk xs (k - 1) else R rk xs k := by
 have e := getElem?_bubble hs d hd k
 by_cases h1 : k = src - d
 ·rw [if_pos h1] at e ⊢; exact br e
 ·rw [if_neg h1] at e ⊢
  by_cases h2 : src - d < k ∧ k ≤ src
  ·rw [if_pos h2] at e ⊢; exact br e
  ·rw [if_neg h2] at e ⊢; exact br e
theorem vq {i j : Nat} {Q : Unit → SortSt → Prop} (h : Q () (setArr st (bubble (arrOf st) i (i - j)))) : wpS (model prog w) A E s (moveDown' i j) Q st :=
 wpS_modify (f := fun s => setArr s (bubble (arrOf s) i (i - j))) h
def binarySort' : Nat → Nat → Nat → StateT SortSt Sem Bool := sortPriv% PySem.Builtin.binarySort
local macro_rules | `(tactic| walk_at "dl binarySort") => do
 let i := Lean.mkIdent (Lean.mkPrivateNameCore `PySem.Builtin.List.W1All `PySem.Builtin.binarySort)
 `(tactic| delta $i)
theorem wpS_binarySort {n ok : Nat} {Q : Bool → SortSt → Prop} (hC : Cmp prog w A s κ rk L) (hB : Bs κ L st) (hn : lo + n ≤ L.length) (hok : ok ≤ n) (hs : Seg rk (arrOf st) lo (lo + ok))
 (h : ∀ st', Bs κ L st' → Mv st st' lo (lo + n) → Seg rk (arrOf st') lo (lo + n) → Q true st') : wpS (model prog w) A E s (binarySort' lo n ok) Q st := by
 unfold binarySort'
 walk_at "dl binarySort"
 dsimp only
 refine wpS_bind (wpS_mono (wpS_forRange (I := fun k c st' => c.1 = none ∧ Bs κ L st' ∧ Mv st st' lo (lo + n) ∧ Seg rk (arrOf st') lo (lo + min k n)) (Q := fun c st' => c.1 = none ∧ Bs κ L st' ∧ Mv st st' lo (lo + n) ∧ Seg rk (arrOf st') lo (lo + n)) ?step ?fin ?init) ?post)
 case post =>
  rintro ⟨c, u⟩ st' ⟨hc, hB', hM', hs'⟩
  dsimp only at hc ⊢
  rw [hc]
  exact wpS_pure (h st' hB' hM' hs')
 case init =>
  refine ⟨rfl, hB, .refl, fun a b z1 z2 z3 => ?_⟩
  by_cases h1 : ok = 0
  ·have : a = b := by omega
   subst this; exact Int.le_refl _
  ·exact hs a b z1 z2 (by omega)
 case fin =>
  rintro c st' ⟨hc, hB', hM', hs'⟩
  rw [show min (max (max ok 1) n) n = n by omega] at hs'
  exact ⟨hc, hB', hM', hs'⟩
 case step =>
  rintro k ⟨c, u⟩ st' hak hkn ⟨rfl, hB', hM', hs'⟩
  rw [show min k n = k by omega] at hs'
  have hsz := hB'.size
  refine wpS_bind (wpS_mono (wpS_forRange (I := fun x c st2 => st2 = st' ∧ ∃ l r, c = (none, l, r) ∧ l ≤ r ∧ r ≤ k ∧ r - l ≤ k - x ∧ (∀ i, i < l → R rk (arrOf st') (lo + i) ≤ R rk (arrOf st') (lo + k)) ∧ (∀ i, r ≤ i → i < k → R rk (arrOf st') (lo + k) < R rk (arrOf st') (lo + i)))
   (Q := fun c st2 => st2 = st' ∧ ∃ l r, c = (none, l, r) ∧ l ≤ k ∧ (∀ i, i < l → R rk (arrOf st') (lo + i) ≤ R rk (arrOf st') (lo + k)) ∧ (∀ i, l ≤ i → i < k → R rk (arrOf st') (lo + k) < R rk (arrOf st') (lo + i))) ?istep ?ifin ⟨rfl, 0, k, rfl, by omega, by omega, by omega, fun i hi => by omega, fun i h1 h2 => by omega⟩) ?ipost)
  case ifin =>
   rintro c st2 ⟨rfl, l, r, rfl, a1, a2, a3, a4, a5⟩
   have : l = r := by omega
   subst this
   exact ⟨rfl, l, l, rfl, a2, a4, a5⟩
  case istep =>
   rintro x c st2 _ hx ⟨rfl, l, r, rfl, a1, a2, a3, a4, a5⟩
   dsimp only
   by_cases hge : l ≥ r
   ·rw [if_pos hge]
    have : l = r := by omega
    subst this
    exact wpS_pure ⟨rfl, l, l, rfl, a2, a4, a5⟩
   ·rw [if_neg hge]
    refine wpS_bind (ja hC hB' (by omega) (by omega) ?_)
    dsimp only
    by_cases hl : R rk (arrOf st2) (lo + k) < R rk (arrOf st2) (lo + (l + r) / 2)
    ·rw [decide_eq_true hl, if_pos rfl]
     refine wpS_pure ⟨rfl, l, (l + r) / 2, rfl, by omega, by omega, by omega, a4, fun i h1 h2 => ?_⟩
     exact Int.lt_of_lt_of_le hl (hs' _ _ (by omega) (by omega) (by omega))
    ·rw [decide_eq_false hl, if_neg Bool.false_ne_true]
     refine wpS_pure ⟨rfl, (l + r) / 2 + 1, r, rfl, by omega, by omega, by omega, fun i h1 => ?_, a5⟩
     exact Int.le_trans (hs' (lo + i) (lo + (l + r) / 2) (by omega) (by omega) (by omega)) (Int.not_lt.mp hl)
  case ipost =>
   rintro c st2 ⟨rfl, l, r, rfl, hlk, a4, a5⟩
   dsimp only
   have e1 : lo + k - (lo + l) = k - l := by omega
   refine wpS_bind (vq (wpS_pure ⟨rfl, hB'.arr (Array.perm_iff_toList_perm.mp (bubble_perm _ _ _)), ?_, ?_⟩))
   ·refine hM'.trans ⟨fun i hi => ?_, rfl⟩
    have e := getElem?_bubble (xs := arrOf st2) (src := lo + k) (by omega) (lo + k - (lo + l)) (by omega) i
    rw [if_neg (by omega), if_neg (by omega)] at e
    exact e
   ·rw [show min (k + 1) n = k + 1 by omega]
    intro i j hi hij hj
    show R rk (bubble (arrOf st2) (lo + k) (lo + k - (lo + l))) i ≤ R rk (bubble (arrOf st2) (lo + k) (lo + k - (lo + l))) j
    rw [zz (by omega) (by omega), zz (by omega) (by omega), e1]
    have sub : ∀ i, lo ≤ i → lo + (i - lo) = i := fun i hi => by omega
    have f4 : ∀ i, lo ≤ i → i < lo + l → R rk (arrOf st2) i ≤ R rk (arrOf st2) (lo + k) := fun i h1 h2 => by have := a4 (i - lo) (by omega); rwa [sub i h1] at this
    have f5 : ∀ i, lo + l ≤ i → i < lo + k → R rk (arrOf st2) (lo + k) < R rk (arrOf st2) i := fun i h1 h2 => by have := a5 (i - lo) (by omega) (by omega); rwa [sub i (by omega)] at this
    repeat' split
    all_goals first
     | (exfalso; omega)
     | exact Int.le_refl _
     | exact f4 _ (by omega) (by omega)
     | exact Int.le_of_lt (f5 _ (by omega) (by omega))
     | exact hs' _ _ (by omega) (by omega) (by omega)
theorem j7 : ∀ (l : List Keyed) (k sa : Nat) (A : Array Keyed), sa + k + l.length ≤ A.size → ((l.zipIdx k).foldl (fun a (x : Keyed × Nat) => a.setIfInBounds (sa + x.2) x.1) A).size = A.size ∧
 ∀ i : Nat, ((l.zipIdx k).foldl (fun a (x : Keyed × Nat) => a.setIfInBounds (sa + x.2) x.1) A)[i]? = if sa + k ≤ i ∧ i < sa + k + l.length then l[i - (sa + k)]? else A[i]?
 | [], k, sa, A, h => ⟨rfl, fun i => by rw [if_neg (by simp only [List.length_nil]; omega)]; rfl⟩
 | x :: l, k, sa, A, h => by
  rw [List.length_cons] at h
  obtain ⟨h1, h2⟩ := j7 l (k + 1) sa (A.setIfInBounds (sa + k) x) (by rw [Array.size_setIfInBounds]; omega)
  rw [List.zipIdx_cons, List.foldl_cons]
  refine ⟨by rw [h1, Array.size_setIfInBounds], fun i => ?_⟩
  rw [h2 i, List.length_cons]
  by_cases c1 : sa + (k + 1) ≤ i ∧ i < sa + (k + 1) + l.length
  ·rw [if_pos c1, if_pos (by omega), show i - (sa + k) = i - (sa + (k + 1)) + 1 by omega, List.getElem?_cons_succ]
  ·rw [if_neg c1]
   by_cases c2 : i = sa + k
   ·subst c2
    rw [if_pos (by omega), Nat.sub_self, List.getElem?_cons_zero, Array.getElem?_setIfInBounds_self_of_lt (by omega)]
   ·rw [if_neg (by omega), Array.getElem?_setIfInBounds_ne (by omega)]
end
end SR
set_option Elab.async false
set_option linter.all false
set_option maxRecDepth 100000
namespace SR
open PySem PyProof.Rows
def eG : Nat → StateT SortSt Sem Bool := sortPriv% PySem.Builtin.mergeAt
local macro_rules | `(tactic| walk_at "dl mergeAt") => do
 let i := Lean.mkIdent (Lean.mkPrivateNameCore `PySem.Builtin.List.W1All `PySem.Builtin.mergeAt)
 `(tactic| delta $i)
section
variable {prog : Program} {w : World} {A : Around} {E : Value → Shared → Prop} {s : Shared} {L : List Keyed} {κ : SortKind} {rk : Keyed → Int} {st : SortSt}
theorem yk {M : Model} {st1 : SortSt} {Q : PUnit → SortSt → Prop} (h : Q ⟨⟩ st1) : wpS M A E s (set st1 : StateT SortSt Sem PUnit) Q st := by
 unfold wpS; rw [StateT.run_set]; exact wpAny_pure ⟨rfl, h⟩
theorem rZ {key : Keyed} {xs : Array Keyed} {base n hint : Nat} {Q : Option Nat → SortSt → Prop} (hC : Cmp prog w A s κ rk L) (hk : kindOf st = κ) (hkey : key ∈ L) (mx : ∀ (i : Nat) (p : Keyed), xs[i]? = some p → p ∈ L) (hn : base + n ≤ xs.size) (us : Seg rk xs base (base + n)) (hh : hint < n)
 (h : ∀ k, k ≤ n → (∀ i, base ≤ i → i < base + k → R rk xs i ≤ rk key) → (∀ i, base + k ≤ i → i < base + n → rk key < R rk xs i) → Q (some k) st) : wpS (model prog w) A E s (cY false key xs base n hint) Q st := by
 obtain ⟨k, h1, h2⟩ := i7 (fun i => R rk xs (base + i)) (rk key) n fun i j hij hj => us _ _ (by omega) (by omega) (by omega)
 refine cZ hC hk hkey (fun i hi => ⟨xs[base + i]'(by omega), Array.getElem?_eq_getElem _, mx _ _ (Array.getElem?_eq_getElem _)⟩) (fun i hi => by simp only [Bool.false_eq_true, if_false]; exact h2 i hi) h1 hh (h k h1 (fun i hi hk => ?_) fun i hi hk => ?_)
 ·have := (h2 (i - base) (by omega)).mpr (by omega)
  rwa [show base + (i - base) = i by omega] at this
 ·have := mt (h2 (i - base) (by omega)).mp (by omega)
  rw [show base + (i - base) = i by omega] at this
  omega
theorem r6 {key : Keyed} {xs : Array Keyed} {base n hint : Nat} {Q : Option Nat → SortSt → Prop} (hC : Cmp prog w A s κ rk L) (hk : kindOf st = κ) (hkey : key ∈ L) (mx : ∀ (i : Nat) (p : Keyed), xs[i]? = some p → p ∈ L) (hn : base + n ≤ xs.size) (us : Seg rk xs base (base + n)) (hh : hint < n)
 (h : ∀ k, k ≤ n → (∀ i, base ≤ i → i < base + k → R rk xs i < rk key) → (∀ i, base + k ≤ i → i < base + n → rk key ≤ R rk xs i) → Q (some k) st) : wpS (model prog w) A E s (cY true key xs base n hint) Q st := by
 obtain ⟨k, h1, h2⟩ := i8 (fun i => R rk xs (base + i)) (rk key) n fun i j hij hj => us _ _ (by omega) (by omega) (by omega)
 refine cZ hC hk hkey (fun i hi => ⟨xs[base + i]'(by omega), Array.getElem?_eq_getElem _, mx _ _ (Array.getElem?_eq_getElem _)⟩) (fun i hi => by simp only [if_true]; exact h2 i hi) h1 hh (h k h1 (fun i hi hk => ?_) fun i hi hk => ?_)
 ·have := (h2 (i - base) (by omega)).mpr (by omega)
  rwa [show base + (i - base) = i by omega] at this
 ·have := mt (h2 (i - base) (by omega)).mp (by omega)
  rw [show base + (i - base) = i by omega] at this
  omega
theorem cE {xs : Array Keyed} {i j m : Nat} {p : Keyed} (h : (xs.extract i j)[m]? = some p) : xs[i + m]? = some p ∧ i + m < j := by
 rw [Array.getElem?_extract] at h
 split at h
 ·exact ⟨h, by omega⟩
 ·cases h
theorem qH {xs : Array Keyed} {lo hi i j : Nat} (h : Seg rk xs lo hi) (h1 : lo ≤ i) (h2 : j ≤ hi) : Up rk (xs.extract i j) := fun a b p q hab e1 e2 => by
 obtain ⟨f1, g1⟩ := cE e1
 obtain ⟨f2, g2⟩ := cE e2
 have := h (i + a) (i + b) (by omega) (by omega) (by omega)
 rwa [cj f1, cj f2] at this
theorem mW {i sa na nb pw pw2 : Nat} {Q : Bool → SortSt → Prop} (hC : Cmp prog w A s κ rk L) (hB : Bs κ L st) (p1 : (pendingOf st)[i]? = some (sa, na, pw)) (p2 : (pendingOf st)[i + 1]? = some (sa + na, nb, pw2)) (h1 : 1 ≤ na) (h2 : 1 ≤ nb) (hz : sa + na + nb ≤ L.length)
 (s1 : Seg rk (arrOf st) sa (sa + na)) (s2 : Seg rk (arrOf st) (sa + na) (sa + na + nb))
 (h : ∀ st', Bs κ L st' → (∀ j, j < sa ∨ sa + na + nb ≤ j → (arrOf st')[j]? = (arrOf st)[j]?) → pendingOf st' = ((pendingOf st).setIfInBounds i (sa, na + nb, pw)).eraseIdxIfInBounds (i + 1) → Seg rk (arrOf st') sa (sa + na + nb) → Q true st') :
 wpS (model prog w) A E s (eG i) Q st := by
 unfold eG
 walk_at "dl mergeAt"
 dsimp only
 refine wpS_bind (wpS_get ?_)
 rw [p1, p2]
 dsimp only
 have hsz := hB.size
 have mL : ∀ (i : Nat) (p : Keyed), (arrOf st)[i]? = some p → p ∈ L := fun i p e => hB.perm.mem_iff.mp (by
  obtain ⟨h1, h2⟩ := Array.getElem?_eq_some_iff.mp e
  rw [← h2, Array.mem_toList_iff]; exact Array.getElem_mem _)
 refine wpS_bind (yk ?_)
 obtain ⟨key, ek, hkL⟩ := hB.at (i := sa + na) (by omega)
 refine wpS_bind (ay ek ?_)
 have rkey : R rk (arrOf st) (sa + na) = rk key := cj ek
 refine wpS_bind (rZ hC hB.kind hkL mL (by show _ ≤ (arrOf st).size; omega) s1 (by omega) fun k k1 k2 k3 => ?_)
 dsimp only
 by_cases e0 : na - k = 0
 ·rw [if_pos (by simpa using e0)]
  refine wpS_pure (h _ ⟨hB.perm, hB.kind, hB.failed⟩ (fun _ _ => rfl) rfl fun a b z1 z2 z3 => ?_)
  by_cases hb : b < sa + na
  ·exact s1 a b z1 z2 hb
  ·by_cases ha : sa + na ≤ a
   ·exact s2 a b ha z2 z3
   ·refine Int.le_trans (k2 a z1 (by omega)) ?_
    rw [← rkey]; exact s2 (sa + na) b (Nat.le_refl _) (by omega) z3
 rw [if_neg (by simpa using e0)]
 obtain ⟨key2, ek2, hk2L⟩ := hB.at (i := sa + k + (na - k) - 1) (by omega)
 have rkey2 : R rk (arrOf st) (sa + na - 1) = rk key2 := by rw [← cj (rk := rk) ek2]; congr 1; omega
 refine wpS_bind (ay ek2 ?_)
 refine wpS_bind (r6 hC (by exact hB.kind) hk2L mL (by show _ ≤ (arrOf st).size; omega) s2 (by omega) fun m m1 m2 m3 => ?_)
 dsimp only
 by_cases e1 : m = 0
 ·exfalso
  have a1 := m3 (sa + na) (by omega) (by omega)
  have a2 := k3 (sa + na - 1) (by omega) (by omega)
  rw [rkey2] at a2; rw [rkey] at a1; omega
 rw [if_neg (by simpa using e1)]
 have mx : ∀ (i : Nat) (p : Keyed), ((arrOf st).extract (sa + k) (sa + na))[i]? = some p → p ∈ L := fun i p e => mL _ p (cE e).1
 have my : ∀ (i : Nat) (p : Keyed), ((arrOf st).extract (sa + na) (sa + na + m))[i]? = some p → p ∈ L := fun i p e => mL _ p (cE e).1
 have ux : Up rk ((arrOf st).extract (sa + k) (sa + na)) := qH s1 (by omega) (Nat.le_refl _)
 have uy : Up rk ((arrOf st).extract (sa + na) (sa + na + m)) := qH s2 (Nat.le_refl _) (by omega)
 have zx : ((arrOf st).extract (sa + k) (sa + na)).size = na - k := by rw [Array.size_extract]; omega
 have zy : ((arrOf st).extract (sa + na) (sa + na + m)).size = m := by rw [Array.size_extract]; omega
 have h0 : ∀ p q, ((arrOf st).extract (sa + k) (sa + na))[0]? = some p → ((arrOf st).extract (sa + na) (sa + na + m))[0]? = some q → rk q ≤ rk p := fun p q e2 e3 => by
  obtain ⟨f1, g1⟩ := cE e2
  obtain ⟨f2, g2⟩ := cE e3
  have a1 := k3 (sa + k + 0) (by omega) (by omega)
  rw [cj f1] at a1
  have a2 : rk q = rk key := by rw [← rkey, ← cj (rk := rk) f2]; rfl
  omega
 have hl : ∀ (j : Nat) (p q : Keyed), ((arrOf st).extract (sa + k) (sa + na))[((arrOf st).extract (sa + k) (sa + na)).size - 1]? = some p → ((arrOf st).extract (sa + na) (sa + na + m))[j]? = some q → rk q ≤ rk p := fun j p q e2 e3 => by
  rw [zx] at e2
  obtain ⟨f1, g1⟩ := cE e2
  obtain ⟨f2, g2⟩ := cE e3
  have a1 := m2 (sa + na + j) (by omega) (by omega)
  rw [cj f2] at a1
  have a2 : rk p = rk key2 := by rw [← rkey2, ← cj (rk := rk) f1]; congr 1; omega
  omega
 have fin : ∀ (r : Array Keyed) (st2 : SortSt), Res rk ((arrOf st).extract (sa + k) (sa + na)) ((arrOf st).extract (sa + na) (sa + na + m)) r → kindOf st2 = kindOf st → arrOf st2 = arrOf st → pendingOf st2 = ((pendingOf st).setIfInBounds i (sa, na + nb, pw)).eraseIdxIfInBounds (i + 1) → failedOf st2 = failedOf st →
  Q true (setArr st2 (List.foldl (fun a (x : Keyed × Nat) => a.setIfInBounds (sa + k + x.2) x.1) (arrOf st2) r.toList.zipIdx)) := fun r st2 hr e2 e3 e4 e5 => by
  have hlen : r.toList.length = na - k + m := by
   have := hr.1.length_eq
   simp only [List.length_append, Array.length_toList, zx, zy] at this ⊢
   exact this
  obtain ⟨w1, w2⟩ := j7 r.toList 0 (sa + k) (arrOf st) (by omega)
  generalize hW : List.foldl (fun a (x : Keyed × Nat) => a.setIfInBounds (sa + k + x.2) x.1) (arrOf st) r.toList.zipIdx = W at w1 w2
  rw [e3, hW]
  have rW : ∀ i, sa + k ≤ i → i < sa + na + m → R rk W i = R rk r (i - (sa + k)) := fun i z1 z2 => by
   refine br ?_
   rw [w2, if_pos (by omega), Array.getElem?_toList]; rfl
  have rO : ∀ i, (i < sa + k ∨ sa + na + m ≤ i) → R rk W i = R rk (arrOf st) i := fun i z => by
   refine br ?_
   rw [w2, if_neg (by omega)]
  have elt : ∀ i, sa + k ≤ i → i < sa + na + m → ∃ t, sa + k ≤ t ∧ t < sa + na + m ∧ R rk W i = R rk (arrOf st) t := fun i z1 z2 => by
   have hi : i - (sa + k) < r.size := by rw [← Array.length_toList]; omega
   have e6 : r[i - (sa + k)]? = some r[i - (sa + k)] := Array.getElem?_eq_getElem hi
   have hm : r[i - (sa + k)] ∈ r.toList := by rw [Array.mem_toList_iff]; exact Array.getElem_mem _
   rw [rW i z1 z2, cj e6]
   rcases List.mem_append.mp (hr.1.mem_iff.mp hm) with z | z
   ·obtain ⟨t, t1, t2, t3⟩ := qE z
    exact ⟨t, t1, by omega, (cj t3).symm⟩
   ·obtain ⟨t, t1, t2, t3⟩ := qE z
    exact ⟨t, by omega, by omega, (cj t3).symm⟩
  have ur := A3 hr.2
  refine h _ ⟨?_, e2.trans hB.kind, e5.trans hB.failed⟩ (fun j hj => ?_) e4 fun a b z1 z2 z3 => ?_
  ·
   refine List.Perm.trans ?_ hB.perm
   have eW : W.toList = (arrOf st).toList.take (sa + k) ++ r.toList ++ (arrOf st).toList.drop (sa + na + m) := by
    apply List.ext_getElem?
    intro j
    rw [Array.getElem?_toList, w2, List.append_assoc, List.getElem?_append, List.getElem?_append, List.length_take, List.getElem?_drop, Nat.min_eq_left (by rw [Array.length_toList]; omega)]
    by_cases c1 : j < sa + k
    ·rw [if_neg (by omega), if_pos c1, List.getElem?_take_of_lt c1, Array.getElem?_toList]
    ·rw [if_neg c1]
     by_cases c2 : j - (sa + k) < r.toList.length
     ·rw [if_pos (by omega), if_pos c2]; rfl
     ·rw [if_neg (by omega), if_neg c2, Array.getElem?_toList]; congr 1; omega
   have eA : (arrOf st).toList = (arrOf st).toList.take (sa + k) ++ (((arrOf st).extract (sa + k) (sa + na)).toList ++ ((arrOf st).extract (sa + na) (sa + na + m)).toList) ++ (arrOf st).toList.drop (sa + na + m) := by
    apply List.ext_getElem?
    intro j
    rw [List.append_assoc, List.append_assoc, List.getElem?_append, List.getElem?_append, List.getElem?_append, List.length_take, Array.length_toList, Array.length_toList, Array.length_toList, zx, zy, List.getElem?_drop, Nat.min_eq_left (by omega)]
    by_cases c1 : j < sa + k
    ·rw [if_pos c1, List.getElem?_take_of_lt c1]
    ·rw [if_neg c1]
     by_cases c2 : j - (sa + k) < na - k
     ·rw [if_pos c2, Array.getElem?_toList, Array.getElem?_toList, Array.getElem?_extract, if_pos (by omega)]; congr 1; omega
     ·rw [if_neg c2]
      by_cases c3 : j - (sa + k) - (na - k) < m
      ·rw [if_pos c3, Array.getElem?_toList, Array.getElem?_toList, Array.getElem?_extract, if_pos (by omega)]; congr 1; omega
      ·rw [if_neg c3]; congr 1; omega
   show W.toList.Perm _
   rw [eW]
   conv => rhs; rw [eA]
   exact (List.Perm.append_left _ hr.1).append_right _
  ·show W[j]? = _
   rw [w2, if_neg (by omega)]
  ·show R rk W a ≤ R rk W b
   have kk : ∀ t, sa + na ≤ t → t < sa + na + nb → rk key ≤ R rk (arrOf st) t := fun t t1 t2 => by rw [← rkey]; exact s2 _ t (Nat.le_refl _) t1 t2
   have kk2 : ∀ t, sa ≤ t → t < sa + na → R rk (arrOf st) t ≤ rk key2 := fun t t1 t2 => by rw [← rkey2]; exact s1 t _ t1 (by omega) (by omega)
   by_cases c1 : a < sa + k
   ·rw [rO a (.inl c1)]
    have la := k2 a z1 c1
    by_cases d1 : b < sa + k
    ·rw [rO b (.inl d1)]; exact s1 a b z1 z2 (by omega)
    ·by_cases d2 : b < sa + na + m
     ·obtain ⟨t, t1, t2, t3⟩ := elt b (by omega) d2
      rw [t3]
      by_cases d3 : t < sa + na
      ·exact s1 a t z1 (by omega) d3
      ·exact Int.le_trans la (kk t (by omega) (by omega))
     ·rw [rO b (.inr (by omega))]
      exact Int.le_trans la (kk b (by omega) z3)
   ·by_cases c2 : a < sa + na + m
    ·by_cases d2 : b < sa + na + m
     ·rw [rW a (by omega) c2, rW b (by omega) d2]
      have f1 : r[a - (sa + k)]? = some (r[a - (sa + k)]'(by rw [← Array.length_toList]; omega)) := Array.getElem?_eq_getElem _
      have f2 : r[b - (sa + k)]? = some (r[b - (sa + k)]'(by rw [← Array.length_toList]; omega)) := Array.getElem?_eq_getElem _
      rw [cj f1, cj f2]
      exact ur _ _ _ _ (by omega) f1 f2
     ·obtain ⟨t, t1, t2, t3⟩ := elt a (by omega) c2
      rw [t3, rO b (.inr (by omega))]
      by_cases d3 : t < sa + na
      ·exact Int.le_trans (kk2 t (by omega) d3) (m3 b (by omega) z3)
      ·exact s2 t b (by omega) (by omega) z3
    ·rw [rO a (.inr (by omega)), rO b (.inr (by omega))]
     exact s2 a b (by omega) z2 z3
 have post : ∀ (r : Array Keyed) (st2 : SortSt), failedOf st2 = failedOf st → (failedOf st2).isNone = true := fun r st2 e => by rw [e, hB.failed]; rfl
 by_cases hle : na - k ≤ m
 ·rw [if_pos hle]
  refine wpS_bind (mR hC (by exact hB.kind) mx my ux uy (by show 1 ≤ ((arrOf st).extract (sa + k) (sa + na)).size; omega) (by show 1 ≤ ((arrOf st).extract (sa + na) (sa + na + m)).size; omega) h0 hl fun r st2 hr hK => ?_)
  refine wpS_bind (wpS_modify (wpS_bind (wpS_get ?_)))
  have e9 : failedOf st2 = none := hK.f.trans hB.failed
  have z := fin r st2 hr hK.k hK.a hK.p hK.f
  refine wpS_pure ?_
  show Q (failedOf st2).isNone _
  rw [e9]; exact z
 ·rw [if_neg hle]
  refine wpS_bind (mV hC (by exact hB.kind) mx my ux uy (by show 1 ≤ ((arrOf st).extract (sa + k) (sa + na)).size; omega) (by show 1 ≤ ((arrOf st).extract (sa + na) (sa + na + m)).size; omega) h0 hl fun r st2 hr hK => ?_)
  refine wpS_bind (wpS_modify (wpS_bind (wpS_get ?_)))
  have e9 : failedOf st2 = none := hK.f.trans hB.failed
  have z := fin r st2 hr hK.k hK.a hK.p hK.f
  refine wpS_pure ?_
  show Q (failedOf st2).isNone _
  rw [e9]; exact z
end
end SR
set_option Elab.async false
set_option linter.all false
set_option maxRecDepth 100000
namespace SR
open PySem PyProof.Rows
abbrev minR : Nat → Nat → Nat → Nat := sortPriv% PySem.Builtin.minRun
def mX : StateT SortSt Sem Unit := sortPriv% PySem.Builtin.sortRuns
local macro_rules | `(tactic| walk_at "dl sortRuns") => do
 let i := Lean.mkIdent (Lean.mkPrivateNameCore `PySem.Builtin.List.W1All `PySem.Builtin.sortRuns)
 `(tactic| delta $i)
def Chn (rk : Keyed → Int) (xs : Array Keyed) : Nat → List (Nat × Nat × Nat) → Nat → Prop
 | a, [], b => a = b
 | a, p :: r, b => p.1 = a ∧ 1 ≤ p.2.1 ∧ Seg rk xs a (a + p.2.1) ∧ Chn rk xs (a + p.2.1) r b
section
variable {rk : Keyed → Int} {xs ys : Array Keyed}
theorem Chn.le : ∀ {ps : List (Nat × Nat × Nat)} {a b : Nat}, Chn rk xs a ps b → a + ps.length ≤ b
 | [], a, b, h => by have : a = b := h; simp; omega
 | p :: r, a, b, h => by
  obtain ⟨_, h1, _, h2⟩ := h
  have := h2.le
  rw [List.length_cons]; omega
theorem Chn.app : ∀ {ps qs : List (Nat × Nat × Nat)} {a b : Nat}, Chn rk xs a (ps ++ qs) b ↔ ∃ m, Chn rk xs a ps m ∧ Chn rk xs m qs b
 | [], qs, a, b => ⟨fun h => ⟨a, rfl, h⟩, fun ⟨m, h1, h2⟩ => by have : a = m := h1; subst this; exact h2⟩
 | p :: r, qs, a, b => by
  constructor
  ·rintro ⟨h1, h2, h3, h4⟩
   obtain ⟨m, h5, h6⟩ := Chn.app.mp h4
   exact ⟨m, ⟨h1, h2, h3, h5⟩, h6⟩
  ·rintro ⟨m, ⟨h1, h2, h3, h5⟩, h6⟩
   exact ⟨h1, h2, h3, Chn.app.mpr ⟨m, h5, h6⟩⟩
theorem Chn.congr : ∀ {ps : List (Nat × Nat × Nat)} {a b : Nat}, Chn rk xs a ps b → (∀ i, a ≤ i → i < b → R rk ys i = R rk xs i) → Chn rk ys a ps b
 | [], a, b, h, _ => h
 | p :: r, a, b, h, e => by
  obtain ⟨h1, h2, h3, h4⟩ := h
  have hl := h4.le
  refine ⟨h1, h2, fun i j z1 z2 z3 => ?_, h4.congr fun i z1 z2 => e i (by omega) z2⟩
  rw [e i z1 (by omega), e j (by omega) (by omega)]
  exact h3 i j z1 z2 z3
theorem Chn.mod (f : Nat × Nat × Nat → Nat × Nat × Nat) (hf : ∀ p, (f p).1 = p.1 ∧ (f p).2.1 = p.2.1) : ∀ {ps : List (Nat × Nat × Nat)} {a b : Nat} (i : Nat), Chn rk xs a ps b → Chn rk xs a (ps.modify i f) b
 | [], a, b, i, h => by simpa using h
 | p :: r, a, b, 0, h => by
  obtain ⟨h1, h2, h3, h4⟩ := h
  rw [List.modify_zero_cons]
  refine ⟨(hf p).1.trans h1, by rw [(hf p).2]; exact h2, by rw [(hf p).2]; exact h3, by rw [(hf p).2]; exact h4⟩
 | p :: r, a, b, i + 1, h => by
  obtain ⟨h1, h2, h3, h4⟩ := h
  rw [List.modify_succ_cons]
  exact ⟨h1, h2, h3, h4.mod f hf i⟩
theorem Chn.two : ∀ {ps : List (Nat × Nat × Nat)} {a b : Nat} (i : Nat), Chn rk xs a ps b → i + 1 < ps.length → ∃ s n pw m pw2, ps[i]? = some (s, n, pw) ∧ ps[i + 1]? = some (s + n, m, pw2) ∧ 1 ≤ n ∧ 1 ≤ m ∧ a ≤ s ∧ s + n + m ≤ b ∧ Seg rk xs s (s + n) ∧ Seg rk xs (s + n) (s + n + m) ∧
 ∀ ys : Array Keyed, (∀ j, j < s ∨ s + n + m ≤ j → R rk ys j = R rk xs j) → Seg rk ys s (s + n + m) → Chn rk ys a ((ps.set i (s, n + m, pw)).eraseIdx (i + 1)) b
 | [], a, b, i, h, hi => by simp at hi
 | [p], a, b, i, h, hi => by simp at hi
 | p :: q :: r, a, b, 0, h, hi => by
  obtain ⟨h1, h2, h3, h4, h5, h6, h7⟩ := h
  obtain ⟨s, n, pw⟩ := p
  obtain ⟨s', m, pw2⟩ := q
  dsimp only at h1 h2 h3 h4 h5 h6 h7
  subst h1; subst h4
  have hl := h7.le
  refine ⟨s, n, pw, m, pw2, rfl, rfl, h2, h5, Nat.le_refl _, by omega, h3, h6, fun ys e hs => ?_⟩
  refine ⟨rfl, by dsimp only; omega, by dsimp only; rw [← Nat.add_assoc]; exact hs, ?_⟩
  dsimp only
  rw [← Nat.add_assoc]
  exact h7.congr fun i z1 z2 => e i (.inr z1)
 | p :: q :: r, a, b, i + 1, h, hi => by
  obtain ⟨h1, h2, h3, h4⟩ := h
  obtain ⟨s, n, pw, m, pw2, e1, e2, a1, a2, a3, a4, a5, a6, a7⟩ := h4.two i (by simpa using hi)
  refine ⟨s, n, pw, m, pw2, by simpa using e1, by simpa using e2, a1, a2, by omega, a4, a5, a6, fun ys e hs => ?_⟩
  rw [List.set_cons_succ, List.eraseIdx_cons_succ]
  refine ⟨h1, h2, fun j j' z1 z2 z3 => ?_, a7 ys e hs⟩
  rw [e j (.inl (by omega)), e j' (.inl (by omega))]
  exact h3 j j' z1 z2 z3
end
section
variable {prog : Program} {w : World} {A : Around} {E : Value → Shared → Prop} {s : Shared} {L : List Keyed} {κ : SortKind} {rk : Keyed → Int} {st : SortSt}
theorem eO {i b : Nat} {Q : Bool → SortSt → Prop} (hC : Cmp prog w A s κ rk L) (hB : Bs κ L st) (hc : Chn rk (arrOf st) 0 (pendingOf st).toList b) (hb : b ≤ L.length) (hi : i + 1 < (pendingOf st).size)
 (h : ∀ st', Bs κ L st' → Chn rk (arrOf st') 0 (pendingOf st').toList b → (∀ j, b ≤ j → (arrOf st')[j]? = (arrOf st)[j]?) → (pendingOf st').size + 1 = (pendingOf st).size → Q true st') : wpS (model prog w) A E s (eG i) Q st := by
 obtain ⟨sa, n, pw, m, pw2, e1, e2, a1, a2, a3, a4, a5, a6, a7⟩ := hc.two i (by rw [Array.length_toList]; exact hi)
 rw [Array.getElem?_toList] at e1 e2
 refine mW hC hB e1 e2 a1 a2 (by omega) a5 a6 fun st' b1 b2 b3 b4 => h st' b1 ?_ (fun j hj => b2 j (.inr (by omega))) ?_
 ·rw [b3, Array.toList_eraseIdxIfInBounds, Array.toList_setIfInBounds]
  exact a7 _ (fun j hj => br (b2 j hj)) b4
 ·rw [b3, ← Array.length_toList, Array.toList_eraseIdxIfInBounds, Array.toList_setIfInBounds, List.length_eraseIdx, List.length_set, Array.length_toList, if_pos hi]; omega
theorem wpS_sortRuns {Q : Unit → SortSt → Prop} (hC : Cmp prog w A s κ rk L) (hB : Bs κ L st) (hp : pendingOf st = #[]) (h : ∀ st', Bs κ L st' → Seg rk (arrOf st') 0 L.length → Q () st') : wpS (model prog w) A E s mX Q st := by
 unfold mX
 walk_at "dl sortRuns"
 dsimp only
 refine wpS_bind (wpS_get ?_)
 have hsz := hB.size
 rw [hsz]
 obtain ⟨mr, hmr⟩ : ∃ mr, minR L.length L.length 0 = mr := ⟨_, rfl⟩
 delta minR at hmr
 rw [hmr]
 refine wpS_bind (wpS_mono (wpS_forRange (I := fun x c st' => c.1 = none ∧ Bs κ L st' ∧ Chn rk (arrOf st') 0 (pendingOf st').toList c.2 ∧ c.2 ≤ L.length ∧ (x ≤ c.2 ∨ L.length ≤ c.2)) (Q := fun c st' => c.1 = none ∧ Bs κ L st' ∧ Chn rk (arrOf st') 0 (pendingOf st').toList L.length) ?step ?fin ?init) ?post)
 case init => exact ⟨rfl, hB, by rw [hp]; rfl, Nat.zero_le _, .inl (Nat.le_refl _)⟩
 case fin =>
  rintro ⟨c, lo⟩ st' ⟨rfl, hB', hC', h1, h2⟩
  dsimp only at hC' h1 h2 ⊢
  have e : lo = L.length := by
   rcases h2 with z | z
   ·omega
   ·omega
  subst e
  exact ⟨rfl, hB', hC'⟩
 case step =>
  rintro x ⟨c, lo⟩ st' _ hx ⟨rfl, hB', hC', h1, h2⟩
  dsimp only at hC' h1 h2 ⊢
  by_cases hge : lo ≥ L.length
  ·rw [if_pos hge]
   have e : lo = L.length := by omega
   subst e
   exact wpS_pure ⟨rfl, hB', hC'⟩
  rw [if_neg hge]
  refine wpS_bind (show wpS _ _ _ _ (countRun' lo (L.length - lo)) _ _ from wpS_countRun hC hB' (by omega) (by omega) fun m st1 hB1 hM1 m1 m2 ms => ?_)
  have hC1 : Chn rk (arrOf st1) 0 (pendingOf st1).toList lo := by
   rw [hM1.pend]; exact hC'.congr fun i _ z => br (hM1.out i (.inl z))
  dsimp only
  by_cases hmin : m < mr
  ·rw [if_pos (show m < _ from hmin)]
   refine wpS_bind (wpS_lift (wpAny_rule ⟨rfl, ?_⟩))
   have hf1 : m ≤ min (L.length - lo) mr := by omega
   have hf2 : lo + min (L.length - lo) mr ≤ L.length := by omega
   refine wpS_bind (show wpS _ _ _ _ (binarySort' lo (min (L.length - lo) mr) m) _ _ from wpS_binarySort hC hB1 hf2 hf1 ms fun st2 hB2 hM2 hS2 => ?_)
   have hC2 : Chn rk (arrOf st2) 0 (pendingOf st2).toList lo := by
    rw [hM2.pend]; exact hC1.congr fun i _ z => br (hM2.out i (.inl z))
   simp only [Bool.not_true, Bool.false_eq_true, if_false]
   generalize hF : min (L.length - lo) mr = F at hf1 hf2 hS2
   have hF' := hF
   clear hM2 hM1
   refine wpS_bind (wpS_get ?_)
   rcases hbk : (pendingOf st2).back? with _ | ⟨q1, q2, q3⟩
   ·dsimp only
    refine wpS_bind (wpS_modify (wpS_pure ⟨rfl, ⟨hB2.perm, hB2.kind, hB2.failed⟩, ?_, by dsimp only; omega, by dsimp only; omega⟩))
    show Chn rk (arrOf st2) 0 ((pendingOf st2).push (lo, F, 0)).toList (lo + (F))
    rw [Array.toList_push]
    exact Chn.app.mpr ⟨lo, hC2, rfl, by dsimp only; omega, hS2, rfl⟩
   ·dsimp only
    refine wpS_bind (wpS_mono (wpS_forRange (I := fun y c st' => c.1 = none ∧ Bs κ L st' ∧ Chn rk (arrOf st') 0 (pendingOf st').toList lo ∧ Seg rk (arrOf st') lo (lo + (F))) (Q := fun c st' => c.1 = none ∧ Bs κ L st' ∧ Chn rk (arrOf st') 0 (pendingOf st').toList lo ∧ Seg rk (arrOf st') lo (lo + (F))) ?_ (fun _ _ z => z) ⟨rfl, hB2, hC2, hS2⟩) ?_)
    ·rintro y ⟨c, u⟩ st3 _ hy ⟨rfl, hB3, hC3, hS3⟩
     refine wpS_bind (wpS_get ?_)
     by_cases hs1 : (pendingOf st3).size > 1
     ·rw [if_pos hs1]
      obtain ⟨⟨r1, r2, r3⟩, er⟩ : ∃ t, (pendingOf st3)[(pendingOf st3).size - 2]? = some t := ⟨_, Array.getElem?_eq_getElem (show (pendingOf st3).size - 2 < (pendingOf st3).size by omega)⟩
      rw [er]
      dsimp only
      split
      ·exact wpS_pure ⟨rfl, hB3, hC3, hS3⟩
      ·refine wpS_bind (show wpS _ _ _ _ (eG ((pendingOf st3).size - 2)) _ _ from eO hC hB3 hC3 (by omega) (by omega) fun st4 hB4 hC4 ho4 hz4 => ?_)
       simp only [Bool.not_true, Bool.false_eq_true, if_false]
       exact wpS_pure ⟨rfl, hB4, hC4, fun a b z1 z2 z3 => by rw [br (ho4 a z1), br (ho4 b (by omega))]; exact hS3 a b z1 z2 z3⟩
     ·rw [if_neg hs1]
      exact wpS_pure ⟨rfl, hB3, hC3, hS3⟩
    ·rintro ⟨c, u⟩ st3 ⟨hc, hB3, hC3, hS3⟩
     dsimp only at hc ⊢
     rw [hc]
     dsimp only
     refine wpS_bind (wpS_modify (wpS_bind (wpS_modify (wpS_pure ⟨rfl, ⟨hB3.perm, hB3.kind, hB3.failed⟩, ?_, by dsimp only; omega, by dsimp only; omega⟩))))
     show Chn rk (arrOf st3) 0 (((pendingOf st3).modify ((pendingOf st3).size - 1) _).push (lo, F, 0)).toList (lo + (F))
     rw [Array.toList_push, Array.toList_modify]
     refine Chn.app.mpr ⟨lo, ?_, rfl, by dsimp only; omega, hS3, rfl⟩
     refine Chn.mod _ (fun p => ?_) _ hC3
     exact ⟨rfl, rfl⟩
  ·rw [if_neg (show ¬ m < _ from hmin)]
   refine wpS_bind (wpS_get ?_)
   rcases hbk : (pendingOf st1).back? with _ | ⟨q1, q2, q3⟩
   ·dsimp only
    refine wpS_bind (wpS_modify (wpS_pure ⟨rfl, ⟨hB1.perm, hB1.kind, hB1.failed⟩, ?_, by dsimp only; omega, by dsimp only; omega⟩))
    show Chn rk (arrOf st1) 0 ((pendingOf st1).push (lo, m, 0)).toList (lo + (m))
    rw [Array.toList_push]
    exact Chn.app.mpr ⟨lo, hC1, rfl, by dsimp only; omega, ms, rfl⟩
   ·dsimp only
    refine wpS_bind (wpS_mono (wpS_forRange (I := fun y c st' => c.1 = none ∧ Bs κ L st' ∧ Chn rk (arrOf st') 0 (pendingOf st').toList lo ∧ Seg rk (arrOf st') lo (lo + (m))) (Q := fun c st' => c.1 = none ∧ Bs κ L st' ∧ Chn rk (arrOf st') 0 (pendingOf st').toList lo ∧ Seg rk (arrOf st') lo (lo + (m))) ?_ (fun _ _ z => z) ⟨rfl, hB1, hC1, ms⟩) ?_)
    ·rintro y ⟨c, u⟩ st3 _ hy ⟨rfl, hB3, hC3, hS3⟩
     refine wpS_bind (wpS_get ?_)
     by_cases hs1 : (pendingOf st3).size > 1
     ·rw [if_pos hs1]
      obtain ⟨⟨r1, r2, r3⟩, er⟩ : ∃ t, (pendingOf st3)[(pendingOf st3).size - 2]? = some t := ⟨_, Array.getElem?_eq_getElem (show (pendingOf st3).size - 2 < (pendingOf st3).size by omega)⟩
      rw [er]
      dsimp only
      split
      ·exact wpS_pure ⟨rfl, hB3, hC3, hS3⟩
      ·refine wpS_bind (show wpS _ _ _ _ (eG ((pendingOf st3).size - 2)) _ _ from eO hC hB3 hC3 (by omega) (by omega) fun st4 hB4 hC4 ho4 hz4 => ?_)
       simp only [Bool.not_true, Bool.false_eq_true, if_false]
       exact wpS_pure ⟨rfl, hB4, hC4, fun a b z1 z2 z3 => by rw [br (ho4 a z1), br (ho4 b (by omega))]; exact hS3 a b z1 z2 z3⟩
     ·rw [if_neg hs1]
      exact wpS_pure ⟨rfl, hB3, hC3, hS3⟩
    ·rintro ⟨c, u⟩ st3 ⟨hc, hB3, hC3, hS3⟩
     dsimp only at hc ⊢
     rw [hc]
     dsimp only
     refine wpS_bind (wpS_modify (wpS_bind (wpS_modify (wpS_pure ⟨rfl, ⟨hB3.perm, hB3.kind, hB3.failed⟩, ?_, by dsimp only; omega, by dsimp only; omega⟩))))
     show Chn rk (arrOf st3) 0 (((pendingOf st3).modify ((pendingOf st3).size - 1) _).push (lo, m, 0)).toList (lo + (m))
     rw [Array.toList_push, Array.toList_modify]
     refine Chn.app.mpr ⟨lo, ?_, rfl, by dsimp only; omega, hS3, rfl⟩
     refine Chn.mod _ (fun p => ?_) _ hC3
     exact ⟨rfl, rfl⟩
 case post =>
  rintro ⟨c, lo⟩ st' ⟨hc, hB', hC'⟩
  dsimp only at hc ⊢
  rw [hc]
  dsimp only
  have hl0 := hC'.le
  rw [Array.length_toList] at hl0
  refine wpS_bind (wpS_mono (wpS_forRange (I := fun x c st2 => c.1 = none ∧ Bs κ L st2 ∧ Chn rk (arrOf st2) 0 (pendingOf st2).toList L.length ∧ ((pendingOf st2).size ≤ 1 ∨ (pendingOf st2).size + x ≤ L.length)) (Q := fun c st2 => c.1 = none ∧ Bs κ L st2 ∧ Chn rk (arrOf st2) 0 (pendingOf st2).toList L.length ∧ (pendingOf st2).size ≤ 1) ?mstep ?mfin ⟨rfl, hB', hC', .inr (by omega)⟩) ?mpost)
  case mfin =>
   rintro c2 st2 ⟨a1, a2, a3, a4⟩
   exact ⟨a1, a2, a3, by omega⟩
  case mpost =>
   rintro ⟨c2, u⟩ st2 ⟨a1, a2, a3, a4⟩
   dsimp only at a1 ⊢
   rw [a1]
   refine wpS_pure (h st2 a2 ?_)
   rw [← Array.length_toList] at a4
   match e : (pendingOf st2).toList, a4 with
   | [], _ =>
    rw [e] at a3
    have z : 0 = L.length := a3
    intro i j _ _ hj; omega
   | [p], _ =>
    rw [e] at a3
    obtain ⟨b1, b2, b3, b4⟩ := a3
    have z : 0 + p.2.1 = L.length := b4
    rw [← z]; exact b3
  case mstep =>
   rintro x ⟨c2, u⟩ st2 _ hx ⟨a1, a2, a3, a4⟩
   refine wpS_bind (wpS_get ?_)
   by_cases hs1 : (pendingOf st2).size ≤ 1
   ·rw [if_pos hs1]
    exact wpS_pure ⟨rfl, a2, a3, hs1⟩
   ·rw [if_neg hs1]
    have key : ∀ i, i + 1 < (pendingOf st2).size → wpS (model prog w) A E s (eG i) (fun r st3 => r = true ∧ Bs κ L st3 ∧ Chn rk (arrOf st3) 0 (pendingOf st3).toList L.length ∧ (pendingOf st3).size + 1 = (pendingOf st2).size) st2 := fun i hi =>
     eO hC a2 a3 (Nat.le_refl _) hi fun st3 b1 b2 _ b3 => ⟨rfl, b1, b2, b3⟩
    refine wpS_bind (wpS_mono (show wpS _ _ _ _ (eG _) _ _ from key _ ?_) fun r st3 hr => ?_)
    ·unfold pendingOf at hs1 ⊢
     repeat' split
     all_goals omega
    ·obtain ⟨rfl, b1, b2, b3⟩ := hr
     simp only [Bool.not_true, Bool.false_eq_true, if_false]
     exact wpS_pure ⟨rfl, b1, b2, .inr (by omega)⟩
end
end SR
set_option autoImplicit false
set_option linter.all false
set_option maxRecDepth 100000
namespace SR
open PySem PyProof.Rows
section
variable {prog : Program} {w : World} {A : Around} {E : Value → Shared → Prop} {s : Shared} {rk : Keyed → Int} {κ : SortKind}
def dup (vs : List Value) : List Keyed := vs.map fun v => (v, v)
theorem qI (vs : List Value) : (vs.toArray.zip vs.toArray).toList = dup vs := by
 unfold dup
 rw [Array.toList_zip]
 induction vs with
 | nil => rfl
 | cons v vs ih => simpa using ih
def Ord (rk : Keyed → Int) (b : Bool) (out : List Value) : Prop := out.Pairwise fun x y => if b then rk (y, y) ≤ rk (x, x) else rk (x, x) ≤ rk (y, y)
theorem mY {vs : List Value} {xs : Array Keyed} (h : xs.toList.Perm (dup vs)) : (xs.toList.map (·.2)).Perm vs ∧ ∀ p ∈ xs.toList, p = (p.2, p.2) := by
 refine ⟨?_, fun p hp => ?_⟩
 ·have q := h.map (·.2)
  have e : (dup vs).map (·.2) = vs := by
   unfold dup
   rw [List.map_map]
   exact List.map_id' vs
  rwa [e] at q
 ·have := h.mem_iff.mp hp
  simp only [dup, List.mem_map] at this
  obtain ⟨v, _, rfl⟩ := this
  rfl
theorem yl {vs : List Value} {st : SortSt} (hp : (arrOf st).toList.Perm (dup vs)) (hs : Seg rk (arrOf st) 0 (dup vs).length) (b : Bool) :
 ((if b = true then ((arrOf st).map (·.2)).reverse else (arrOf st).map (·.2)).toList).Perm vs ∧ Ord rk b (if b = true then ((arrOf st).map (·.2)).reverse else (arrOf st).map (·.2)).toList := by
 obtain ⟨h1, h2⟩ := mY hp
 have up : ((arrOf st).toList.map (·.2)).Pairwise fun x y => rk (x, x) ≤ rk (y, y) := by
  rw [List.pairwise_map]
  refine List.pairwise_iff_getElem.mpr fun i j hi hj hij => ?_
  have l := hp.length_eq
  simp only [Array.length_toList] at hi hj l
  have z := hs i j (Nat.zero_le _) (Nat.le_of_lt hij) (by omega)
  have ei : (arrOf st)[i]? = some ((arrOf st).toList[i]'(by simpa using hi)) := by simp [hi]
  have ej : (arrOf st)[j]? = some ((arrOf st).toList[j]'(by simpa using hj)) := by simp [hj]
  rw [cj ei, cj ej] at z
  have e1 := h2 _ (List.getElem_mem (show i < (arrOf st).toList.length by simpa using hi))
  have e2 := h2 _ (List.getElem_mem (show j < (arrOf st).toList.length by simpa using hj))
  rw [e1, e2] at z
  exact z
 cases b with
 | false => simp only [Bool.false_eq_true, if_false, Array.toList_map]; exact ⟨h1, up.imp fun h => by simpa using h⟩
 | true =>
  simp only [if_true, Array.toList_reverse, Array.toList_map]
  refine ⟨(List.reverse_perm _).trans h1, ?_⟩
  unfold Ord
  rw [List.pairwise_reverse]
  exact up.imp fun h => by simpa using h
def Keys (prog : Program) (w : World) (A : Around) (s : Shared) (a : Addr) (vs : List Value) (κ : SortKind) (rk : Keyed → Int) : Prop :=
 ∀ h' : Heap, (∀ c o, c ≠ a → s.heap.get? c = some o → h'.get? c = some o) →
  (∀ (Q : SortKind → Shared → Prop) (E : Value → Shared → Prop), 2 ≤ vs.length → Q κ { s with heap := h' } → wpAny (model prog w) A (keyKind' vs.toArray) Q E { s with heap := h' }) ∧ Cmp prog w A { s with heap := h' } κ rk (dup vs)
theorem r8 {a : Addr} {vs : List Value} {n : Nat} {b : Bool} {P : Fin → Shared → Prop} (ho : s.heap.get? a = some (seqObj "list" vs.toArray n)) (hk : Keys prog w A s a vs κ rk) (hz : vs.length ≤ sizeLine)
 (h : ∀ out : Array Value, out.toList.Perm vs → Ord rk b out.toList → P (.done (.ret .none)) { s with heap := sortedHeap s.heap a vs out }) :
 wpAny (model prog w) A (Builtin.«list.sort» ⟨[.ref a], [(Str.ofString "reverse", .bool b)]⟩) P E s := by
 rw [list_sort_rev]
 have lta : a < s.heap.objs.size := Heap.lt_size ho
 refine wpAny_bind (listItems_at ho rfl (wpAny_bind (listUpdate_at ho rfl ?_ (by simpa using hz))))
 obtain ⟨e1, ho1⟩ : ∃ e1, (s.heap.update a (Obj.mapSeq fun _ => #[])).get? a = some (seqObj "list" #[] e1) := ⟨_, get?_update_seq ho (fun _ => #[])⟩
 have oth : ∀ c o, c ≠ a → s.heap.get? c = some o → (s.heap.update a (Obj.mapSeq fun _ => #[])).get? c = some o := fun c o hc q => by rw [Heap.get?_update_ne _ _ _ _ hc]; exact q
 have sz1 : (s.heap.update a (Obj.mapSeq fun _ => #[])).objs.size = s.heap.objs.size := Heap.size_update ..
 refine wpAny_bind (seqEpoch_at ho1 rfl (wpAny_bind (wpAny_newTuple ?_ (by simpa using hz))))
 refine wpAny_bind (wpAny_newList (wpAny_holding ?_))
 show wpAny (model prog w) A _ P E { s with heap := ((s.heap.update a (Obj.mapSeq fun _ => #[])).push (seqObj "tuple" vs.toArray 0)).push (seqObj "list" #[] 0) }
 have ho6 : (((s.heap.update a (Obj.mapSeq fun _ => #[])).push (seqObj "tuple" vs.toArray 0)).push (seqObj "list" #[] 0)).get? a = some (seqObj "list" #[] e1) := Heap.get?_push_of_some _ (Heap.get?_push_of_some _ ho1)
 obtain ⟨hkk, hC⟩ := hk (((s.heap.update a (Obj.mapSeq fun _ => #[])).push (seqObj "tuple" vs.toArray 0)).push (seqObj "list" #[] 0)) fun c o hc q => Heap.get?_push_of_some _ (Heap.get?_push_of_some _ (oth c o hc q))
 have fin : ∀ st' : SortSt, (arrOf st').toList.Perm (dup vs) → Seg rk (arrOf st') 0 (dup vs).length →
  P (.done (.ret .none)) { s with heap := sortedHeap s.heap a vs (if b then ((arrOf st').map (·.2)).reverse else (arrOf st').map (·.2)) } := fun st' hp hs =>
  let ⟨q1, q2⟩ := yl hp hs b; h _ q1 q2
 have hstart : (if b = true then (vs.toArray.zip vs.toArray).reverse else vs.toArray.zip vs.toArray).toList.Perm (dup vs) := by
  cases b with
  | false => rw [if_neg Bool.false_ne_true, qI]
  | true => rw [if_pos rfl, Array.toList_reverse, qI]; exact List.reverse_perm _
 dsimp only
 have told : ∀ t : Sem Fin, wpAny (model prog w) A t P E { s with heap := ((s.heap.update a (Obj.mapSeq fun _ => #[])).push (seqObj "tuple" vs.toArray 0)).push (seqObj "list" #[] 0) } →
  wpAny (model prog w) A (if b = true then (do let _ ← rule "list.sort.reverse"; t) else t) P E { s with heap := ((s.heap.update a (Obj.mapSeq fun _ => #[])).push (seqObj "tuple" vs.toArray 0)).push (seqObj "list" #[] 0) } := fun t ht => by
  split
  ·exact wpAny_bind (wpAny_rule ht)
  ·exact ht
 refine told _ ?_
 have hlen : ∀ {xs : Array Keyed}, xs.toList.Perm (dup vs) → (if b = true then (Array.map (fun x => x.snd) xs).reverse else Array.map (fun x => x.snd) xs).size ≤ sizeLine + 1 := fun {xs} hp => by
  have l := hp.length_eq
  simp only [Array.length_toList, dup, List.length_map] at l
  split
  ·rw [Array.size_reverse, Array.size_map]; omega
  ·rw [Array.size_map]; omega
 by_cases h2 : vs.toArray.size < 2
 ·rw [if_pos h2, if_pos h2]
  refine wpAny_bind (wpAny_pure ?_)
  rw [StateT.run_pure]
  refine wpAny_bind (wpAny_pure ?_)
  dsimp only
  refine wpAny_bind (seqEpoch_at ho6 rfl (wpAny_bind (listUpdate_at ho6 rfl ?_ (hsz2 := hlen hstart))))
  simp only [bne_self_eq_false, Bool.false_eq_true, if_false]
  refine wpAny_pure (fin (SortSt.mk' general' (if b = true then (vs.toArray.zip vs.toArray).reverse else vs.toArray.zip vs.toArray) #[] 7 none) hstart ?_)
  intro i j _ hij hj
  have hl : (dup vs).length < 2 := by simpa [dup] using h2
  have : i = j := by omega
  subst this; exact Int.le_refl _
 ·rw [if_neg h2, if_neg h2]
  refine wpAny_bind (hkk _ _ (by simpa using h2) ?_)
  refine wpAny_bind (wpAny_mono (wpS_sortRuns (κ := κ) (rk := rk) (L := dup vs) (st := SortSt.mk' κ (if b = true then (vs.toArray.zip vs.toArray).reverse else vs.toArray.zip vs.toArray) #[] 7 none)
   (Q := fun _ st' => (arrOf st').toList.Perm (dup vs) ∧ failedOf st' = none ∧ Seg rk (arrOf st') 0 (dup vs).length) hC ⟨hstart, rfl, rfl⟩ rfl fun st' a1 a2 => ⟨a1.perm, a1.failed, a2⟩) ?_ fun _ _ e => e)
  rintro ⟨⟨⟩, st'⟩ s' ⟨rfl, hp, hf, hs⟩
  dsimp only
  refine wpAny_bind (seqEpoch_at ho6 rfl (wpAny_bind (listUpdate_at ho6 rfl ?_ (hsz2 := hlen hp))))
  rw [hf]
  simp only [bne_self_eq_false, Bool.false_eq_true, if_false]
  exact wpAny_pure (fin st' hp hs)
end
end SR
set_option autoImplicit false
set_option linter.all false
set_option maxRecDepth 100000
namespace SR
open PySem PyProof.Rows
section
variable {α : Type} {lt : α → α → Bool} {L : List α}
theorem filter_le {p q : α → Bool} : ∀ {l : List α}, (∀ z ∈ l, p z = true → q z = true) → (l.filter p).length ≤ (l.filter q).length
 | [], _ => Nat.le_refl _
 | x :: l, h => by
  have ih := filter_le (l := l) fun z hz => h z (List.mem_cons_of_mem _ hz)
  have hx := h x List.mem_cons_self
  cases e : p x with
  | false =>
   rw [List.filter_cons_of_neg (by simp [e])]
   by_cases e2 : q x = true
   ·rw [List.filter_cons_of_pos e2]; exact Nat.le_succ_of_le ih
   ·rw [List.filter_cons_of_neg e2]; exact ih
  | true =>
   rw [List.filter_cons_of_pos e, List.filter_cons_of_pos (hx e)]
   exact Nat.succ_le_succ ih
theorem filter_lt {p q : α → Bool} : ∀ {l : List α}, (∀ z ∈ l, p z = true → q z = true) → (∃ z ∈ l, q z = true ∧ p z = false) → (l.filter p).length < (l.filter q).length
 | [], _, h => by obtain ⟨z, h, _⟩ := h; cases h
 | x :: l, h, g => by
  have h' : ∀ z ∈ l, p z = true → q z = true := fun z hz => h z (List.mem_cons_of_mem _ hz)
  have hx := h x List.mem_cons_self
  by_cases e : p x = true
  ·rw [List.filter_cons_of_pos e, List.filter_cons_of_pos (hx e)]
   obtain ⟨z, hz, z1, z2⟩ := g
   rcases List.mem_cons.mp hz with rfl | hz
   ·rw [e] at z2; cases z2
   ·exact Nat.succ_lt_succ (filter_lt h' ⟨z, hz, z1, z2⟩)
  ·rw [List.filter_cons_of_neg e]
   by_cases e2 : q x = true
   ·rw [List.filter_cons_of_pos e2]; exact Nat.lt_succ_of_le (filter_le h')
   ·rw [List.filter_cons_of_neg e2]
    obtain ⟨z, hz, z1, z2⟩ := g
    rcases List.mem_cons.mp hz with rfl | hz
    ·exact absurd z1 e2
    ·exact filter_lt h' ⟨z, hz, z1, z2⟩
structure Lin (lt : α → α → Bool) (L : List α) : Prop where
 irr : ∀ x ∈ L, lt x x = false
 tr : ∀ x ∈ L, ∀ y ∈ L, ∀ z ∈ L, lt x y = true → lt y z = true → lt x z = true
 tot : ∀ x ∈ L, ∀ y ∈ L, x ≠ y → lt x y = true ∨ lt y x = true
def rank (lt : α → α → Bool) (L : List α) (x : α) : Int := ((L.filter fun z => lt z x).length : Int)
theorem iu (h : Lin lt L) {x y : α} (hx : x ∈ L) (hy : y ∈ L) (e : lt x y = true) : rank lt L x < rank lt L y := by
 have q := filter_lt (l := L) (p := fun z => lt z x) (q := fun z => lt z y) (fun z hz hzx => h.tr z hz x hx y hy hzx e) ⟨x, hx, e, h.irr x hx⟩
 unfold rank; omega
theorem ym (h : Lin lt L) {x y : α} (hx : x ∈ L) (hy : y ∈ L) : decide (rank lt L x < rank lt L y) = lt x y := by
 classical
 cases e : lt x y with
 | true => exact decide_eq_true (iu h hx hy e)
 | false =>
  refine decide_eq_false fun z => ?_
  by_cases w : x = y
  ·subst w; exact absurd z (Int.lt_irrefl _)
  ·rcases h.tot x hx y hy w with q | q
   ·rw [e] at q; cases q
   ·have := iu h hy hx q; omega
theorem mZ {β : Type} {S : α → β → Prop} {m n : List β} (hp : n.Perm m) : ∀ {l : List α}, Paired S l m → ∃ l', l'.Perm l ∧ Paired S l' n := by
 induction hp with
 | nil => intro l h; exact ⟨l, .refl _, h⟩
 | cons x _ ih =>
  intro l h
  cases h with
  | cons r t => obtain ⟨l', h1, h2⟩ := ih t; exact ⟨_ :: l', h1.cons _, .cons r h2⟩
 | swap x y l' =>
  intro l h
  cases h with
  | cons r t => cases t with | cons r2 t2 => exact ⟨_, .swap _ _ _, .cons r2 (.cons r t2)⟩
 | trans _ _ ih1 ih2 =>
  intro l h
  obtain ⟨l1, h1, h2⟩ := ih2 h
  obtain ⟨l2, h3, h4⟩ := ih1 h2
  exact ⟨l2, h3.trans h1, h4⟩
theorem jb {β : Type} {S : α → β → Prop} {l : List α} {m : List β} (h : Paired S l m) : ∀ u ∈ m, ∃ x ∈ l, S x u := by
 induction h with
 | nil => intro u hu; cases hu
 | cons r t ih =>
  intro u hu
  rcases List.mem_cons.mp hu with rfl | hu
  ·exact ⟨_, List.mem_cons_self, r⟩
  ·obtain ⟨x, h1, h2⟩ := ih u hu; exact ⟨x, List.mem_cons_of_mem _ h1, h2⟩
open Classical in
noncomputable def vt {β : Type} (S : α → Value → Prop) (lt : α → α → Bool) (L : List α) (p : Value × β) : Int := if h : ∃ x, x ∈ L ∧ S x p.1 then rank lt L h.choose else 0
theorem iw {β : Type} {S : α → Value → Prop} (inj : ∀ x y u, S x u → S y u → x = y) {x : α} {p : Value × β} (hx : x ∈ L) (h : S x p.1) : vt S lt L p = rank lt L x := by
 have e : ∃ x, x ∈ L ∧ S x p.1 := ⟨x, hx, h⟩
 unfold vt
 rw [dif_pos e, inj _ _ _ e.choose_spec.2 h]
theorem vv {S : α → Value → Prop} (inj : ∀ x y u, S x u → S y u → x = y) (h : Lin lt L) (nd : L.Nodup) {us out : List Value} (hL : Paired S L us) (hp : out.Perm us) {b : Bool} (ho : Ord (vt S lt L) b out) :
 ∃ L', L'.Perm L ∧ L'.Pairwise (fun x y => if b then lt y x = true else lt x y = true) ∧ Paired S L' out := by
 obtain ⟨L', h1, h2⟩ := mZ hp hL
 refine ⟨L', h1, ?_, h2⟩
 have hm : ∀ x ∈ L', x ∈ L := fun x hx => h1.mem_iff.mp hx
 have nd' : L'.Nodup := h1.nodup_iff.mpr nd
 clear h1 hp hL nd
 unfold Ord at ho
 induction h2 with
 | nil => exact .nil
 | @cons x u xs us r t ih =>
  obtain ⟨q1, q2⟩ := List.pairwise_cons.mp ho
  obtain ⟨n1, n2⟩ := List.nodup_cons.mp nd'
  refine .cons (fun y hy => ?_) (ih q2 (fun z hz => hm z (List.mem_cons_of_mem _ hz)) n2)
  have hx := hm x List.mem_cons_self
  have hyL := hm y (List.mem_cons_of_mem _ hy)
  obtain ⟨v, hv, sv⟩ : ∃ v ∈ us, S y v := by
   clear ih ho q1 q2 n1 n2 hm nd'
   induction t with
   | nil => cases hy
   | cons r t ih2 =>
    rcases List.mem_cons.mp hy with rfl | hy
    ·exact ⟨_, List.mem_cons_self, r⟩
    ·obtain ⟨v, h1, h2⟩ := ih2 hy; exact ⟨v, List.mem_cons_of_mem _ h1, h2⟩
  have q := q1 v hv
  rw [iw inj hx (p := (u, u)) r, iw inj hyL (p := (v, v)) sv] at q
  have ne : x ≠ y := fun z => n1 (z ▸ hy)
  cases b with
  | true =>
   simp only [if_true] at q ⊢
   rcases h.tot x hx y hyL ne with w | w
   ·have := iu h hx hyL w; omega
   ·exact w
  | false =>
   simp only [Bool.false_eq_true, if_false] at q ⊢
   rcases h.tot x hx y hyL ne with w | w
   ·exact w
   ·have := iu h hyL hx w; omega
end
section
variable {prog : Program} {w : World} {A : Around} {s : Shared} {κ : SortKind} {α : Type} {lt : α → α → Bool} {L : List α} {us : List Value}
theorem A4 {S : α → Value → Prop} (inj : ∀ x y u, S x u → S y u → x = y) (h : Lin lt L) (hL : Paired S L us)
 (hk : ∀ x ∈ L, ∀ y ∈ L, ∀ u v, S x u → S y v → ∀ (E : Value → Shared → Prop) (Q : Bool → Shared → Prop), Q (lt x y) s → wpAny (model prog w) A (keyLt' κ u v) Q E s) : Cmp prog w A s κ (vt S lt L) (dup us) := by
 intro p hp q hq E Q hQ
 simp only [dup, List.mem_map] at hp hq
 obtain ⟨u, hu, rfl⟩ := hp
 obtain ⟨v, hv, rfl⟩ := hq
 obtain ⟨x, hx, sx⟩ := jb hL u hu
 obtain ⟨y, hy, sy⟩ := jb hL v hv
 refine hk x hx y hy u v sx sy E Q ?_
 rw [iw inj hx (p := (u, u)) sx, iw inj hy (p := (v, v)) sy, ym h hx hy] at hQ
 exact hQ
end
end SR
set_option Elab.async false
set_option linter.all false
set_option maxRecDepth 100000
namespace EV
open PySem PySem.Spec PySem.Calls PyProof.Rows L2
theorem r9 (b : Bool) (x y : Value) : keyLt' (tuples' b) x y = (do
 let xs ← Builtin.List.listItems x
 let ys ← Builtin.List.listItems y
 for ((p, q), i) in (xs.toList.zip ys.toList).zipIdx do
  if !(← eqBool p q) then return ← oneLt' (b && i == 0) p q
 return decide (xs.size < ys.size)) := rfl
theorem qJ : ∀ l : List Int, HT.lexLt l l = false
 | [] => rfl
 | x :: l => by rw [HT.bO, if_pos rfl]; exact qJ l
theorem vz : ∀ {a b c : List Int}, HT.lexLt a b = true → HT.lexLt b c = true → HT.lexLt a c = true
 | [], [], _, h, _ => by cases h
 | [], _ :: _, [], _, h => by cases h
 | [], _ :: _, _ :: _, _, _ => rfl
 | _ :: _, [], _, h, _ => by cases h
 | _ :: _, _ :: _, [], _, h => by cases h
 | x :: a, y :: b, z :: c, h, g => by
  rw [HT.bO] at h g ⊢
  by_cases e : x = y
  ·subst e
   rw [if_pos rfl] at h
   by_cases f : x = z
   ·subst f; rw [if_pos rfl] at g ⊢; exact vz h g
   ·rw [if_neg f] at g ⊢; exact g
  ·rw [if_neg e] at h
   have h := of_decide_eq_true h
   by_cases f : y = z
   ·subst f; rw [if_neg e]; exact decide_eq_true h
   ·rw [if_neg f] at g
    have g := of_decide_eq_true g
    rw [if_neg (by omega)]; exact decide_eq_true (by omega)
theorem k6 : ∀ {a b : List Int}, a ≠ b → HT.lexLt a b = true ∨ HT.lexLt b a = true
 | [], [], h => absurd rfl h
 | [], _ :: _, _ => .inl rfl
 | _ :: _, [], _ => .inr rfl
 | x :: a, y :: b, h => by
  rw [HT.bO, HT.bO]
  by_cases e : x = y
  ·subst e
   rw [if_pos rfl, if_pos rfl]
   exact k6 fun z => h (by rw [z])
  ·rw [if_neg e, if_neg (Ne.symm e)]
   rcases Int.lt_or_gt_of_ne e with z | z
   ·exact .inl (decide_eq_true z)
   ·exact .inr (decide_eq_true z)
abbrev Trm := List Int × Int
def bM (x y : Trm) : Bool := if x.1 = y.1 then decide (x.2 < y.2) else HT.lexLt x.1 y.1
theorem iy (L : List Trm) : SR.Lin bM L where
 irr := fun x _ => by unfold bM; rw [if_pos rfl]; exact decide_eq_false (Int.lt_irrefl _)
 tr := fun x _ y _ z _ h g => by
  unfold bM at *
  by_cases e : x.1 = y.1
  ·rw [if_pos e] at h
   by_cases f : y.1 = z.1
   ·rw [if_pos f] at g; rw [if_pos (e.trans f)]
    exact decide_eq_true (Int.lt_trans (of_decide_eq_true h) (of_decide_eq_true g))
   ·rw [if_neg f] at g; rw [if_neg (fun w => f (e.symm.trans w)), e]; exact g
  ·rw [if_neg e] at h
   by_cases f : y.1 = z.1
   ·rw [if_neg (fun w => e (w.trans f.symm)), ← f]; exact h
   ·rw [if_neg f] at g
    have q := vz h g
    rw [if_neg fun w => by rw [w, qJ] at q; cases q]; exact q
 tot := fun x _ y _ h => by
  unfold bM
  by_cases e : x.1 = y.1
  ·rw [if_pos e, if_pos e.symm]
   have : x.2 ≠ y.2 := fun z => h (Prod.ext e z)
   rcases Int.lt_or_gt_of_ne this with z | z
   ·exact .inl (decide_eq_true z)
   ·exact .inr (decide_eq_true z)
  ·rw [if_neg e, if_neg (Ne.symm e)]
   exact k6 e
abbrev af (t : Trm) : D := .tup [.tup (t.1.map .int), .int t.2]
section
variable {X : Cx} {pins : List (Addr × Obj)} {σ : L2.St} {H Hf : Hp} {s : Shared} {A : Around} {E : Value → Shared → Prop}
def Stn (K : PySem.W.Frag) (Hf : Hp) (d : D) (u : Value) : Prop := ∃ v, RelV v u ∧ Rep K Hf d v
theorem nc (l m : List Int) : EqO 1 (.tup (l.map .int)) (.tup (m.map .int)) := .tup fun i d e h1 h2 => by
 simp only [List.getElem?_map, Option.map_eq_some_iff] at h1 h2
 obtain ⟨x, _, rfl⟩ := h1
 obtain ⟨y, _, rfl⟩ := h2
 exact .sc rfl
theorem yo (x y : Trm) : EqO 2 (af x) (af y) := .tup fun i d e h1 h2 => by
 rcases i with _ | _ | i
 ·simp at h1 h2; subst h1 h2; exact nc _ _
 ·simp at h1 h2; subst h1 h2; exact .sc rfl
 ·simp at h1
theorem vA {x y : Trm} (h : af x = af y) : x = y := by
 simp only [D.tup.injEq, List.cons.injEq, D.int.injEq, and_true] at h
 have e : x.1 = y.1 := by
  exact (List.map_inj_right (f := D.int) (fun a b e => by injection e)).mp h.1
 exact Prod.ext e h.2
theorem fR : ∀ {l : List Int} {ys : List V}, aj X.K Hf (l.map D.int) ys → ys = l.map V.int
 | [], ys, h => av.mp h
 | n :: l, ys, h => by
  obtain ⟨y, r, rfl, z1, z2⟩ := az.mp h
  rw [ak] at z1; subst z1
  rw [fR z2]; rfl
theorem yq (I : Inv X pins σ H s) (sb : aC Hf H) {x y : Trm} {u : Value} (h1 : Stn X.K Hf (af x) u) (h2 : Stn X.K Hf (af y) u) : x = y := by
 obtain ⟨v, r1, q1⟩ := h1
 obtain ⟨v', r2, q2⟩ := h2
 have := r1.inj r2
 subst this
 exact vA (kN I sb 2 _ _ _ (yo x y) q1 q2)
theorem k7 (I : Inv X pins σ H s) (sb : aC Hf H) {x : Trm} {u : Value} (h : Stn X.K Hf (af x) u) : ∃ a b its t, u = .ref a ∧ IsTup s.heap a #[.ref b, .int x.2 t] ∧ IsTup s.heap b its ∧ IntsAre its.toList x.1 ∧ Stn X.K Hf (.tup (x.1.map .int)) (.ref b) := by
 obtain ⟨v, rv, q⟩ := h
 obtain ⟨a, xs, rfl, h1, h2⟩ := aA.mp q
 cases rv
 obtain ⟨p, r, rfl, q1, q2⟩ := az.mp h2
 obtain ⟨p2, r2, rfl, q3, q4⟩ := az.mp q2
 rw [av] at q4; subst q4
 rw [ak] at q3; subst q3
 obtain ⟨its, rel, tu, _⟩ := I.tuple (aq sb h1)
 cases rel with
 | cons r1 t1 => cases t1 with
  | cons r2 t2 =>
   cases t2
   obtain ⟨t, rfl⟩ := r2
   obtain ⟨b, ys, rfl, h3, h4⟩ := aA.mp q1
   cases r1
   obtain ⟨its2, rel2, tu2, _⟩ := I.tuple (aq sb h3)
   refine ⟨a, b, its2.toArray, t, rfl, tu, tu2, ?_, .ref b, rfl, aA.mpr ⟨b, ys, rfl, h3, h4⟩⟩
   have e := fR h4
   subst e
   exact intsAre_of rel2
theorem eS {M : Model} {α β : Type} {f : α → Sem β} : ∀ (l : List α) (r : List β) {Q : List β → Shared → Prop}, Paired (fun a b => ∀ (Q : β → Shared → Prop), Q b s → wpAny M A (f a) Q E s) l r → Q r s → wpAny M A (l.mapM f) Q E s
 | _, _, Q, .nil, h => by rw [List.mapM_nil]; exact wpAny_pure h
 | _, _, Q, .cons q t, h => by
  rw [List.mapM_cons]
  exact wpAny_bind (q _ (wpAny_bind (eS _ _ t (wpAny_pure h))))
theorem vB (I : Inv X pins σ H s) (sb : aC Hf H) {L : List Trm} {us : List Value} (h : Paired (fun x u => Stn X.K Hf (af x) u) L us) (h2 : 2 ≤ us.length) {Q : SortKind → Shared → Prop} (hQ : Q (tuples' false) s) : wpAny (model X.prog X.w) A (keyKind' us.toArray) Q E s := by
 have key : ∃ fs : List Value, fs.length = us.length ∧ (∀ f ∈ fs, s.TypeIs f "tuple") ∧ Paired (fun u o => ∀ (Q : Option Value → Shared → Prop), Q o s → wpAny (model X.prog X.w) A (firstOfTuple' u) Q E s) us (fs.map some) := by
  clear h2 hQ
  induction h with
  | nil => exact ⟨[], rfl, by simp, .nil⟩
  | @cons x u L us r t ih =>
   obtain ⟨fs, e1, e2, e3⟩ := ih
   obtain ⟨a, b, its, tk, rfl, t1, t2, _⟩ := k7 I sb r
   refine ⟨.ref b :: fs, by simp [e1], fun f hf => ?_, .cons (fun Q hQ => ?_) e3⟩
   ·rcases List.mem_cons.mp hf with rfl | hf
    ·obtain ⟨o, ho, hc, _⟩ := t2; exact ⟨o, ho, hc⟩
    ·exact e2 f hf
   ·obtain ⟨o, ho, hc, n, hd⟩ := t1
    show wpAny _ _ (do
     if (← typeOf (.ref a)) != .type "tuple" then return none
     return (← Builtin.List.listItems (.ref a))[0]?) _ _ _
    refine wpAny_bind (wpAny_typeOf (T := "tuple") ⟨o, ho, hc⟩ ?_)
    rw [if_neg (by simp)]
    exact wpAny_bind (listItems_at ho hd (wpAny_pure hQ))
 obtain ⟨fs, e1, e2, e3⟩ := key
 rw [keyKind'_eq, List.mapM_toArray]
 simp only [bind_map_left]
 refine wpAny_bind (eS _ _ e3 ?_)
 rw [if_pos (by simp)]
 refine wpAny_bind (wpAny_rule ?_)
 have e4 : (List.map some fs).toArray.filterMap id = fs.toArray := by simp
 rw [e4, oneTypeOnly'_eq, List.mapM_toArray]
 simp only [bind_map_left]
 have e5 : Paired (fun u o => ∀ (Q : Value → Shared → Prop), Q o s → wpAny (model X.prog X.w) A (typeOf u) Q E s) fs (fs.map fun _ => Value.type "tuple") := by
  clear e1 e3 e4
  induction fs with
  | nil => exact .nil
  | cons f fs ih => exact .cons (fun Q hQ => wpAny_typeOf (e2 f List.mem_cons_self) hQ) (ih fun g hg => e2 g (List.mem_cons_of_mem _ hg))
 refine wpAny_bind (wpAny_bind (eS _ _ e5 ?_))
 obtain ⟨f, fs', rfl⟩ : ∃ f fs', fs = f :: fs' := by
  match fs, e1 with
  | [], e1 => simp at e1; omega
  | f :: fs', _ => exact ⟨f, fs', rfl⟩
 have h0 : (List.map (fun _ => Value.type "tuple") (f :: fs')).toArray[0]? = some (Value.type "tuple") := by simp
 rw [h0]
 dsimp only
 rw [if_pos (by simp)]
 refine wpAny_pure (wpAny_pure ?_)
 have e6 : (some (Value.type "tuple")).any (fun x => x != Value.type "tuple") = false := by simp
 rw [e6]
 exact hQ
theorem A5 (I : Inv X pins σ H s) (sb : aC Hf H) (hA : A.units + 10 < cLine) {x y : Trm} {u v : Value} (hx : Stn X.K Hf (af x) u) (hy : Stn X.K Hf (af y) v) {Q : Bool → Shared → Prop} (hQ : Q (bM x y) s) : wpAny (model X.prog X.w) A (keyLt' (tuples' false) u v) Q E s := by
 obtain ⟨a, b, its, t, rfl, ⟨o, ho, hc, n, hd⟩, t2, i2, z1⟩ := k7 I sb hx
 obtain ⟨a', b', its', t', rfl, ⟨o', ho', hc', n', hd'⟩, t2', i2', z2⟩ := k7 I sb hy
 rw [r9]
 refine wpAny_bind (listItems_at ho hd (wpAny_bind (listItems_at ho' hd' ?_)))
 obtain ⟨w1, r1, q1⟩ := z1
 obtain ⟨w2, r2, q2⟩ := z2
 have e1 : SeqAt.EqAt A s (.ref b) (.ref b') (decide (D.tup (x.1.map .int) = D.tup (y.1.map .int))) := jX I sb 1 _ _ _ _ _ _ A (nc x.1 y.1) q1 q2 r1 r2 (by omega)
 have e2 : decide (D.tup (x.1.map D.int) = D.tup (y.1.map D.int)) = decide (x.1 = y.1) := by
  by_cases z : x.1 = y.1
  ·rw [z]; simp
  ·have : ¬ D.tup (x.1.map D.int) = D.tup (y.1.map D.int) := fun w => by
    injection w with w
    exact z ((List.map_inj_right (f := D.int) (fun a b e => by injection e)).mp w)
   rw [decide_eq_false this, decide_eq_false z]
 rw [e2] at e1
 have ez : ((#[Value.ref b, Value.int x.2 t] : Array Value).toList.zip (#[Value.ref b', Value.int y.2 t'] : Array Value).toList).zipIdx = [((Value.ref b, Value.ref b'), 0), ((Value.int x.2 t, Value.int y.2 t'), 1)] := rfl
 rw [ez]
 have lti : ∀ (bb : Bool) (m n : Int) (t u : Tok) (Q : Bool → Shared → Prop), Q (decide (m < n)) s → wpAny (model X.prog X.w) A (oneLt' (false && bb) (.int m t) (.int n u)) Q E s := fun bb m n t u Q h => by
  rw [Bool.false_and, oneLt'_eq, if_neg Bool.false_ne_true]
  exact wpAny_bind (lt_int (wpAny_pure h))
 simp only [List.forIn_cons, List.forIn_nil]
 refine wpAny_bind (wpAny_bind (wpAny_bind (e1 _ _ _ _ ?_)))
 unfold bM at hQ
 by_cases z : x.1 = y.1
 ·rw [if_pos z] at hQ
  rw [decide_eq_true z]
  simp only [Bool.not_true, Bool.false_eq_true, if_false]
  refine wpAny_pure ?_
  dsimp only
  refine wpAny_bind (wpAny_bind ?_)
  refine wpAny_eqBool_int ?_
  by_cases w : x.2 = y.2
  ·rw [show (x.2 == y.2) = true by simpa using w]
   simp only [Bool.not_true, Bool.false_eq_true, if_false]
   refine wpAny_pure (wpAny_pure ?_)
   dsimp only
   refine wpAny_pure ?_
   rw [w] at hQ
   simpa using hQ
  ·rw [show (x.2 == y.2) = false by simpa using w]
   simp only [Bool.not_false, if_true]
   refine wpAny_bind (lti _ _ _ _ _ _ (wpAny_pure ?_))
   dsimp only
   exact wpAny_pure (wpAny_pure hQ)
 ·rw [if_neg z] at hQ
  rw [decide_eq_false z]
  simp only [Bool.not_false, if_true]
  refine wpAny_bind ?_
  rw [Bool.false_and, oneLt'_eq, if_neg Bool.false_ne_true]
  refine wpAny_bind (HT.oE (s := s) t2 t2' i2 i2' (by omega) ?_)
  refine wpAny_pure (wpAny_pure ?_)
  dsimp only
  exact wpAny_pure (wpAny_pure hQ)
end
end EV
set_option Elab.async false
set_option linter.all false
set_option maxRecDepth 100000
namespace EV
open PySem PySem.Spec PySem.Calls PyProof.Rows L2
section
variable {X : Cx} {pins : List (Addr × Obj)} {σ : L2.St} {H : Hp} {s : Shared}
abbrev cxA (X : Cx) (A : Around) : Cx := { X with A := A }
theorem ok_at {A : Around} (ok : X.Ok) (h1 : X.calm = true → A.handled = none) (h2 : A.frames = some X.stack) : (cxA X A).Ok :=
 ⟨ok.mod, ok.kind, ok.glob, ok.blt, ok.above, ok.inj, ok.has, ok.cab, h1, h2, ok.stk, ok.exf, ok.bs, ok.bsz, ok.noex, ok.exfs, ok.fu, ok.frf⟩
theorem k8 {A : Around} (I : Inv X pins σ H s) (h1 : X.calm = true → A.handled = none) (h2 : A.frames = some X.stack) : Inv (cxA X A) pins σ H s :=
 ⟨ok_at I.ok h1 h2, I.os, I.bare, I.base, I.loc, I.cell, I.free, I.freeC, I.pin, I.hok, I.len⟩
theorem fS {A : Around} (ok : X.Ok) (I : Inv (cxA X A) pins σ H s) : Inv X pins σ H s :=
 ⟨ok, I.os, I.bare, I.base, I.loc, I.cell, I.free, I.freeC, I.pin, I.hok, I.len⟩
theorem yr {fp : List Addr} {H H' : Hp} (h : ∀ b ∈ fp, cS X pins H b) (n : ∀ b ∈ fp, H' b = none) : ∀ b ∈ fp, cS X pins H' b := fun b hb => ⟨n b hb, (h b hb).2⟩
theorem vC {nm : Str} {np : Pos} {S it : Addr} {fp : List Addr} {tn : Nat → Heap → Prop} {J : It} {res : Value} {ds : List D} {Hb Hf0 : Hp} {R : Result → Shared → Prop} (hc : X.calm = true) (Tn : Turn X.prog X.w X.K (.Name nm np) J fp it tn) (io : gS X.K J ds Hf0)
 (hS0 : Hb S = none) (hSf : S ∉ fp) (hn : ds.length ≤ sizeLine) (okX : X.Ok) (h1 : X.A.in1.handled = none) (h2 : X.A.in1.frames = some X.stack)
 (fin : ∀ (s' : Shared) (H' Hf' : Hp) (xs : List V), Inv X pins σ H' s' → H' S = some (.lst xs) → aj X.K Hf' ds xs → Grw Hb Hf0 H' Hf' → R (.ok (.ret res)) s') :
 ∀ (k i : Nat) (s : Shared) (H Hf : Hp) (xs : List V), ds.length - i = k → i ≤ ds.length → Inv X pins σ H s → tn i s.heap → (∀ b ∈ fp, cS X pins H b) → H S = some (.lst xs) → Hf S = none → aj X.K Hf (ds.take i) xs → Grw Hb Hf0 H Hf →
  codeAny (model X.prog X.w) X.A (.builtin "list.extend.loop" ⟨[.ref S, .ref it, res], []⟩) R s := by
 intro k
 induction k with
 | zero =>
  intro i s H Hf xs hk hi I t hf hS hfS hr g
  have e : i = ds.length := by omega
  subst e
  rw [List.take_length] at hr
  refine codeAny_builtin PySem.F.entry_extend_loop ?_
  rw [Around.under_plainId PySem.F.plain_extend_loop _]
  show wpAny _ X.A.in1 (pyNext (.ref it) >>= _) _ _ s
  refine wpAny_bind (wpAny_mono (Tn.done (cxA X X.A.in1) rfl rfl rfl hc _ pins s σ H _ (k8 I (fun _ => h1) h2) hf t (io.stop _ H Hf g.f g.b (Nat.le_refl _))) (fun r s' ⟨e, I'⟩ => ?_) fun _ _ x => x)
  subst e
  exact wpAny_pure (fin s' H Hf xs (fS okX I') hS hr g)
 | succ k ih =>
  intro i s H Hf xs hk hi I t hf hS hfS hr g
  have lt : i < ds.length := by omega
  have ed : ds[i]? = some ds[i] := List.getElem?_eq_getElem lt
  obtain ⟨hgo, hy⟩ := io.go i ds[i] H Hf g.f g.b ed
  refine codeAny_builtin PySem.F.entry_extend_loop ?_
  rw [Around.under_plainId PySem.F.plain_extend_loop _]
  show wpAny _ X.A.in1 (pyNext (.ref it) >>= _) _ _ s
  refine wpAny_bind (wpAny_mono (Tn.item (cxA X X.A.in1) rfl rfl rfl hc i pins s σ H _ (k8 I (fun _ => h1) h2) hf t hgo) (fun r s1 ⟨u, e, hu⟩ => ?_) fun _ _ x => x)
  subst e
  show wpAny _ X.A.in1 (letOwnedTupleGo (.Name nm np) (.ref it) u >>= fun _ => (Builtin.List.listUpdate (.ref S) (·.push u) >>= fun _ => again (.builtin "list.extend.loop" ⟨[.ref S, .ref it, res], []⟩))) _ _ s1
  refine wpAny_bind (wpAny_mono hu (fun _ s2 ⟨x, H', I2, rx, y, t2, n2⟩ => ?_) fun _ _ x => x)
  have I2 := fS okX I2
  obtain ⟨Hf', g', rd⟩ := hy x H' y
  have hS' : H' S = some (.lst xs) := g'.s _ _ hS
  have hfS' : Hf' S = none := g'.n S hfS (by rw [hS]; simp) (by intro ys; rw [hS]; simp)
  obtain ⟨z, its, n, rv, el, eo⟩ := I2.lW hS'
  have hx : xs.length = i := by rw [← hr.length, List.length_take]; omega
  have hz : (xs ++ [x]).length ≤ sizeLine := by simp only [List.length_append, List.length_cons, List.length_nil]; omega
  refine wpAny_bind (listUpdate_at eo rfl ?_ (by simp; omega) (by simp; omega))
  have ef : (fun a : Array Value => a.push u) its.toArray = (its ++ [u]).toArray := by simp
  have I3 := I2.rF (f := fun a => a.push u) (t' := s2.toks) hS' eo ef (rv.append (.cons rx .nil)) hz
  refine wpAny_pure ⟨plainId_quiet PySem.F.plain_extend_loop _, ih (i + 1) _ (upd H' S (.lst (xs ++ [x]))) Hf' (xs ++ [x]) (by omega) lt I3 (Tn.keep _ _ _ t2 fun b hb o e => ?_) (yr hf fun b hb => ?_) ai hfS' ?_ (qy (g.trans g') hS0 hfS')⟩
  ·exact (Heap.get?_update_other _ _ (fun w : S = b => hSf (w ▸ hb))).trans e
  ·rw [ah (fun w : b = S => hSf (w ▸ hb))]; exact n2 b hb
  ·rw [List.take_add_one, ed]
   exact (hr.mono g'.f).append (aj.one rd)
end
section
variable {prog : Program} {w : World} {A : Around} {E : Value → Shared → Prop} {s : Shared}
theorem sd {v : Addr} {Q : Bool → Shared → Prop} (hT : s.TypeIs (.ref v) "dict_items") (hQ : Q false s) : wpAny (model prog w) A (Builtin.List.listLengthHint (.ref v)) Q E s := by
 unfold Builtin.List.listLengthHint
 refine wpAny_bind (wpAny_specialOf hT PySem.F.slot_dict_items_len.lookup ?_)
 have e : splitId "dict_items.__len__" = some ("dict_items", "__len__") := by decide +kernel
 dsimp only
 rw [e]
 dsimp only
 refine wpAny_bind (wpAny_isInstance (b := true) hT (by rw [isSubtype_type]; kernel_rfl) ?_)
 rw [if_neg (by decide)]
 exact wpAny_bind (wpAny_typeOf hT (wpAny_pure hQ))
end
section
variable {X : Cx} {pins : List (Addr × Obj)} {σ : L2.St} {H Hf : Hp} {s : Shared} {E : Value → Shared → Prop}
theorem yt {tg : Expr} {v d : Addr} {o : Obj} {u : HO} {A : Around} (I : Inv X pins σ H s) (hv : s.heap.IsItemsView v d) (hH : H d = some (.frz o u)) (hd : HO.dct u) :
 wpAny (model X.prog X.w) A (pyIter (.ref v)) (fun itv s2 => ∃ (it : Addr) (es : Array DictEntry) (ep : Nat), itv = .ref it ∧ s.heap.objs.size ≤ it ∧ Inv X pins σ H s2 ∧ Turn X.prog X.w X.K tg (Itd d o u) [it] it (fun i h => ItG h it d i es.size ep) ∧ ItG s2.heap it d 0 es.size ep ∧ (∀ b ∈ [it], cS X pins H b) ∧
  (∀ b o, s.heap.get? b = some o → s2.heap.get? b = some o)) E s := by
 obtain ⟨ho, ok⟩ := (show aJ X.prog X.w H s.heap d (.frz o u) from I.hok d _ hH)
 obtain ⟨hx, es, ep, hod, hp, hs, hz⟩ := bX ok hd ho
 refine j3 hv ho hod ?_
 have hsz : es.size = (bB u).length := by rw [Paired.length hp]; simp
 refine ⟨_, es, ep, rfl, Nat.le_refl _, I.kept (t' := s.toks) fun b o e => Heap.get?_push_of_some _ e, iW (o := o) (u := u) (es := es) (ep := ep) hd hod (fun z => ?_) hsz, ⟨.none, false, .none, .none, Heap.get?_push_size _ rfl, .inl rfl⟩, fun b hb => ?_, fun b o e => Heap.get?_push_of_some _ e⟩
 ·have lt := Heap.lt_size ho
  rw [← z] at lt
  exact absurd lt (Nat.lt_irrefl _)
 ·have e : b = s.heap.objs.size := by simpa using hb
  subst e
  exact I.jy (Nat.le_refl _) (I.hok.fresh (Nat.le_refl _))
theorem jc {src : Addr} {T : String} {ds : List D} {Q : List Value → Shared → Prop} (hc : X.calm = true) (h1 : X.A.in1.handled = none) (h2 : X.A.in1.frames = some X.stack) (I : Inv X pins σ H s) (sb : aC Hf H) (hlt : src < s.heap.objs.size) (hn : ds.length ≤ sizeLine) (hT : (false || Value.type T == Value.type "list" || Value.type T == Value.type "tuple") = false)
 (ty : ∀ s' : Shared, (∀ b o, s.heap.get? b = some o → s'.heap.get? b = some o) → s'.TypeIs (.ref src) T)
 (hint : ∀ (A : Around) (s' : Shared) (Q : Bool → Shared → Prop) (E : Value → Shared → Prop), s'.TypeIs (.ref src) T → Q false s' → wpAny (model X.prog X.w) A (Builtin.List.listLengthHint (.ref src)) Q E s')
 (iter : ∀ (A : Around) (s1 : Shared) (H1 : Hp) (E : Value → Shared → Prop), Inv X pins σ H1 s1 → aC Hf H1 → (∀ b o, s.heap.get? b = some o → s1.heap.get? b = some o) → wpAny (model X.prog X.w) A (pyIter (.ref src)) (fun itv s2 => ∃ (it : Addr) (tn : Nat → Heap → Prop) (J : It), itv = .ref it ∧
   s1.heap.objs.size ≤ it ∧ Inv X pins σ H1 s2 ∧ Turn X.prog X.w X.K (.Name (Str.ofString "x") ⟨0, 0, 0, 0⟩) J [it] it tn ∧ tn 0 s2.heap ∧ (∀ b ∈ [it], cS X pins H1 b) ∧ (∀ b o, s1.heap.get? b = some o → s2.heap.get? b = some o) ∧ gS X.K J ds Hf) E s1)
 (hQ : ∀ (us : List Value) (s' : Shared) (H' Hf' : Hp) (xs : List V), Inv X pins σ H' s' → Vals xs us → aj X.K Hf' ds xs → Grw H Hf H' Hf' → ds.length ≤ sizeLine → Q us s') : wpAny (model X.prog X.w) X.A (collect (.ref src)) Q E s := by
 unfold collect
 refine wpAny_bind (wpAny_runValue (codeAny_builtin PySem.F.entry_proto_collect ?_))
 rw [Around.under_plainId PySem.F.plain_proto_collect _]
 show wpAny _ X.A.in1 (newList [] >>= fun l => again (.builtin "list.__iadd__" ⟨[l, .ref src], []⟩)) _ _ s
 have HS : H s.heap.objs.size = none := I.hok.fresh (Nat.le_refl _)
 have hvS : s.heap.objs.size ≠ src := Nat.ne_of_gt hlt
 refine wpAny_bind (wpAny_newObj_type (wpAny_pure ⟨plainId_quiet PySem.F.plain_list_iadd _, codeAny_builtin PySem.F.entry_list_iadd ?_⟩))
 rw [Around.under_plainId PySem.F.plain_list_iadd _]
 generalize hS : s.heap.objs.size = S at *
 have I1 : Inv X pins σ (upd H S (.lst [])) { s with heap := s.heap.push { cls := .type "list", data := .seq ([] : List Value).toArray }, toks := s.toks } := by
  have := I.lnew (t' := s.toks) (ys := []) (its := []) .nil (Nat.zero_le _)
  rw [hS] at this
  exact this
 show wpAny _ X.A.in1 (Builtin.List.listExtendWith (.ref S) (.ref src) (.ref S)) _ _ { s with heap := s.heap.push { cls := .type "list", data := .seq ([] : List Value).toArray } }
 have k1 : ∀ b o, s.heap.get? b = some o → (s.heap.push { cls := .type "list", data := .seq ([] : List Value).toArray }).get? b = some o := fun b o e => Heap.get?_push_of_some _ e
 generalize hs1 : ({ s with heap := s.heap.push { cls := .type "list", data := .seq ([] : List Value).toArray } } : Shared) = s1
 replace I1 : Inv X pins σ (upd H S (.lst [])) s1 := by rw [← hs1]; exact I1
 replace k1 : ∀ b o, s.heap.get? b = some o → s1.heap.get? b = some o := by rw [← hs1]; exact k1
 have hltS : S < s1.heap.objs.size := by rw [← hs1, ← hS]; show _ < (Heap.push _ _).objs.size; rw [Heap.size_push]; exact Nat.lt_succ_self _
 unfold Builtin.List.listExtendWith
 have ne : Builtin.List.listSameRef (.ref S) (.ref src) = false := by simp [Builtin.List.listSameRef, hvS]
 refine wpAny_bind (wpAny_typeOf (ty s1 k1) ?_)
 rw [if_neg (by rw [ne, hT]; decide)]
 refine wpAny_bind (wpAny_mono (iter _ s1 _ _ I1 (Grw.dZ sb HS (o := .lst [])).b k1) (fun itv s2 ⟨it, tn, J, e, hit, I2, Tn, t0, hf, k2, io⟩ => ?_) fun _ _ x => x)
 subst e
 refine wpAny_bind (wpAny_holding (hint _ s2 _ _ (ty s2 fun b o e => k2 b o (k1 b o e)) ?_))
 have hSne : it ≠ S := Nat.ne_of_gt (Nat.lt_of_lt_of_le hltS hit)
 have g0 : Grw H Hf (upd H S (.lst [])) Hf := Grw.dZ sb HS
 have go : ∀ (R : Result → Shared → Prop) (s3 : Shared), Inv X pins σ (upd H S (.lst [])) s3 → tn 0 s3.heap → (∀ (its : List Value) (n : Nat) (s' : Shared), s'.heap.get? S = some { cls := .type "list", data := .seq its.toArray n } → Q its s' → R (.ok (.ret (.ref S))) s') →
  codeAny (model X.prog X.w) X.A (.builtin "list.extend.loop" ⟨[.ref S, .ref it, .ref S], []⟩) R s3 := fun R s3 I3 t3 hR => by
  refine vC (X := X) (Hb := H) (Hf0 := Hf) hc Tn io HS (fun m => hSne (List.mem_singleton.mp m).symm) hn I.ok h1 h2 (fun s' H' Hf' xs I' hS' hr g => ?_) ds.length 0 s3 _ Hf [] (by simp) (Nat.zero_le _) I3 t3 hf ai (sb.free HS) (av.mpr rfl) g0
  obtain ⟨_, its, n, rv, el, eo⟩ := I'.lW hS'
  exact hR its n s' eo (hQ its s' H' Hf' xs I' rv hr g hn)
 have fin : ∀ s3 : Shared, Inv X pins σ (upd H S (.lst [])) s3 → tn 0 s3.heap → wpAny (model X.prog X.w) X.A.in1 (again (.builtin "list.extend.loop" ⟨[.ref S, .ref it, .ref S], []⟩)) (fun fin s' => match fin with
  | .done f => (match (Except.ok f : Result) with
   | .ok (.ret v) => wpAny (model X.prog X.w) X.A (do
    let .ref a := v | unsupported "internal:collect"
    let o ← load a
    match o.data with
    | .seq xs _ => pure xs.toList
    | _ => unsupported "internal:collect") Q E s'
   | .ok _ => False
   | .error e => E e s')
  | .again c => c.quiet = true ∧ codeAny (model X.prog X.w) X.A c (fun r s' => match r with
   | .ok (.ret v) => wpAny (model X.prog X.w) X.A (do
    let .ref a := v | unsupported "internal:collect"
    let o ← load a
    match o.data with
    | .seq xs _ => pure xs.toList
    | _ => unsupported "internal:collect") Q E s'
   | .ok _ => False
   | .error e => E e s') s') E s3 := fun s3 I3 t3 =>
  wpAny_pure ⟨plainId_quiet PySem.F.plain_extend_loop _, go _ s3 I3 t3 fun its n s' eo q => wpAny_bind (wpAny_load eo (wpAny_pure q))⟩
 obtain ⟨_, its, n, rv, el, eo⟩ := I2.lW (l := S) (xs := []) ai
 cases rv
 split
 ·refine wpAny_bind (wpAny_rule ?_)
  unfold Builtin.List.listTouch
  refine wpAny_bind (wpAny_bind (listUpdate_at eo rfl ?_))
  have I3 := I2.rF (f := fun a => a.push .none) (its' := [.none]) (ys := [.non]) (t' := s2.toks) ai eo (by simp) (.cons rfl .nil) (by show 1 ≤ sizeLine; decide)
  obtain ⟨_, its3, n3, rv3, el3, eo3⟩ := I3.lW (l := S) (xs := [.non]) ai
  cases rv3 with
  | cons r3 t3 =>
   cases t3
   cases r3
   refine listUpdate_at eo3 rfl ?_
   have I4 := I3.rF (f := fun a => a.pop) (its' := []) (ys := []) (t' := s2.toks) ai eo3 (by simp) .nil (Nat.zero_le _)
   rw [pV, pV] at I4
   refine fin _ I4 (Tn.keep 0 _ _ t0 fun b hb o e => ?_)
   have hbS : S ≠ b := fun w => hSne (by rw [List.mem_singleton.mp hb] at w; exact w.symm)
   exact (Heap.get?_update_other _ _ hbS).trans ((Heap.get?_update_other _ _ hbS).trans e)
 ·exact fin s2 I2 t0
theorem k9 {v d : Addr} {o : Obj} {u : HO} {ds : List D} {Q : List Value → Shared → Prop} (hc : X.calm = true) (h1 : X.A.in1.handled = none) (h2 : X.A.in1.frames = some X.stack) (I : Inv X pins σ H s) (sb : aC Hf H) (hv : s.heap.IsItemsView v d) (hH : Hf d = some (.frz o u)) (hd : HO.dct u)
 (hp : Paired (d9 X.K Hf) ds (bB u))
 (hQ : ∀ (us : List Value) (s' : Shared) (H' Hf' : Hp) (xs : List V), Inv X pins σ H' s' → Vals xs us → aj X.K Hf' ds xs → Grw H Hf H' Hf' → ds.length ≤ sizeLine → Q us s') : wpAny (model X.prog X.w) X.A (collect (.ref v)) Q E s := by
 obtain ⟨ho, ok⟩ := (show aJ X.prog X.w H s.heap d (.frz o u) from I.hok d _ (sb _ _ hH))
 obtain ⟨_, _, _, _, _, _, hz⟩ := bX ok hd ho
 have up : ∀ s' : Shared, (∀ b o, s.heap.get? b = some o → s'.heap.get? b = some o) → s'.heap.IsItemsView v d := fun s' k => by obtain ⟨q, q1, q2⟩ := hv; exact ⟨q, k _ _ q1, q2⟩
 refine jc (T := "dict_items") hc h1 h2 I sb (by obtain ⟨_, q, _⟩ := hv; exact Heap.lt_size q) (by rw [Paired.length hp]; exact hz) (by decide) (fun s' k => (up s' k).typeIs) (fun A s' Q E q h => sd q h) (fun A s1 H1 E I1 sb1 k1 => ?_) hQ
 refine wpAny_mono (yt (tg := .Name (Str.ofString "x") ⟨0, 0, 0, 0⟩) I1 (up s1 k1) (sb1 _ _ hH) hd) (fun itv s2 ⟨it, es, ep, e, hit, I2, Tn, t0, hf, k2⟩ => ?_) fun _ _ x => x
 exact ⟨it, _, _, e, hit, I2, Tn, t0, hf, k2, iX hH hp⟩
end
end EV
set_option Elab.async false
set_option linter.all false
set_option maxRecDepth 100000
namespace EV
open PySem PySem.Spec PySem.Calls PyProof.Rows L2
def A6 (te : TE) : TE := fun σ H Q => te σ H fun x H1 => ∃ d o u, x = .ref d ∧ H1 d = some (.frz o u) ∧ HO.dct u ∧ ∀ v, H1 v = none → Q (.ref v) (upd H1 v (.ext fun h => h.IsItemsView v d))
theorem vD {X : Cx} {e : Expr} {ap cp : Pos} {te : TE} (he : PE X e te) (hbase : attributeBase e "items" X.env (eval e X.env) = eval e X.env) (hline : (ap.endLine == cp.line) = true) : PE X (.Call (.Attribute e "items" ap) [] [] cp) (A6 te) := by
 intro pins s σ H Q I h
 refine wpAny_Call_method (T := "dict") (id := "dict.items") hbase rfl hline F.plainAttrs_dict F.slot_dict_items F.type_dict_items (thn (he pins s σ H _ I h) fun v s1 ⟨x, H1, I1, r1, d, o, u, ex, hH, hd, q⟩ => ?_)
 subst ex
 cases r1
 obtain ⟨ho, ok⟩ := (show aJ X.prog X.w H1 s1.heap d (.frz o u) from I1.hok d _ hH)
 obtain ⟨hx, es, ep, hod, hp, hs, hz⟩ := bX ok hd ho
 have hT : s1.TypeIs (.ref d) "dict" := ⟨o, ho, hx.1⟩
 refine ⟨hT, fun b z => by cases z; exact ⟨o, ho, hx.2.1⟩, ?_⟩
 show wpAny _ _ (callWith cp (.builtin "dict.items") [.ref d] [] []) _ _ s1
 refine method_meetsIn F.slot_dict_items F.entry_dict_items rfl (PySem.evalArgs_none ⟨rfl, hT, F.args_dict_items_1 _, _, gM d hs, hT, ?_⟩)
 have Hv : H1 s1.heap.objs.size = none := I1.hok.fresh (Nat.le_refl _)
 have hve : (s1.heap.push { cls := .type "dict_items", data := .fields #[.ref d] }).IsItemsView s1.heap.objs.size d := ⟨_, Heap.get?_push_size _ rfl, rfl, rfl⟩
 have I2 : Inv X pins σ (upd H1 s1.heap.objs.size (.ext fun h => h.IsItemsView s1.heap.objs.size d)) { s1 with heap := s1.heap.push { cls := .type "dict_items", data := .fields #[.ref d] }, toks := s1.toks } :=
  I1.laid (a := s1.heap.objs.size) (fun _ _ q => Heap.get?_push_of_some _ q) (Nat.le_refl _) ⟨hve, ⟨_, Heap.get?_push_size _ rfl⟩, fun h1 h2 ⟨o, e, r⟩ k => ⟨o, k o e, r⟩⟩
 exact ⟨.ref s1.heap.objs.size, _, I2, rfl, q _ Hv⟩
section
variable {X : Cx} {pins : List (Addr × Obj)} {σ : L2.St} {H Hf : Hp} {s : Shared} {E : Value → Shared → Prop} {α : Type} {enc : α → D} {lt : α → α → Bool} {κ : SortKind}
theorem ng {K : PySem.W.Frag} : ∀ {L : List α} {xs : List V} {us : List Value}, aj K Hf (L.map enc) xs → Vals xs us → Paired (fun x u => Stn K Hf (enc x) u) L us
 | [], xs, us, h, v => by rw [List.map_nil, av] at h; subst h; cases v; exact .nil
 | t :: L, xs, us, h, v => by
  rw [List.map_cons] at h
  obtain ⟨x, r, rfl, h1, h2⟩ := az.mp h
  cases v with
  | cons r1 r2 => exact .cons ⟨x, r1, h1⟩ (ng h2 r2)
theorem nh {K : PySem.W.Frag} : ∀ {L : List α} {us : List Value}, Paired (fun x u => Stn K Hf (enc x) u) L us → ∃ xs, aj K Hf (L.map enc) xs ∧ Vals xs us
 | _, _, .nil => ⟨[], av.mpr rfl, .nil⟩
 | _, _, .cons ⟨x, r1, h1⟩ t => by
  obtain ⟨xs, h2, h3⟩ := nh t
  exact ⟨x :: xs, .cons h1 h2, .cons r1 h3⟩
structure SrtE (X : Cx) (enc : α → D) (lt : α → α → Bool) (κ : SortKind) : Prop where
 lin : ∀ L : List α, SR.Lin lt L
 inj : ∀ (pins : List (Addr × Obj)) (σ : L2.St) (H Hf : Hp) (s : Shared), Inv X pins σ H s → aC Hf H → ∀ x y u, Stn X.K Hf (enc x) u → Stn X.K Hf (enc y) u → x = y
 kind : ∀ (pins : List (Addr × Obj)) (σ : L2.St) (H Hf : Hp) (s : Shared) (A : Around) (E : Value → Shared → Prop), Inv X pins σ H s → aC Hf H → ∀ (L : List α) (us : List Value), Paired (fun x u => Stn X.K Hf (enc x) u) L us → 2 ≤ us.length → ∀ Q : SortKind → Shared → Prop, Q κ s → wpAny (model X.prog X.w) A (keyKind' us.toArray) Q E s
 cmp : ∀ (pins : List (Addr × Obj)) (σ : L2.St) (H Hf : Hp) (s : Shared) (A : Around) (E : Value → Shared → Prop), Inv X pins σ H s → aC Hf H → A.units + 10 < cLine → ∀ (x y : α) (u v : Value), Stn X.K Hf (enc x) u → Stn X.K Hf (enc y) v → ∀ Q : Bool → Shared → Prop, Q (lt x y) s → wpAny (model X.prog X.w) A (keyLt' κ u v) Q E s
theorem qK : SrtE X af bM (tuples' false) :=
 ⟨iy, fun _ _ _ _ _ I sb _ _ _ h1 h2 => yq I sb h1 h2, fun _ _ _ _ _ _ _ I sb _ _ p h2 _ hQ => vB I sb p h2 hQ, fun _ _ _ _ _ _ _ I sb hA _ _ _ _ hx hy _ hQ => A5 I sb hA hx hy hQ⟩
def gW (lt : α → α → Bool) (b : Bool) (L : List α) : Prop := L.Pairwise fun x y => if b then lt y x = true else lt x y = true
abbrev dJ (b : Bool) (L : List Trm) : Prop := gW bM b L
theorem jd {L : List α} {b : Bool} {A : Around} {us : List Value} {xs : List V} {Q : Value → Shared → Prop} (hs : SrtE X enc lt κ) (I : Inv X pins σ H s) (sb : aC Hf H) (hA : A.units + 20 < cLine) (hr : aj X.K Hf (L.map enc) xs) (hv : Vals xs us) (hz : us.length ≤ sizeLine) (nd : L.Nodup)
 (hQ : ∀ (L' : List α) (xs' : List V) (s' : Shared), L'.Perm L → gW lt b L' → aj X.K Hf (L'.map enc) xs' → xs'.length ≤ sizeLine → Inv X pins σ (upd H s.heap.objs.size (.lst xs')) s' → Q (.ref s.heap.objs.size) s') :
 wpAny (model X.prog X.w) A (newList us >>= fun l => (holding [l] (call (.builtin "list.sort") [l] [(Str.ofString "reverse", .bool b)]) >>= fun _ => ret l)) (fun fin s' => ∃ v, fin = .done (.ret v) ∧ Q v s') E s := by
 refine wpAny_bind (wpAny_newList ?_ hz)
 have ha : (s.heap.push (seqObj "list" us.toArray 0)).get? s.heap.objs.size = some (seqObj "list" us.toArray 0) := Heap.get?_push_size _ rfl
 have I1 : Inv X pins σ H { s with heap := s.heap.push (seqObj "list" us.toArray 0), toks := s.toks } := I.kept fun b o e => Heap.get?_push_of_some _ e
 have Ha : H s.heap.objs.size = none := I.hok.fresh (Nat.le_refl _)
 obtain ⟨f0, f1, f2, f3, f4, f5⟩ := I.jy (H' := H) (Nat.le_refl _) Ha
 have pL := ng hr hv
 refine wpAny_bind (wpAny_holding (wpAny_call_entry_kw slot_list_sort ⟨_, ha, rfl⟩ entry_list_sort (SR.r8 (κ := κ) (rk := SR.vt (fun x u => Stn X.K Hf (enc x) u) lt L) (b := b) ha ?_ hz fun out hp ho => ⟨_, rfl, ?_⟩) (args_list_sort_rev _ _)))
 ·intro h' k
  have I2 := I1.turned (h' := h') (t' := s.toks) (it := s.heap.objs.size) (fun b o hb e => k b o hb e) f0 f1 f3 f4 f5
  refine ⟨fun Q E h2 hQ => hs.kind _ _ _ _ _ _ _ I2 sb _ _ pL h2 _ hQ, SR.A4 (fun x y u h1 h2 => hs.inj _ _ _ _ _ I2 sb x y u h1 h2) (hs.lin L) pL fun x _ y _ u v hx hy E Q hQ => hs.cmp _ _ _ _ _ _ _ I2 sb ?_ _ _ _ _ hx hy _ hQ⟩
  show A.units + 1 + 10 < cLine
  omega
 ·obtain ⟨L', p1, p2, p3⟩ := SR.vv (S := fun x u => Stn X.K Hf (enc x) u) (fun x y u h1 h2 => hs.inj _ _ _ _ _ I sb x y u h1 h2) (hs.lin L) nd pL hp ho
  obtain ⟨xs', r', v'⟩ := nh p3
  obtain ⟨e, he⟩ := sortedHeap_at (vs := us) (out := out) ha
  have hl : out.toList.length = us.length := hp.length_eq
  refine wpAny_pure ⟨_, rfl, hQ L' xs' _ p1 p2 r' ?_ ?_⟩
  ·have := v'.length; omega
  ·refine I.laid (t' := s.toks) (fun b o q => ?_) (Nat.le_refl _) ⟨by have := v'.length; omega, out.toList, e, v', by simpa using he⟩
   have lt := Heap.lt_size q
   rw [sortedHeap_old (Nat.ne_of_lt lt) (by rw [size_push']; exact Nat.lt_succ_of_lt lt)]
   exact Heap.get?_push_of_some _ q
end
section
variable {X : Cx} {pins : List (Addr × Obj)} {σ : L2.St} {H Hf : Hp} {s : Shared} {E : Value → Shared → Prop}
theorem ni {v d : Addr} {o : Obj} {u : HO} {L : List Trm} {b : Bool} {Q : Value → Shared → Prop} (hc : X.calm = true) (I : Inv X pins σ H s) (sb : aC Hf H) (hA : X.A.units + 60 < cLine) (hv : s.heap.IsItemsView v d) (hH : Hf d = some (.frz o u)) (hd : HO.dct u)
 (hp : Paired (d9 X.K Hf) (L.map af) (bB u)) (nd : L.Nodup)
 (hQ : ∀ (L' : List Trm) (xs' : List V) (s' : Shared) (H' Hf' : Hp) (a : Addr), L'.Perm L → dJ b L' → aj X.K Hf' (L'.map af) xs' → Grw H Hf H' Hf' → H' a = none → Inv X pins σ (upd H' a (.lst xs')) s' → Q (.ref a) s') :
 wpAny (model X.prog X.w) X.A (call (.builtin "sorted") [.ref v] [(Str.ofString "reverse", .bool b)]) Q E s := by
 refine call_function_entry_kw kind_sorted plain_sorted entry_sorted (args_sorted_rev _ _) ?_
 unfold Builtin.«sorted»
 refine wpAny_bind (m := checkCount "sorted" 1 1 _) (wpAny_pure ?_)
 have h1 : X.A.in1.handled = none := I.ok.hd hc
 have h2 : X.A.in1.frames = some X.stack := I.ok.frames
 refine wpAny_bind (k9 (X := cxA X X.A.in1) (H := H) (Hf := Hf) hc h1 h2 (k8 I (fun _ => h1) h2) sb hv hH hd hp fun us s' H' Hf' xs I' rv rr g hz => ?_)
 have I2 := fS I.ok I'
 have el := rr.length
 have el2 := rv.length
 refine jd (b := b) qK I2 g.b ?_ rr rv (by omega) nd fun L' xs' s2 p1 p2 p3 p4 I3 => hQ L' xs' s2 H' Hf' _ p1 p2 p3 g (I2.hok.fresh (Nat.le_refl _)) I3
 show X.A.units + 1 + 20 < cLine
 omega
end
section
variable {P : Program} {w : World} {K : PySem.W.Frag} {mg : Str → Option Value} {base : Heap} {k : Nat} {N : List Str} {sc : Scope} {bk : Bool} {c : Ctx P w K mg base k N sc bk} {ρ : List Sl} {ap cp np pos kp kp1 : Pos} {e : Expr} {j : Nat}
theorem nj {R : Sl → Prop} (hm : mg (Str.ofString "sorted") = none) (h : EvE c e ρ fun d => ∃ L : List Trm, d.pairs = some (L.map af) ∧ Sd L.Nodup (∀ L' : List Trm, L'.Perm L → dJ true L' → R (.ow (L'.map af))))
 (hg : sc.names.lookup (Str.ofString "sorted") = some .globalImplicit := by with_unfolding_all rfl)
 (hb : ∀ env, attributeBase e (Str.ofString "items") env (eval e env) = eval e env := by intro _; with_unfolding_all rfl) (hl : (ap.endLine == cp.line) = true := by with_unfolding_all rfl) :
 EvX c (.Call (.Name (Str.ofString "sorted") np) [.Call (.Attribute e (Str.ofString "items") ap) [] [] cp] [⟨some (Str.ofString "reverse"), .Constant (.bool true) j kp1, kp⟩] pos) ρ R := fun σ H Hf Q S q pins s I => by
 have hgl : Gl c.X (Str.ofString "sorted") := by unfold Gl Env.kindOf; rw [c.esc]; exact hg
 refine wpAny_Call_Name_kw (ck I hgl (by rw [c.emg]; exact hm) (show bootBuiltins (Str.ofString "sorted") = some (.builtin "sorted") by decide +kernel) ?_ (by decide) (by decide))
 refine callWith_kw ?_
 have hpa := bq (X := c.X) (e := .Call (.Attribute e (Str.ofString "items") ap) [] [] cp) (es := []) (vD pbE (hb _) hl) cF (by rfl)
 refine thn (hpa pos pins s σ H (fun vs H1 => ∃ x, vs = [x] ∧ ∃ (v d : Addr) (o : Obj) (u : HO) (L : List Trm) (H0 Hf0 : Hp), x = .ref v ∧ H1 = upd H0 v (.ext fun h => h.IsItemsView v d) ∧ H0 v = none ∧ Hf0 d = some (.frz o u) ∧ HO.dct u ∧ Paired (d9 c.X.K Hf0) (L.map af) (bB u) ∧ L.Nodup ∧ Grw H Hf H0 Hf0 ∧ ∀ L' : List Trm, L'.Perm L → dJ true L' → R (.ow (L'.map af))) I ?_) fun us s1 ⟨vs, H1, I1, r1, x, ex, v, d, o, u, L, H0, Hf0, e1, e2, e3, e4, e5, e6, e7, e8, e9⟩ => ?_
 ·exact h σ H Hf _ S fun d v H1 Hf1 ⟨L, hp, ⟨hn, hR⟩⟩ rv g => by
   obtain ⟨a, o, u, e1, e2, e3, e4⟩ := j5 hp rv
   exact ⟨a, o, u, e1, g.b _ _ e2, e3, fun vw hv => ⟨_, rfl, vw, a, o, u, L, H1, Hf1, rfl, rfl, hv, e2, e3, e4, hn, g, hR⟩⟩
 ·subst ex e1 e2
  have eu : us = [.ref v] := by
   cases r1 with
   | cons q1 q2 => cases q2; cases q1; rfl
  subst eu
  have g1 : Grw H0 Hf0 (upd H0 v (.ext fun h => h.IsItemsView v d)) Hf0 := Grw.dZ e8.b e3
  refine kws_cons (thn (pY (X := c.X) (b := true) (j := j) (pos := kp1) pins s1 σ _ (fun x H1 => x = .bl true ∧ H1 = upd H0 v (.ext fun h => h.IsItemsView v d)) I1 ⟨rfl, rfl⟩) fun kv s2 ⟨x, H2, I2, rx, e10, e11⟩ => kws_nil ?_)
  subst e10 e11
  have ek : kv = .bool true := rx
  subst ek
  obtain ⟨hvw, _⟩ := (show aJ c.X.prog c.X.w _ s2.heap v (.ext fun h => h.IsItemsView v d) from I2.hok v _ ai)
  refine ni (b := true) c.calm I2 g1.b ?_ hvw e4 e5 e6 e7 fun L' xs' s' H' Hf' a p1 p2 p3 g2 na I3 => ?_
  ·have := c.room.un
   have hc : (200 : Nat) ≤ 16 * k + 200 := by omega
   omega
  ·have gg := (e8.trans g1).trans g2
   exact ⟨.ref a, _, I3, rfl, q (.ow (L'.map af)) _ _ Hf' (e9 L' p1 p2) ⟨a, xs', rfl, gg.s.free na, ai, g2.b.free na, p3⟩ (gg.trans (Grw.dZ gg.b na))⟩
end
end EV
set_option Elab.async false
set_option linter.all false
set_option maxRecDepth 100000
namespace EV
open PySem PySem.Spec PySem.Calls PyProof.Rows L2
section
variable {X : Cx} {pins : List (Addr × Obj)} {σ : L2.St} {H Hf : Hp} {s : Shared} {E : Value → Shared → Prop}
theorem lg {l : Addr} {ys : List V} {L : List Trm} {b : Bool} {Q : Value → Shared → Prop} (hc : X.calm = true) (I : Inv X pins σ H s) (sb : aC Hf H) (hA : X.A.units + 60 < cLine) (hl : SqL X.K Hf l ys) (hr : aj X.K Hf (L.map af) ys) (nd : L.Nodup)
 (hQ : ∀ (L' : List Trm) (xs' : List V) (s' : Shared) (a : Addr), L'.Perm L → dJ b L' → aj X.K Hf (L'.map af) xs' → H a = none → Inv X pins σ (upd H a (.lst xs')) s' → Q (.ref a) s') :
 wpAny (model X.prog X.w) X.A (call (.builtin "sorted") [.ref l] [(Str.ofString "reverse", .bool b)]) Q E s := by
 refine call_function_entry_kw kind_sorted plain_sorted entry_sorted (args_sorted_rev _ _) ?_
 unfold Builtin.«sorted»
 refine wpAny_bind (m := checkCount "sorted" 1 1 _) (wpAny_pure ?_)
 obtain ⟨its, rv, p, hz⟩ := I.list (sb.seq hl)
 have el := rv.length
 refine wpAny_bind (collect_list p.isList ?_ (by omega))
 have I2 : Inv X pins σ H { s with heap := (s.heap.push (seqObj "list" #[] 0)).update s.heap.objs.size (Obj.mapSeq (· ++ its.toArray)), toks := s.toks } := I.kept fun c o e => by
  rw [Heap.get?_update_ne _ _ _ _ (Nat.ne_of_lt (Heap.lt_size e))]
  exact Heap.get?_push_of_some _ e
 refine jd (b := b) qK I2 sb ?_ hr rv (by omega) nd fun L' xs' s2 p1 p2 p3 p4 I3 => hQ L' xs' s2 _ p1 p2 p3 (I2.hok.fresh (Nat.le_refl _)) I3
 show X.A.units + 1 + 20 < cLine
 omega
end
section
variable {P : Program} {w : World} {K : PySem.W.Frag} {mg : Str → Option Value} {base : Heap} {k : Nat} {N : List Str} {sc : Scope} {bk : Bool} {c : Ctx P w K mg base k N sc bk} {ρ : List Sl} {ap cp np pos kp kp1 : Pos} {e : Expr} {j : Nat}
theorem o8 {R : Sl → Prop} (hm : mg (Str.ofString "sorted") = none) (h : EvE c e ρ fun d => ∃ L : List Trm, d = .lst (L.map af) ∧ Sd L.Nodup (∀ L' : List Trm, L'.Perm L → dJ true L' → R (.ow (L'.map af))))
 (hg : sc.names.lookup (Str.ofString "sorted") = some .globalImplicit := by with_unfolding_all rfl)
 (he : ∀ env, starEach [e] env = (false, eval e env) :: starEach [] env := by intro _; with_unfolding_all rfl)
 (hpl : ∀ env, (backTo pos (starEach [e] env)).any (·.1) = false := by intro _; with_unfolding_all rfl) :
 EvX c (.Call (.Name (Str.ofString "sorted") np) [e] [⟨some (Str.ofString "reverse"), .Constant (.bool true) j kp1, kp⟩] pos) ρ R := fun σ H Hf Q S q pins s I => by
 have hgl : Gl c.X (Str.ofString "sorted") := by unfold Gl Env.kindOf; rw [c.esc]; exact hg
 refine wpAny_Call_Name_kw (ck I hgl (by rw [c.emg]; exact hm) (show bootBuiltins (Str.ofString "sorted") = some (.builtin "sorted") by decide +kernel) ?_ (by decide) (by decide))
 refine callWith_kw ?_ (by rw [he]; rfl) (hpl _)
 have hpa := bq (X := c.X) (e := e) (es := []) pbE cF (he _)
 refine thn (hpa pos pins s σ H (fun vs H1 => ∃ x, vs = [x] ∧ ∃ (L : List Trm) (Hf1 : Hp), Rep c.X.K Hf1 (.lst (L.map af)) x ∧ L.Nodup ∧ Grw H Hf H1 Hf1 ∧ ∀ L' : List Trm, L'.Perm L → dJ true L' → R (.ow (L'.map af))) I ?_) fun us s1 ⟨vs, H1, I1, r1, x, ex, L, Hf1, e1, e7, e8, e9⟩ => ?_
 ·exact h σ H Hf _ S fun d v H1 Hf1 ⟨L, hp, ⟨hn, hR⟩⟩ rv g => ⟨_, rfl, L, Hf1, by rw [← hp]; exact rv, hn, g, hR⟩
 ·subst ex
  obtain ⟨a0, ys, rfl, hs, hr⟩ := aI.mp e1
  have eu : us = [.ref a0] := by
   cases r1 with
   | cons q1 q2 => cases q2; cases q1; rfl
  subst eu
  refine kws_cons (thn (pY (X := c.X) (b := true) (j := j) (pos := kp1) pins s1 σ _ (fun x H2 => x = .bl true ∧ H2 = H1) I1 ⟨rfl, rfl⟩) fun kv s2 ⟨x, H2, I2, rx, e10, e11⟩ => kws_nil ?_)
  subst e10 e11
  have ek : kv = .bool true := rx
  subst ek
  refine lg (b := true) c.calm I2 e8.b ?_ hs hr e7 fun L' xs' s' a p1 p2 p3 na I3 => ?_
  ·have := c.room.un
   omega
  ·exact ⟨.ref a, _, I3, rfl, q (.ow (L'.map af)) _ _ Hf1 (e9 L' p1 p2) ⟨a, xs', rfl, e8.s.free na, ai, e8.b.free na, p3⟩ (e8.trans (Grw.dZ e8.b na))⟩
end
end EV
set_option Elab.async false
set_option linter.all false
set_option maxRecDepth 100000
namespace EV
open PySem PySem.Spec PyProof.Rows L2
def trim (l : List Int) : List Int := (l.reverse.dropWhile fun x => x == 0).reverse
theorem gv (l : List Int) : trim (l ++ [0]) = trim l := by simp [trim]
theorem j8 (l : List Int) {x : Int} (h : x ≠ 0) : trim (l ++ [x]) = l ++ [x] := by simp [trim, List.dropWhile_cons, h]
theorem gw {l : List Int} {m : Nat} (h : m < l.length) : l.take (m + 1) = l.take m ++ [l.getD m 0] := by
 rw [List.take_succ_eq_append_getElem h]; simp [List.getD_eq_getElem?_getD, h]
theorem j9 {l : List Int} {m : Nat} (h : m < l.length) (z : l.getD m 0 = 0) (e : trim (l.take (m + 1)) = trim l) : trim (l.take m) = trim l := by
 rw [gw h, z, gv] at e; exact e
theorem kc {l : List Int} {m : Nat} (h : m < l.length) (z : l.getD m 0 ≠ 0) (e : trim (l.take (m + 1)) = trim l) : l.take (m + 1) = trim l := by
 rw [← e, gw h, j8 _ z]
theorem fT (l : List Int) : (trim l).length ≤ l.length := by
 unfold trim
 rw [List.length_reverse]
 exact Nat.le_trans (List.dropWhile_sublist _).length_le (by simp)
theorem dW (l : List Int) : trim (trim l) = trim l := by
 unfold trim
 rw [List.reverse_reverse]
 congr 1
 generalize l.reverse = r
 induction r with
 | nil => rfl
 | cons x r ih => by_cases h : x == 0 <;> simp [List.dropWhile_cons, h, ih]
theorem vE {α : Type} (l : List α) {m : Nat} (h : m ≤ l.length) : EV.cutD l none (some (m : Int)) = l.take m := by
 unfold EV.cutD HT.sIx
 have e : ¬ (m : Int) < 0 := by omega
 simp only [e, if_false, Int.toNat_natCast]
 simp [Nat.min_eq_left h]
end EV
set_option Elab.async false
set_option linter.all false
set_option maxRecDepth 100000
namespace EV
open PySem PySem.Spec PyProof.Rows L2
section
variable {P : Program} {w : World} {K : PySem.W.Frag} {mg : Str → Option Value} {base : Heap} {k : Nat} {N : List Str} {sc : Scope} {bk : Bool} {c : Ctx P w K mg base k N sc bk} {ρ : List Sl} {pos ap cp px : Pos} {x : Str} {i : Nat} {nx : List Sl → Prop} {p : Pt}
theorem s_pop {r : Sl} {ds : List D} (hN : At N i x) (hi : At ρ i r) (hr : r.getL = some ds) (h : Sd (ds ≠ []) (Nx ρ i nx (r.putL ds.dropLast)))
 (hs : ∀ env, swapsWith (.Call (.Attribute (.Name x px) (Str.ofString "pop") ap) [] [] cp) none pos.line env = pure false := by intro _; with_unfolding_all rfl) (hd : (x == ("__debug__" : Str)) = false := by decide) (hcd : (x == ("__classdict__" : Str)) = false := by decide)
 (hbase : ∀ env, attributeBase (.Name x px) (Str.ofString "pop") env (eval (.Name x px) env) = eval (.Name x px) env := by intro _; with_unfolding_all rfl)
 (hline : (ap.endLine == cp.line) = true := by with_unfolding_all rfl) :
 EvS c (.Expr (.Call (.Attribute (.Name x px) (Str.ofString "pop") ap) [] [] cp) pos) ρ nx p := fun σ H Hf D S o => by
 obtain ⟨q, eq, rq⟩ := S.own hi.get (bU hr)
 obtain ⟨xs, h1, h2, h3⟩ := repL hr rq
 obtain ⟨hz, ρ', hs', hn⟩ := h
 have hl := h3.length
 have hlen : 0 < xs.length := by
  rw [← hl]; exact List.length_pos_iff.mpr hz
 obtain ⟨y, hy⟩ : ∃ y, xs[xs.length - 1]? = some y := ⟨_, List.getElem?_eq_getElem (by omega)⟩
 refine cB (g6 (t6 PySem.F.plainAttrs_list PySem.F.slot_list_pop PySem.F.type_list_pop Aj (c.mq hN hd hcd) (hbase _) hline) (hs _)) ⟨_, eq, .inl ⟨rfl, xs, .inl (.inl h1)⟩, ?_⟩
 refine ⟨q, xs, y, rfl, rfl, h1, hy, ?_⟩
 refine o.nx _ _ Hf ρ' ?_ hn
 rw [hs'.eq]
 exact S.upd hi.get (bU hr) eq (dR S.sb h2) (iP hr rq ai h2 h3.dropLast) (eF hr)
end
end EV
set_option Elab.async false
set_option linter.all false
set_option maxRecDepth 100000
namespace EV
open PySem PySem.Spec PyProof.Rows L2
def encA (A : List Trm) : List (List Key × D) := A.map fun t => (t.1.map Sum.inl, .int t.2)
theorem lu : ∀ {l m : List Int}, (l.map (Sum.inl : Int → Key)) = m.map Sum.inl → l = m
 | [], [], _ => rfl
 | x :: l, y :: m, h => by
  simp only [List.map_cons, List.cons.injEq, Sum.inl.injEq] at h
  rw [h.1, lu h.2]
 | [], _ :: _, h => by simp at h
 | _ :: _, [], h => by simp at h
theorem qL (A : List Trm) (l : List Int) : bh (encA A) (l.map Sum.inl) = (bh A l).map D.int := by
 induction A with
 | nil => rfl
 | cons t A ih =>
  by_cases e : t.1 = l
  ·rw [bH e]
   show bh ((t.1.map Sum.inl, D.int t.2) :: encA A) _ = _
   rw [bH (by rw [e])]; rfl
  ·rw [bJ e, ← ih]
   show bh ((t.1.map Sum.inl, D.int t.2) :: encA A) _ = _
   rw [bJ fun z => e (lu z)]
theorem yu (A : List Trm) (l : List Int) (n : Int) : putD (encA A) (l.map Sum.inl) (.int n) = encA (putD A l n) := by
 unfold putD
 rw [qL]
 by_cases h : (bh A l).isSome = true
 ·rw [if_pos h, if_pos (by rw [Option.isSome_map]; exact h)]
  unfold encA
  rw [List.map_map, List.map_map]
  refine List.map_congr_left fun t _ => ?_
  simp only [Function.comp]
  by_cases e : t.1 = l
  ·rw [if_pos e, if_pos (by rw [e])]
  ·rw [if_neg e, if_neg fun z => e (lu z)]
 ·rw [if_neg h, if_neg (by rw [Option.isSome_map]; exact h)]
  unfold encA
  simp
theorem gx : ∀ l : List Int, D.keys (l.map D.int) = some (l.map Sum.inl)
 | [] => rfl
 | x :: l => by
  simp only [List.map_cons]
  unfold D.keys
  rw [gx l]; rfl
theorem yv (A : List Trm) (l : List Int) (n : Int) : (putD A l n).length ≤ A.length + 1 := by
 unfold putD; split <;> simp
theorem yw (A : List Trm) : (encA A).length = A.length := by simp [encA]
theorem vF {A : List Trm} (l : List Int) (n : Int) (h : (A.map (·.1)).Nodup) : ((putD A l n).map (·.1)).Nodup := by
 unfold putD
 split
 ·rw [List.map_map]
  have e : (A.map ((·.1) ∘ fun kv : Trm => if kv.1 = l then (kv.1, n) else kv)) = A.map (·.1) := List.map_congr_left fun t _ => by
   simp only [Function.comp]; split <;> rfl
  rw [e]; exact h
 ·rename_i q
  rw [List.map_append, List.nodup_append]
  refine ⟨h, by simp, ?_⟩
  intro a ha b hb
  simp at hb
  subst hb
  intro z
  subst z
  apply q
  obtain ⟨t, ht, e⟩ := List.mem_map.mp ha
  unfold bh
  rw [Option.isSome_map, List.find?_isSome]
  exact ⟨t, ht, decide_eq_true e⟩
theorem keys_nodup {A : List Trm} (h : (A.map (·.1)).Nodup) : A.Nodup := by
 unfold List.Nodup at *
 rw [List.pairwise_map] at h
 exact h.imp fun q z => q (by rw [z])
def gy (A : List Trm) (t : Trm) : List Trm := putD A (trim t.1) ((bh A (trim t.1)).getD 0 + t.2)
def aH (ts : List Trm) : List Trm := ts.foldl gy []
theorem je (ts : List Trm) (t : Trm) : aH (ts ++ [t]) = gy (aH ts) t := by simp [aH]
theorem ly (ts : List Trm) (A : List Trm) : (ts.foldl gy A).length ≤ A.length + ts.length := by
 induction ts generalizing A with
 | nil => simp
 | cons t ts ih =>
  have h1 := ih (gy A t)
  have h2 := yv A (trim t.1) ((bh A (trim t.1)).getD 0 + t.2)
  simp only [List.foldl_cons, List.length_cons]
  unfold gy at *
  omega
theorem di (ts : List Trm) : (aH ts).length ≤ ts.length := by
 have := ly ts []
 simpa [aH] using this
theorem fU (ts : List Trm) : ((aH ts).map (·.1)).Nodup := by
 unfold aH
 have : ∀ A : List Trm, (A.map (·.1)).Nodup → ((ts.foldl gy A).map (·.1)).Nodup := by
  induction ts with
  | nil => exact fun A h => h
  | cons t ts ih => exact fun A h => ih _ (vF _ _ h)
 exact this [] (by simp)
theorem yx (x : Trm) : bM x x = false := (iy [x]).irr x (by simp)
theorem vG {x y z : Trm} (h : bM x y = true) (g : bM y z = true) : bM x z = true := (iy [x, y, z]).tr x (by simp) y (by simp) z (by simp) h g
theorem nk : ∀ {L M : List Trm}, L.Perm M → dJ true L → dJ true M → L = M
 | [], M, h, _, _ => by rw [List.nil_perm] at h; exact h.symm
 | x :: L, [], h, _, _ => by simp at h
 | x :: L, y :: M, h, h1, h2 => by
  unfold dJ gW at h1 h2
  rw [List.pairwise_cons] at h1 h2
  by_cases e : x = y
  ·subst e
   rw [nk ((List.perm_cons _).mp h) h1.2 h2.2]
  ·exfalso
   have hx : x ∈ M := by
    have := h.subset (List.mem_cons_self)
    rcases List.mem_cons.mp this with z | z
    ·exact absurd z e
    ·exact z
   have hy : y ∈ L := by
    have := h.symm.subset (List.mem_cons_self)
    rcases List.mem_cons.mp this with z | z
    ·exact absurd z.symm e
    ·exact z
   have a := h1.1 y hy
   have b := h2.1 x hx
   simp only [if_true] at a b
   have := vG a b
   rw [yx] at this; cases this
def se (t : Trm) : List Trm → List Trm
 | [] => [t]
 | x :: r => if bM x t = true then t :: x :: r else x :: se t r
def fV (L : List Trm) : List Trm := L.foldr se []
theorem jf (t : Trm) : ∀ L : List Trm, (se t L).Perm (t :: L)
 | [] => .refl _
 | x :: r => by
  unfold se
  split
  ·exact .refl _
  ·exact ((jf t r).cons x).trans (.swap _ _ _)
theorem bx : ∀ L : List Trm, (fV L).Perm L
 | [] => .refl _
 | t :: L => (jf t (fV L)).trans ((bx L).cons t)
theorem yy {x y : Trm} (h : x ≠ y) : bM x y = true ∨ bM y x = true := (iy [x, y]).tot x (by simp) y (by simp) h
theorem qM (t : Trm) : ∀ L : List Trm, t ∉ L → dJ true L → dJ true (se t L)
 | [], _, _ => List.pairwise_singleton _ _
 | x :: r, hn, h => by
  have h' := h
  unfold dJ gW at h'
  rw [List.pairwise_cons] at h'
  unfold se
  by_cases e : bM x t = true
  ·rw [if_pos e]
   unfold dJ gW
   rw [List.pairwise_cons]
   refine ⟨fun y hy => ?_, h⟩
   simp only [if_true]
   rcases List.mem_cons.mp hy with rfl | z
   ·exact e
   ·have := h'.1 y z
    simp only [if_true] at this
    exact vG this e
  ·rw [if_neg e]
   unfold dJ gW
   rw [List.pairwise_cons]
   refine ⟨fun y hy => ?_, qM t r (fun z => hn (List.mem_cons_of_mem _ z)) h'.2⟩
   rcases List.mem_cons.mp ((jf t r).subset hy) with rfl | z
   ·simp only [if_true]
    rcases yy (x := x) (y := y) (fun z => hn (by rw [z]; exact List.mem_cons_self)) with q | q
    ·exact absurd q e
    ·exact q
   ·exact h'.1 y z
theorem iz : ∀ {L : List Trm}, L.Nodup → dJ true (fV L)
 | [], _ => List.Pairwise.nil
 | t :: L, h => by
  rw [List.nodup_cons] at h
  exact qM t _ (fun z => h.1 ((bx L).subset z)) (iz h.2)
theorem o9 {L L' : List Trm} (hn : L.Nodup) (hp : L'.Perm L) (hs : dJ true L') : L' = fV L := nk (hp.trans (bx L).symm) hs (iz hn)
def nz (L : List Trm) : List Trm := L.filter fun t => t.2 != 0
theorem vH {L : List Trm} (hn : L.Nodup) : nz (fV L) = fV (nz L) :=
 o9 (List.Pairwise.filter _ hn) ((bx L).filter _) ((iz hn).filter _)
theorem encK (A : List Trm) : (Sl.oT (encA A)).mG = some (.fdT (A.map fun t => t.1.map Sum.inl) (A.map fun t => .int t.2)) := by
 show some _ = some _
 unfold encA
 rw [List.map_map, List.map_map]; rfl
theorem kg (A : List Trm) : (D.fdT (A.map fun t => t.1.map Sum.inl) (A.map fun t => .int t.2)).pairs = some (A.map af) := by
 show some _ = some _
 congr 1
 rw [List.zipWith_map, List.zipWith_self]
 refine List.map_congr_left fun t _ => ?_
 unfold af
 congr 3
 rw [List.map_map]; rfl
theorem vI {r : Sl} {A : List Trm} (h : r.oR = some (encA A)) (l : List Int) : LkP r (.tup (l.map .int)) ((bh A l).map D.int) := by
 rw [← qL]; exact .t h (gx l)
theorem vJ {A : List Trm} {l : List Int} {n : Int} (hz : A.length < sizeLine) : PtP (.oT (encA A)) (.tup (l.map .int)) (.int n) (.oT (encA (putD A l n))) := by
 rw [← yu]
 exact .t (r := .oT (encA A)) rfl (gx l) (by rw [yw]; exact hz)
theorem nq (o : Option Int) : (o.map D.int).getD (.int 0) = .int (o.getD 0) := by cases o <;> rfl
end EV
set_option Elab.async false
set_option linter.all false
set_option maxRecDepth 100000
namespace EV
open PySem PySem.Spec PySem.Calls PyProof.Rows L2
section
variable {X : Cx} {pins : List (Addr × Obj)} {σ : L2.St} {H : Hp} {s : Shared} {h' : Heap}
theorem dX {t' : Nat} {L : List Addr} (I : Inv X pins σ H s) (k : ∀ b o, b ∉ L → s.heap.get? b = some o → h'.get? b = some o) (hf : ∀ b ∈ L, cS X pins H b) : Inv X pins σ H { s with heap := h', toks := t' } := by
 have nit : ∀ b u, H b = some u → b ∉ L := fun b u e z => by rw [(hf b z).1] at e; cases e
 refine I.step (g' := s.gens) (d' := s.drawn) (ch := L) (fun b hb => ?_) (fun b o _ _ hc e _ => k b o hc e) (fun b o _ _ hc e _ => ⟨o.slots, k b o hc e⟩) (fun _ _ _ _ n => n)
  (fun b o hc e => ⟨o, k b o hc e⟩) (fun _ _ e => e) (fun _ _ _ e => e) (fun b ps e => ⟨#[], by rw [e]; simp⟩) (fun m hm => ?_) (fun b u e => ?_) I.bare
 ·obtain ⟨_, f1, _, f3, f4, f5⟩ := hf b hb
  exact ⟨f3, f1, f4, f5⟩
 ·obtain ⟨o, es, ep, ho, r⟩ := hm
  exact ⟨o, es, ep, k _ o (fun z => (hf _ z).2.1 rfl) ho, r⟩
 ·refine (I.hok b u e).stay (fun c v hc q => k c v ?_ q) (fun _ q => q) fun _ _ q => q
  rcases hc with z | z
  ·rw [z]; exact nit b u e
  ·exact nit c _ z
end
theorem bC {h : Heap} {a b : Addr} {o o' : Obj} (e : h.get? a = some o) (e' : h.get? b = some o') (n : o.cls ≠ o'.cls) : a ≠ b := by
 rintro rfl; rw [e] at e'; cases e'; exact n rfl
theorem kh {h : Heap} {z TI TO i1 i2 l1 l2 : Addr} {a b c : Value} {k1 k2 : Nat} {xs ys : Array Value} (hT : TI ≠ TO) (hi : i1 ≠ i2) (hz : IsZip h z TI TO c) (h1 : ∃ a b, IsPair h TI a b) (h2 : IsPair h TO a b)
 (h3 : h.IsListIter i1 l1 k1) (h4 : h.IsListIter i2 l2 k2) (h5 : h.IsList l1 xs) (h6 : h.IsList l2 ys) : ZipApart z TI TO i1 i2 l1 l2 := by
 obtain ⟨_, _, h1⟩ := h1
 obtain ⟨o3, e3, c3, _⟩ := h3
 obtain ⟨o4, e4, c4, _⟩ := h4
 obtain ⟨o5, e5, c5, _⟩ := h5
 obtain ⟨o6, e6, c6, _⟩ := h6
 exact {
  TIz := bC h1 hz (by simp)
  TOz := bC h2 hz (by simp)
  i1z := bC e3 hz (by rw [c3]; simp)
  i2z := bC e4 hz (by rw [c4]; simp)
  TITO := hT
  TIi1 := bC h1 e3 (by rw [c3]; simp)
  TIi2 := bC h1 e4 (by rw [c4]; simp)
  TOi1 := bC h2 e3 (by rw [c3]; simp)
  TOi2 := bC h2 e4 (by rw [c4]; simp)
  i12 := hi
  l1z := bC e5 hz (by rw [c5]; simp)
  l1TO := bC e5 h2 (by rw [c5]; simp)
  l1i1 := bC e5 e3 (by rw [c5, c3]; simp)
  l1i2 := bC e5 e4 (by rw [c5, c4]; simp)
  l2z := bC e6 hz (by rw [c6]; simp)
  l2TO := bC e6 h2 (by rw [c6]; simp)
  l2i1 := bC e6 e3 (by rw [c6, c3]; simp)
  l2i2 := bC e6 e4 (by rw [c6, c4]; simp) }
def Itz (K : PySem.W.Frag) (l1 l2 : Addr) : It :=
 ⟨fun i H => ∃ xs ys x y, SqL K H l1 xs ∧ SqL K H l2 ys ∧ xs[i]? = some x ∧ ys[i]? = some y,
  fun i H v H' => ∃ p x y, v = .ref p ∧ H p = none ∧ H' = upd H p (.tup [x, y]) ∧ (∀ xs, SqL K H l1 xs → xs[i]? = some x) ∧ ∀ ys, SqL K H l2 ys → ys[i]? = some y,
  fun i H => ∃ xs ys, SqL K H l1 xs ∧ SqL K H l2 ys ∧ (xs.length ≤ i ∨ ys.length ≤ i)⟩
theorem vK {P : Program} {w : World} {K : PySem.W.Frag} {elts : List Expr} {k : Nat} {pos : Pos} {z TI TO i1 i2 l1 l2 : Addr} (hT : TI ≠ TO) (hi12 : i1 ≠ i2) :
 Turn P w K (.Tuple elts k pos) (Itz K l1 l2) [z, TI, TO, i1, i2] z (fun i h => IsZip h z TI TO .none ∧ IsPair h TI (.ref i1) (.ref i2) ∧ (∃ a b, IsPair h TO a b) ∧ h.IsListIter i1 l1 i ∧ h.IsListIter i2 l2 i) where
 mem := by simp
 obj := fun i h ⟨hz, hTI, ⟨a, b, hTO⟩, ⟨o1, e1, _, d1⟩, ⟨o2, e2, _, d2⟩⟩ b hb => by
  simp only [List.mem_cons, List.not_mem_nil, or_false] at hb
  rcases hb with rfl | rfl | rfl | rfl | rfl
  ·exact ⟨_, hz, fun v q => by have q' : Data.fields _ = Data.cell v := q; cases q'⟩
  ·exact ⟨_, hTI, fun v q => by have q' : Data.seq _ _ = Data.cell v := q; cases q'⟩
  ·exact ⟨_, hTO, fun v q => by have q' : Data.seq _ _ = Data.cell v := q; cases q'⟩
  ·exact ⟨_, e1, fun v q => by rw [d1] at q; cases q⟩
  ·exact ⟨_, e2, fun v q => by rw [d2] at q; cases q⟩
 keep := fun i h h' ⟨hz, hTI, ⟨a, b, hTO⟩, h1, h2⟩ hk => ⟨hk z (by simp) _ hz, hk TI (by simp) _ hTI, ⟨a, b, hk TO (by simp) _ hTO⟩, h1.at fun o e => hk i1 (by simp) o e, h2.at fun o e => hk i2 (by simp) o e⟩
 item := by
  intro X hP hw hK hc i pins s σ H E I hf st hg
  subst hP hw hK
  obtain ⟨hz, hTI, ⟨a, b, hTO⟩, h1, h2⟩ := st
  obtain ⟨xs, ys, x, y, q1, q2, hx, hy⟩ := hg
  obtain ⟨its1, rv1, p1, z1⟩ := I.list q1
  obtain ⟨its2, rv2, p2, z2⟩ := I.list q2
  obtain ⟨u1, hu1, ru1⟩ := rv1.get hx
  obtain ⟨u2, hu2, ru2⟩ := rv2.get hy
  have D := kh hT hi12 hz ⟨_, _, hTI⟩ hTO h1 h2 p1.isList p2.isList
  refine wpAny_pyNext_zip_item D hz hTI hTO h1 h2 p1.isList p2.isList (x := u1) (y := u2) (by simpa using hu1) (by simpa using hu2) fun h' a1 a2 a3 a4 a5 a6 hk => ?_
  have Hp : H s.heap.objs.size = none := I.hok.fresh (Nat.le_refl _)
  have IA : Inv X pins σ (upd H s.heap.objs.size (.tup [x, y])) { s with heap := s.heap.push { cls := .type "tuple", data := .seq #[u1, u2] }, toks := s.toks } :=
   I.laid (a := s.heap.objs.size) (o := .tup [x, y]) (fun _ _ q => Heap.get?_push_of_some _ q) (Nat.le_refl _) ⟨by show 2 ≤ sizeLine; decide, [u1, u2], .cons ru1 (.cons ru2 .nil), _, Heap.get?_push_size _ rfl, rfl, 0, rfl⟩
  have lt : ∀ b ∈ [z, TI, TO, i1, i2], b < s.heap.objs.size := fun b hb => by
   obtain ⟨o1, e1, _⟩ := h1
   obtain ⟨o2, e2, _⟩ := h2
   simp only [List.mem_cons, List.not_mem_nil, or_false] at hb
   rcases hb with rfl | rfl | rfl | rfl | rfl
   ·exact Heap.lt_size hz
   ·exact Heap.lt_size hTI
   ·exact Heap.lt_size hTO
   ·exact Heap.lt_size e1
   ·exact Heap.lt_size e2
  have gf : ∀ b ∈ [z, TI, TO, i1, i2], cS X pins (upd H s.heap.objs.size (.tup [x, y])) b := fun b hb => ⟨by rw [ah (Nat.ne_of_lt (lt b hb))]; exact (hf b hb).1, (hf b hb).2⟩
  have I1 : Inv X pins σ (upd H s.heap.objs.size (.tup [x, y])) { s with heap := h', toks := s.toks } := dX (s := { s with heap := s.heap.push { cls := .type "tuple", data := .seq #[u1, u2] }, toks := s.toks }) (t' := s.toks) (h' := h') (L := [z, TI, TO, i1, i2]) IA (fun b o hb q => by
   simp only [List.mem_cons, List.not_mem_nil, or_false, not_or] at hb
   by_cases e : b = s.heap.objs.size
   ·subst e
    rw [Heap.get?_push_size _ rfl] at q; cases q; exact a5
   ·refine hk b o hb.1 hb.2.2.1 hb.2.2.2.1 hb.2.2.2.2 ?_
    rw [Heap.get?_push_ne _ _ _ e] at q; exact q) gf
  have b1 : IsPair h' TI (.ref i1) (.ref i2) := hk _ _ D.TIz D.TITO D.TIi1 D.TIi2 hTI
  refine ⟨_, rfl, wpAny_letOwnedTupleGo_zip (s := { s with heap := h' }) a1 fun h2' hz' hs' => ?_⟩
  refine ⟨.ref s.heap.objs.size, _, dX (s := { s with heap := h', toks := s.toks }) (t' := s.toks) (h' := h2') (L := [z, TI, TO, i1, i2]) I1 (fun b o hb q => hs'.extBut b o (fun e => hb (by simp [e])) q) gf, rfl,
   ⟨_, x, y, rfl, Hp, rfl, fun xs' h => by rw [I.fy h q1]; exact hx, fun ys' h => by rw [I.fy h q2]; exact hy⟩,
   ⟨hz', hs'.extBut _ _ D.TIz b1, ⟨_, _, hs'.extBut _ _ D.TOz a2⟩, a3.extBut hs'.extBut D.i1z, a4.extBut hs'.extBut D.i2z⟩, fun b hb => (gf b hb).1⟩
 done := by
  intro X hP hw hK hc i pins s σ H E I hf st hg
  subst hP hw hK
  obtain ⟨hz, hTI, ⟨a, b, hTO⟩, h1, h2⟩ := st
  obtain ⟨xs, ys, q1, q2, hend⟩ := hg
  obtain ⟨its1, rv1, p1, z1⟩ := I.list q1
  obtain ⟨its2, rv2, p2, z2⟩ := I.list q2
  have D := kh hT hi12 hz ⟨_, _, hTI⟩ hTO h1 h2 p1.isList p2.isList
  have l1 := rv1.length
  have l2 := rv2.length
  refine wpAny_pyNext_zip_end (I.ok.hd hc) D hz hTI hTO h1 h2 p1.isList p2.isList (by simp; omega) fun h' hk => ⟨rfl, dX (t' := s.toks) (L := [z, TI, TO, i1, i2]) I (fun b o hb q => ?_) hf⟩
  simp only [List.mem_cons, List.not_mem_nil, or_false, not_or] at hb
  exact hk b o hb.1 hb.2.2.1 hb.2.2.2.1 hb.2.2.2.2 q
 self := fun A i s Q E st h => wpAny_pyIter_zip st.1 h
end EV
set_option Elab.async false
set_option linter.all false
set_option maxRecDepth 100000
namespace EV
open PySem PySem.Spec PySem.Calls PyProof.Rows L2
def sj (ds es : List D) : List D := List.zipWith (fun x y => D.tup [x, y]) ds es
theorem vL {K : PySem.W.Frag} {Hf : Hp} {ds es : List D} {xs ys : List V} {l1 l2 : Addr} (h1 : SqL K Hf l1 xs) (r1 : aj K Hf ds xs) (h2 : SqL K Hf l2 ys) (r2 : aj K Hf es ys) : gS K (Itz K l1 l2) (sj ds es) Hf where
 go := fun i d H Hf1 s1 s2 e => by
  unfold sj at e
  rw [List.getElem?_zipWith_eq_some] at e
  obtain ⟨x, y, ex, ey, rfl⟩ := e
  obtain ⟨v1, f1, g1⟩ := r1.get ex
  obtain ⟨v2, f2, g2⟩ := r2.get ey
  have q1 := (s1.trans s2).seq h1
  have q2 := (s1.trans s2).seq h2
  refine ⟨⟨xs, ys, v1, v2, q1, q2, f1, f2⟩, fun v H' ⟨p, x', y', e1, e2, e3, e4, e5⟩ => ?_⟩
  have z1 := e4 xs q1
  have z2 := e5 ys q2
  rw [f1] at z1; cases z1
  rw [f2] at z2; cases z2
  subst e1 e3
  have g := Grw.new s2 e2 (o := .tup [v1, v2])
  exact ⟨upd Hf1 p (.tup [v1, v2]), g, aA.mpr ⟨p, _, rfl, .inl (.inl ai), .cons (Rep.mono (s1.trans g.f) _ g1) (.cons (Rep.mono (s1.trans g.f) _ g2) (av.mpr rfl))⟩⟩
 stop := fun i H Hf1 s1 s2 e => ⟨xs, ys, (s1.trans s2).seq h1, (s1.trans s2).seq h2, by
  rw [← r1.length, ← r2.length]
  unfold sj at e
  rw [List.length_zipWith] at e
  omega⟩
theorem boot_zip : bootBuiltins "zip" = some (.type "zip") := by decide +kernel
def iZip (K : PySem.W.Frag) (ta : TA) : TI := fun σ H R => ta σ H fun vs H1 => ∃ l1 l2 xs ys, vs = [.ref l1, .ref l2] ∧ SqL K H1 l1 xs ∧ SqL K H1 l2 ys ∧ R (Itz K l1 l2) H1
theorem A7 {X : Cx} {elts : List Expr} {kt : Nat} {tpos : Pos} {a b : Expr} {ta : TA} {p pos : Pos} (hg : Gl X "zip") (hm : X.mg "zip" = none) (ha : PA X [a, b] ta) (hs : starEach [a, b] X.env = [(false, eval a X.env), (false, eval b X.env)]) (hs2 : starEach [b] X.env = [(false, eval b X.env)]) :
 PI X (.Tuple elts kt tpos) (.Call (.Name "zip" p) [a, b] [] pos) (iZip X.K ta) := by
 intro pins s σ H R I h
 refine Call_ (ck I hg hm boot_zip (PyProof.Rows.callWith_type1 (thn (ha pos pins s σ H _ I h) fun us s1 ⟨vs, H1, I1, r1, q1⟩ => ?_) (by rw [hs, hs2]) (by rw [hs2]; rfl)))
 obtain ⟨l1, l2, xs, ys, e, q1, q2, q⟩ := q1
 subst e
 cases r1 with
 | cons r rr =>
  cases rr with
  | cons r' rr =>
   cases rr
   cases r
   cases r'
   obtain ⟨its1, rv1, p1, z1⟩ := I1.list q1
   obtain ⟨its2, rv2, p2, z2⟩ := I1.list q2
   refine call_zip_2 p1.isList p2.isList fun h' a1 a2 a3 a4 a5 a6 hk => wpAny_pyIter_zip a1 ?_
   refine ⟨s1.heap.objs.size + 4, [s1.heap.objs.size + 4, s1.heap.objs.size + 2, s1.heap.objs.size + 3, s1.heap.objs.size, s1.heap.objs.size + 1], _, _, H1, rfl, I1.kept (t' := s1.toks) hk, vK (fun e => absurd (Nat.add_left_cancel e) (by decide)) (Nat.ne_of_lt (Nat.lt_succ_self _)), ⟨a1, a2, ⟨_, _, a3⟩, a4, a5⟩, fun b hb => ?_, q⟩
   have hb' : s1.heap.objs.size ≤ b := by
    simp only [List.mem_cons, List.not_mem_nil, or_false] at hb
    rcases hb with rfl | rfl | rfl | rfl | rfl
    ·exact Nat.le_add_right _ _
    ·exact Nat.le_add_right _ _
    ·exact Nat.le_add_right _ _
    ·exact Nat.le_refl _
    ·exact Nat.le_add_right _ _
   exact I1.jy hb' (I1.hok.fresh hb')
section
variable {P : Program} {w : World} {K : PySem.W.Frag} {mg : Str → Option Value} {base : Heap} {k : Nat} {N : List Str} {sc : Scope} {bk : Bool} {c : Ctx P w K mg base k N sc bk} {ρ : List Sl} {pos tpos p : Pos} {a b : Expr} {elts : List Expr} {kt : Nat}
theorem i_zip {R : List D → Prop} (hm : mg (Str.ofString "zip") = none) (h : EvE c a ρ fun x => EvE c b ρ fun y => ∃ ds es, x = .lst ds ∧ y = .lst es ∧ R (sj ds es)) (hg : sc.names.lookup (Str.ofString "zip") = some .globalImplicit := by with_unfolding_all rfl)
 (hs : ∀ env, starEach [a, b] env = (false, eval a env) :: starEach [b] env := by intro _; with_unfolding_all rfl) (hs2 : ∀ env, starEach [b] env = (false, eval b env) :: starEach [] env := by intro _; with_unfolding_all rfl) : EvI c (.Tuple elts kt tpos) (.Call (.Name (Str.ofString "zip") p) [a, b] [] pos) ρ R := fun σ H Hf Q S q pins s I =>
 A7 (by unfold Gl Env.kindOf; rw [c.esc]; exact hg) (by rw [c.emg]; exact hm) (bq pbE (bq pbE cF (hs2 _)) (hs _)) (by rw [hs, hs2]; rfl) (by rw [hs2]; rfl) pins s σ H Q I
  (h σ H Hf _ S fun x v1 H1 Hf1 h1 r1 g1 => h1 σ H1 Hf1 _ (S.grw g1) fun y v2 H2 Hf2 ⟨ds, es, e1, e2, hR⟩ r2 g2 => by
    subst e1 e2
    rw [aI] at r1 r2
    obtain ⟨l1, xs, rfl, s1, t1⟩ := r1
    obtain ⟨l2, ys, rfl, s2, t2⟩ := r2
    have s1' := g2.f.seq s1
    exact ⟨l1, l2, xs, ys, rfl, g2.b.seq s1', g2.b.seq s2, q _ _ H2 Hf2 hR (g1.trans g2) (vL s1' (t1.mono g2.f) s2 t2)⟩)
end
end EV
set_option Elab.async false
set_option linter.all false
set_option maxRecDepth 100000
namespace EV
open PySem PySem.Spec PySem.Calls PyProof.Rows L2
theorem gO {K : PySem.W.Frag} {H : Hp} : ∀ {bs : List Bool} {xs : List V}, aj K H (bs.map D.bl) xs → xs = bs.map V.bl
 | [], xs, h => by rw [List.map_nil, av] at h; subst h; rfl
 | b :: bs, xs, h => by
  rw [List.map_cons, az] at h
  obtain ⟨x, r, rfl, h1, h2⟩ := h
  rw [bQ] at h1
  rw [h1, gO h2]; rfl
theorem nv : ∀ {bs : List Bool} {us : List Value}, Vals (bs.map V.bl) us → us = bs.map Value.bool
 | [], _, h => by cases h; rfl
 | b :: bs, _, h => by
  cases h with
  | cons q t =>
   cases q
   rw [nv t]; rfl
theorem range_all (bs : List Bool) : (List.range bs.length).all (fun i => bs.getD i true) = bs.all id := by
 induction bs with
 | nil => rfl
 | cons b bs ih =>
  rw [List.length_cons, List.range_succ_eq_map, List.all_cons, List.all_map, List.all_cons, ← ih]
  rfl
theorem sq {X : Cx} (hc : X.calm = true) : bV X (.builtin "all") (fun xs H Q => ∃ (p : Addr) (bs : List Bool), xs = [.ref p] ∧ SqL X.K H p (bs.map V.bl) ∧ Q (.bl (bs.all id)) H) := by
 intro pins s σ H xs us Q I r h
 obtain ⟨p, bs, rfl, hq, q⟩ := h
 obtain ⟨u, rfl, rx⟩ := vals1 r
 cases rx
 obtain ⟨its, rv, pl, hz⟩ := I.list hq
 have e := nv rv
 subst e
 have hlt : p < s.heap.objs.size := by obtain ⟨o, e, _⟩ := pl.isList; exact Heap.lt_size e
 refine call_all_walk (wpAny_pyIter_list pl.isList ?_)
 have hh : X.A.in1.handled = none := I.ok.hd hc
 refine ⟨_, _, _, _, _, _, fun i => bs.getD i true, rfl, Walks.list hh s.heap.objs.size p (Nat.ne_of_lt hlt) (bs.map Value.bool).toArray, ⟨⟨_, Heap.get?_push_size _ rfl, rfl, rfl⟩, pl.isList.at fun o e => Heap.get?_push_of_some _ e⟩, ?_, ?_⟩
 ·intro i v s Q E hP hQ
  have hP' : (bs.map Value.bool)[i]? = some v := by simpa using hP
  rw [List.getElem?_map, Option.map_eq_some_iff] at hP'
  obtain ⟨b, hb, rfl⟩ := hP'
  have e : bs.getD i true = b := by rw [List.getD_eq_getElem?_getD, hb]; rfl
  have hQ' : Q (bs.getD i true) s := hQ
  rw [e] at hQ'
  exact wpAny_truthy_bool hQ'
 ·intro h' tk hk
  have es : (bs.map Value.bool).toArray.size = bs.length := by simp
  rw [es, range_all]
  exact ⟨.bl (bs.all id), H, I.kept (h' := h') (t' := tk) (fun b u e => hk b u (by simpa using Nat.ne_of_lt (Heap.lt_size e)) (Heap.get?_push_of_some _ e)), rfl, q⟩
section
variable {P : Program} {w : World} {K : PySem.W.Frag} {mg : Str → Option Value} {base : Heap} {k : Nat} {N : List Str} {sc : Scope} {bk : Bool} {c : Ctx P w K mg base k N sc bk} {ρ : List Sl} {pos p : Pos} {e : Expr} {R : D → Prop}
theorem boot_all : bootBuiltins "all" = some (.builtin "all") := by decide +kernel
theorem e_all (hm : mg (Str.ofString "all") = none) (h : EvE c e ρ fun x => ∃ bs : List Bool, x = .lst (bs.map D.bl) ∧ R (.bl (bs.all id))) (hg : sc.names.lookup (Str.ofString "all") = some .globalImplicit := by with_unfolding_all rfl)
 (he : ∀ env, starEach [e] env = (false, eval e env) :: starEach [] env := by intro _; with_unfolding_all rfl) : EvE c (.Call (.Name (Str.ofString "all") p) [e] [] pos) ρ R :=
 jW (sq c.calm) (q := fun ds R => ∃ bs : List Bool, ds = [.lst (bs.map D.bl)] ∧ R (.bl (bs.all id))) (by
  rintro ds vs H Hf Q R s rs ⟨bs, rfl, hR⟩ q
  obtain ⟨v, rfl, rv⟩ := jV rs
  rw [aI] at rv
  obtain ⟨a, xs, rfl, h1, h2⟩ := rv
  rw [gO h2] at h1
  exact ⟨a, bs, rfl, s.seq h1, q _ _ H Hf hR (bQ.mpr rfl) (.refl s)⟩) hm boot_all (bR (h.imp fun d ⟨bs, e, hR⟩ => fD ⟨bs, by rw [e], hR⟩) he) hg (by decide) (by decide) he (by intro _; with_unfolding_all rfl)
end
end EV
set_option Elab.async false
set_option linter.all false
set_option maxRecDepth 100000
namespace EV
open PySem PySem.Spec PyProof.Rows L2
theorem qN {A : List Trm} {l : List Int} {n : Int} {t : Trm} (h : t ∈ putD A l n) : t.1 = l ∨ t ∈ A := by
 unfold putD at h
 split at h
 ·obtain ⟨u, hu, e⟩ := List.mem_map.mp h
  split at e
  ·rename_i q; subst e; exact .inl q
  ·subst e; exact .inr hu
 ·rcases List.mem_append.mp h with q | q
  ·exact .inr q
  ·simp at q; subst q; exact .inl rfl
theorem lz {n : Nat} {ts : List Trm} (hl : ∀ t ∈ ts, t.1.length ≤ n) : ∀ t ∈ aH ts, trim t.1 = t.1 ∧ t.1.length ≤ n := by
 unfold aH
 suffices H : ∀ A : List Trm, (∀ t ∈ A, trim t.1 = t.1 ∧ t.1.length ≤ n) → ∀ t ∈ ts.foldl gy A, trim t.1 = t.1 ∧ t.1.length ≤ n from H [] (by simp)
 induction ts with
 | nil => exact fun A h => h
 | cons u ts ih =>
  refine fun A h => ih (fun t ht => hl t (List.mem_cons_of_mem _ ht)) _ fun t ht => ?_
  rcases qN ht with e | e
  ·rw [e, dW]
   exact ⟨rfl, Nat.le_trans (fT _) (hl u List.mem_cons_self)⟩
  ·exact h t e
def bf (ts : List Trm) : List Trm := fV (nz (aH ts))
theorem ki (ts : List Trm) : (bf ts).Perm (nz (aH ts)) := bx _
theorem jg {ts : List Trm} {t : Trm} (h : t ∈ bf ts) : t ∈ aH ts ∧ t.2 ≠ 0 := by
 have := (ki ts).subset h
 unfold nz at this
 rw [List.mem_filter] at this
 exact ⟨this.1, by simpa using this.2⟩
theorem dM (ts : List Trm) : (bf ts).length ≤ ts.length := by
 rw [(ki ts).length_eq]
 exact Nat.le_trans (List.length_filter_le _ _) (di ts)
theorem ny {n : Nat} {ts : List Trm} (h : ∀ t ∈ ts, t.1.length ≤ n) : ∀ t ∈ bf ts, t.1.length ≤ n := fun t ht => (lz h t (jg ht).1).2
end EV
set_option Elab.async false
set_option linter.all false
set_option maxRecDepth 100000
namespace EV
open PySem PySem.Spec PySem.Calls PyProof.Rows L2
theorem qO {K : PySem.W.Frag} {f : Int → Int → Int} : uD K (fun xs H Q => ∃ i j, xs = [.int i, .int j] ∧ Q (.int (f i j)) H) (fun ds R => ∃ i j : Int, ds = [.int i, .int j] ∧ R (.int (f i j))) := by
 rintro ds vs H Hf Q R s rs ⟨i, j, rfl, hR⟩ q
 obtain ⟨v, r, rfl, r1, r2⟩ := az.mp rs
 obtain ⟨v', r', rfl, r1', r2'⟩ := az.mp r2
 rw [av] at r2'
 subst r2'
 rw [ak] at r1 r1'
 subst r1 r1'
 exact ⟨i, j, rfl, q _ _ H Hf hR (ak.mpr rfl) (.refl s)⟩
section
variable {P : Program} {w : World} {K : PySem.W.Frag} {mg : Str → Option Value} {base : Heap} {k : Nat} {N : List Str} {sc : Scope} {bk : Bool} {c : Ctx P w K mg base k N sc bk} {ρ : List Sl} {pos p : Pos} {a b : Expr} {R : D → Prop}
theorem boot_max : bootBuiltins "max" = some (.builtin "max") := by decide +kernel
theorem boot_min : bootBuiltins "min" = some (.builtin "min") := by decide +kernel
theorem A8 (hm : mg (Str.ofString "max") = none) (h : EvE c a ρ fun x => EvE c b ρ fun y => I2 (fun i j => R (.int (if j > i then j else i))) x y) (hg : sc.names.lookup (Str.ofString "max") = some .globalImplicit := by with_unfolding_all rfl)
 (he : ∀ env, starEach [a, b] env = (false, eval a env) :: starEach [b] env := by intro _; with_unfolding_all rfl) (he2 : ∀ env, starEach [b] env = (false, eval b env) :: starEach [] env := by intro _; with_unfolding_all rfl)
 (hpl : ∀ env, (backTo pos (starEach [b] env)).any (·.1) = false := by intro _; with_unfolding_all rfl) : EvE c (.Call (.Name (Str.ofString "max") p) [a, b] [] pos) ρ R :=
 jW (rC c.calm) (qO (f := fun i j => if j > i then j else i)) hm boot_max (bR (h.imp fun x h1 => bR (h1.imp fun y ⟨i, j, e1, e2, hR⟩ => fD ⟨i, j, by rw [e1, e2], hR⟩) he2) he) hg (by decide) (by decide) he hpl
theorem A9 (hm : mg (Str.ofString "min") = none) (h : EvE c a ρ fun x => EvE c b ρ fun y => I2 (fun i j => R (.int (if j < i then j else i))) x y) (hg : sc.names.lookup (Str.ofString "min") = some .globalImplicit := by with_unfolding_all rfl)
 (he : ∀ env, starEach [a, b] env = (false, eval a env) :: starEach [b] env := by intro _; with_unfolding_all rfl) (he2 : ∀ env, starEach [b] env = (false, eval b env) :: starEach [] env := by intro _; with_unfolding_all rfl)
 (hpl : ∀ env, (backTo pos (starEach [b] env)).any (·.1) = false := by intro _; with_unfolding_all rfl) : EvE c (.Call (.Name (Str.ofString "min") p) [a, b] [] pos) ρ R :=
 jW (rD c.calm) (qO (f := fun i j => if j < i then j else i)) hm boot_min (bR (h.imp fun x h1 => bR (h1.imp fun y ⟨i, j, e1, e2, hR⟩ => fD ⟨i, j, by rw [e1, e2], hR⟩) he2) he) hg (by decide) (by decide) he hpl
theorem zA (h : EvE c a ρ fun x => EvE c b ρ fun y => I2 (fun i j => Sd (tR i j) (R (.int (i * 2 ^ j.toNat)))) x y) : EvE c (.BinOp a .LShift b pos) ρ R :=
 gH (kL Aa jT (h.imp fun x hx => hx.imp fun y ⟨i, j, e1, e2, ⟨hc, r⟩⟩ => ⟨i, j, e1, e2, hc, _, rfl, r⟩))
theorem zB (h : EvE c a ρ fun x => EvE c b ρ fun y => I2 (fun i j => Sd (0 ≤ j) (R (.int (i / 2 ^ j.toNat)))) x y) : EvE c (.BinOp a .RShift b pos) ρ R :=
 gH (kL Ab jT (h.imp fun x hx => hx.imp fun y ⟨i, j, e1, e2, ⟨hc, r⟩⟩ => ⟨i, j, e1, e2, hc, _, rfl, r⟩))
theorem vM (h : EvE c a ρ fun x => EvE c b ρ fun y => I2 (fun i j => R (.int (Builtin.bitAnd i j))) x y) : EvE c (.BinOp a .BitAnd b pos) ρ R :=
 gH (kL Ac uv (h.imp fun x hx => hx.imp fun y ⟨i, j, e1, e2, r⟩ => ⟨i, j, e1, e2, _, rfl, r⟩))
end
end EV
set_option Elab.async false
set_option linter.all false
set_option maxRecDepth 100000
namespace EV
open PySem PySem.Spec PySem.Calls PyProof.Rows L2
abbrev FnM := List (Key × D) → List D → List (Key × D) → Prop
def spM (K : PySem.W.Frag) (F : FnM) : Sp := fun vs H Q _ => ∃ Hf p kvs xs us ds kvs', vs = .ref p :: us ∧ aC Hf H ∧ H p = some (.dK xs) ∧ Hf p = none ∧ KVR K Hf kvs xs ∧ aj K Hf ds us ∧ F kvs ds kvs' ∧
 ∀ H' Hf' xs', Grw (del H p) Hf H' Hf' → H' p = some (.dK xs') → Hf' p = none → KVR K Hf' kvs' xs' → Q .non H'
structure yz (P : Program) (w : World) (K : PySem.W.Frag) (mg : Str → Option Value) (base : Heap) (k : Nat) (x : Str) (F : FnM) : Prop where
 ex : ∃ f fd ps, mg x = some (.ref f) ∧ PySem.W.keepIn K (.ref f) = true ∧ Binds K fd ps [] ∧ aX P w K mg base (CXE P w) k f fd ps (spM K F)
def startM (q : Addr) (kvs : List (Key × D)) (N : List Str) (ds : List D) : List Sl := .aK q kvs :: (ds.map .va ++ List.replicate (N.length - (ds.length + 1)) .un)
theorem su {K : PySem.W.Frag} {H Hf : Hp} {N : List Str} {us : List V} {ds : List D} {q : Addr} {kvs : List (Key × D)} {xs : List (Key × V)} (r : aj K Hf ds us) (sb : aC Hf H) (h1 : H q = some (.dK xs)) (h2 : Hf q = none) (h3 : KVR K Hf kvs xs) :
 StR K (del H q) Hf (L2.start N (.ref q :: us)) H Hf (startM q kvs N ds) := by
 have hl := r.length
 have rest : ∀ (i : Nat) (r' : Sl), (startM q kvs N ds)[i + 1]? = some r' → r' ≠ .un → ∃ d, ds[i]? = some d ∧ r' = .va d := fun i r' h hu => by
  have h' : (ds.map Sl.va ++ List.replicate (N.length - (ds.length + 1)) Sl.un)[i]? = some r' := by simpa [startM] using h
  by_cases w : i < ds.length
  ·rw [List.getElem?_append_left (by simpa using w), List.getElem?_map, List.getElem?_eq_getElem w] at h'
   cases h'
   exact ⟨_, by simp, rfl⟩
  ·rw [List.getElem?_append_right (by simp; omega)] at h'
   exact absurd (List.eq_of_mem_replicate (List.mem_of_getElem? h')) hu
 refine ⟨⟨fun b o e => (fH e).2, .refl _, sb, fun _ h _ _ => h⟩, by simp [L2.start, startM, hl], fun i r' h hu => ?_, fun i j r1 r2 p hne e1 e2 o1 o2 => ?_⟩
 ·cases i with
  | zero =>
   have : r' = .aK q kvs := by simpa [startM] using h.symm
   subst this
   exact ⟨.ref q, by simp [L2.start], q, xs, rfl, ⟨fG, rfl⟩, h1, h2, h3⟩
  | succ i =>
   obtain ⟨d, hd, rfl⟩ := rest i r' h hu
   obtain ⟨x, e2, rx⟩ := r.get hd
   refine ⟨x, ?_, rx⟩
   have hi : i < us.length := (List.getElem?_eq_some_iff.mp e2).1
   unfold L2.start
   rw [List.getElem?_append_left (by simp; omega)]
   simp [e2]
 ·exfalso
  have own : ∀ {i : Nat} {r : Sl}, (startM q kvs N ds)[i]? = some r → r.owned = true → i = 0 := fun {i r} h ho => by
   cases i with
   | zero => rfl
   | succ i =>
    obtain ⟨d, _, rfl⟩ := rest i r h (by rintro rfl; cases ho)
    cases ho
  exact hne ((own e1 o1).trans (own e2 o2).symm)
section
variable {P : Program} {w : World} {K : PySem.W.Frag} {mg : Str → Option Value} {base : Heap} {k : Nat} {N : List Str} {sc : Scope} {bk : Bool} {c : Ctx P w K mg base k N sc bk} {ρ : List Sl} {pos cp px py : Pos} {es : List Expr} {nx : List Sl → Prop} {p : Pt} {x y : Str} {i : Nat}
theorem fn_m {qual : Str} {st : Stmt} {f : Addr} {fd : FuncData} {ps : List Str} {F : FnM} (Fu : Fun K x qual st f fd) (Sc : aD N ps (aa st)) (Vi : ∀ x ∈ N, Loc (aa st) x) (ar : ∀ kvs ds kvs', F kvs ds kvs' → ds.length + 1 = ps.length)
 (body : ∀ (c : Ctx P w K mg base k N (aa st) false), c.X.xe = (fun _ _ => False) → ∀ q kvs ds kvs', F kvs ds kvs' → bu c (aB st) (startM q kvs N ds) (fun ρ => ∃ r, ρ = .aK q kvs' :: r) { rt := fun _ => False }) :
 aX P w K mg base (CXE P w) (k + 1) f fd ps (spM K F) := by
 obtain ⟨oc, od, kV, doc, pm, an, cdv, ct, osl, rfl, lk, hcd⟩ := Fu.ex
 refine tT lk hcd Sc (fun vs H Q E ⟨Hf, q, kvs, xs, us, ds, kvs', e, _, _, _, _, rs, hF, _⟩ => by rw [e, List.length_cons, ← rs.length]; exact ar _ _ _ hF) fun A outer s H vs Q E hr ⟨Hf, q, kvs, xs, us, ds, kvs', e, sb, h1, h2, h3, rs, hF, hq⟩ => ?_
 subst e
 let X : Cx := (lT (CXE P w) P w K mg base N qual (aa st) f cdv A outer s H E).nox
 let c : Ctx P w K mg base k N (aa st) false :=
  { X := X, eP := rfl, ew := rfl, eK := rfl, emg := rfl, eb := rfl, eN := rfl, esc := rfl, calm := rfl, top := fun _ => ⟨rfl, rfl, rfl⟩, cb := fun _ _ _ _ _ I x c h => I.ok.cab x c rfl h, fn := fun _ _ => .inl rfl, B := del H q, room := hr, nd := Sc.nd, vis := Vi, Hf := Hf, RX := fun _ _ => False, exc := fun _ _ _ _ _ _ _ _ _ _ _ _ h _ _ => h.elim, RM := fun _ _ => False, mde := fun _ _ _ _ _ _ _ _ _ _ _ _ h _ => h.elim }
 refine ⟨_, PSs.nox (t := bSs X (aB st)) (oN (X := X)), ?_⟩
 refine body c rfl q kvs ds kvs' hF (L2.start N (.ref q :: us)) H Hf _ (su rs sb h1 h2 h3) ⟨fun σ H' Hf' ρ S ⟨r, e⟩ => ?_, fun r v H' Hf' g rv e => e.elim, fun _ _ _ _ _ h => h.elim, fun _ _ _ _ _ h => h.elim⟩
 subst e
 obtain ⟨v, _, q', xs', _, ⟨_, rfl⟩, a1, a2, a3⟩ := S.at_ 0 _ rfl (by simp)
 exact hq H' Hf' xs' S.bas a1 a2 a3
theorem yC {F : FnM} {j : Nat} {r : Sl} {kvs : List (Key × D)} (h : yz P w K mg base j x F) (hj : j ≤ k) (hN : At N i y) (hi : At ρ i r) (hr : r.oQ = some kvs)
 (ha : EvA c es ρ fun ds => ∃ kvs', F kvs ds kvs' ∧ Nx ρ i nx (r.mz kvs'))
 (hg : sc.names.lookup x = some .globalImplicit := by with_unfolding_all rfl) (hdb : (x == ("__debug__" : Str)) = false := by decide) (hd : (y == ("__debug__" : Str)) = false := by decide) (hcd : (y == ("__classdict__" : Str)) = false := by decide)
 (he : ∀ env, starEach (.Name y py :: es) env = (false, eval (.Name y py) env) :: starEach es env := by intro _; with_unfolding_all rfl)
 (hpl : ∀ env, (backTo cp (starEach es env)).any (·.1) = false := by intro _; with_unfolding_all rfl)
 (hs : ∀ env, swapsWith (.Call (.Name x px) (.Name y py :: es) [] cp) none pos.line env = pure false := by intro _; with_unfolding_all rfl) : EvS c (.Expr (.Call (.Name x px) (.Name y py :: es) [] cp) pos) ρ nx p := fun σ H Hf D S o => by
 obtain ⟨q, eq, rq⟩ := S.own hi.get (cV hr)
 obtain ⟨xs, h1, h2, h3⟩ := rQ hr rq
 refine cB (g6 pbE (hs _)) (show bE c.X _ σ H (fun _ H' => D.nx σ H') from fun pins s I => ?_)
 obtain ⟨f, fd, ps, hm, hk, hb, hF⟩ := h.ex
 refine wpAny_Call_Name_kw (gZ I (by unfold Gl Env.kindOf; rw [c.esc]; exact hg) (by rw [c.emg]; exact hm) ?_ hdb)
 have hA : bA c.X (.Name y py :: es) σ H (fun vs H1 => ∃ us Hf1 ds kvs', vs = .ref q :: us ∧ F kvs ds kvs' ∧ Nx ρ i nx (r.mz kvs') ∧ aj c.X.K Hf1 ds us ∧ Grw H Hf H1 Hf1) :=
  um (bq (c.mq hN hd hcd) pbA (he _)) ⟨_, eq, ha σ H Hf _ S fun ds vs H1 Hf1 ⟨kvs', hF, hn⟩ rs g => ⟨vs, Hf1, ds, kvs', rfl, hF, hn, rs, g⟩⟩
 refine PySem.W.callWith_K (h₀ := c.X.base) I.ok.mod.kin (by rw [c.eK]; exact hk) (thn (hA cp pins s I) fun us s1 ⟨vs, H1, I1, rv, us', Hf1, ds, kvs', ev, hF', hn, rs, g⟩ => ⟨I1.kIn, ?_⟩) (he _) (hpl _)
 subst ev
 have S1 := S.grw g
 have rq1 := rq.grw g
 obtain ⟨xs1, a1, a2, a3⟩ := rQ hr rq1
 obtain ⟨ρ', hs', hn⟩ := hn
 have hF2 : aX c.X.prog c.X.w c.X.K c.X.mg c.X.base (CXE c.X.prog c.X.w) k f fd ps (spM c.X.K F) := by rw [c.eP, c.ew, c.eK, c.emg, c.eb]; exact hF.mono hj
 have hsp : spM c.X.K F (.ref q :: us') H1 (fun _ H' => D.nx σ H') (fun _ _ _ => False) := by
  refine ⟨Hf1, q, kvs, xs1, us', ds, kvs', rfl, g.b, a1, a2, a3, rs, hF', fun H' Hf' xs' g2 b1 b2 b3 => ?_⟩
  refine o.nx σ H' Hf' ρ' ?_ hn
  rw [hs'.eq]
  exact S1.upd hi.get (cV hr) eq g2 (mC hr rq1 b1 b2 b3) (iQ hr)
 have hl : us.length = ps.length := by rw [← rv.length]; exact hF2.len _ _ _ _ hsp
 have hb' : Binds c.X.K fd ps [] := by rw [c.eK]; exact hb
 have hb2 := hb' s1 us I1.kIn (by simpa using hl)
 rw [List.append_nil] at hb2
 refine wpAny_call (codeAny_mono (hF2.run c.X.A c.X.stack s1 H1 ⟨us, []⟩ us _ _ _ c.room I1.env0 hb2 rv hsp) fun r' s' hq => ?_)
 cases r' with
 | error e =>
  obtain ⟨a, C, H', rfl, hE, h⟩ := hq
  exact h.elim
 | ok fl =>
  cases fl with
  | ret u => exact I1.after hq
  | next => exact False.elim hq
  | brk => exact False.elim hq
  | cont => exact False.elim hq
end
end EV
set_option Elab.async false
set_option linter.all false
set_option maxRecDepth 100000
namespace EV
open PySem PySem.Spec PySem.Calls PyProof.Rows L2
theorem aj.many {K : PySem.W.Frag} {H : Hp} {ds : List D} {xs : List V} (h : aj K H ds xs) : ∀ k : Nat, aj K H (List.replicate k ds).flatten (List.replicate k xs).flatten
 | 0 => av.mpr rfl
 | k + 1 => by
  rw [List.replicate_succ, List.replicate_succ, List.flatten_cons, List.flatten_cons]
  exact h.append (aj.many h k)
theorem aj.set {K : PySem.W.Frag} {H : Hp} : ∀ {ds : List D} {xs : List V} (i : Nat) {d : D} {v : V}, aj K H ds xs → Rep K H d v → aj K H (ds.set i d) (xs.set i v)
 | [], _, i, _, _, h, _ => by rw [av] at h; subst h; exact av.mpr rfl
 | e :: ds, _, i, d, v, h, q => by
  obtain ⟨x, r, rfl, h1, h2⟩ := az.mp h
  cases i with
  | zero => exact .cons q h2
  | succ i => exact .cons h1 (aj.set i h2 q)
theorem vN {prog : Program} {w : World} {A : Around} {E : Value → Shared → Prop} {s : Shared} {l : Addr} {items : Array Value} {n k : Nat} {i : Int} {t : Tok} {v : Value} {Q : Unit → Shared → Prop} (hi : i = k) (e : s.heap.get? l = some { cls := .type "list", data := .seq items n }) (hk : k < items.size) (hf : items.size < 2 ^ 63)
 (hQ : Q () { s with heap := s.heap.update l (Obj.mapSeq fun xs => xs.setIfInBounds k v) }) : wpAny (model prog w) A (setItem (.ref l) (.int i t) v) Q E s := by
 have ht : s.TypeIs (.ref l) "list" := ⟨_, e, rfl⟩
 have hx : items[k]? = some items[k] := Array.getElem?_eq_getElem hk
 unfold setItem
 refine wpAny_holding (wpAny_bind (wpAny_sequenceKey ht (by decide) ?_))
 refine wpAny_bind (wpAny_callSpecial?_slot (name := Str.ofString "__setitem__") ht PySem.slot_list_setitem (wpAny_call_entry PySem.slot_list_setitem ht PySem.entry_list_setitem ?_ (PySem.args_list_setitem _ _ _)))
 show wpAny _ _ (Builtin.List.listSubscript? (.int i t) >>= _) _ _ s
 refine wpAny_bind (wpAny_listSubscript_int (fitsIndex_of (show 0 ≤ i by omega) (show i < 2 ^ 63 by omega)) ?_)
 clear hf
 subst hi
 show wpAny _ _ ((seqItemAt l k >>= fun r => pure (r.map fun x => (k, x))) >>= _) _ _ s
 refine wpAny_bind (wpAny_bind (wpAny_seqItemAt e rfl (wpAny_pure ?_)))
 rw [hx]
 show wpAny _ _ (setSeqItemAt l k v >>= _) _ _ s
 refine wpAny_bind (wpAny_setSeqItemAt e rfl ?_)
 first
  | exact wpAny_bind (wpAny_pure (wpAny_pure ⟨Value.none, rfl, wpAny_pure hQ⟩))
  | exact wpAny_pure ⟨Value.none, rfl, wpAny_pure hQ⟩
def rLPut : xg := fun o i v H Q => ∃ l xs k, o = .ref l ∧ i = .int (k : Nat) ∧ H l = some (.lst xs) ∧ k < xs.length ∧ Q (upd H l (.lst (xs.set k v)))
theorem vO {X : Cx} : PSet X rLPut := by
 intro pins s σ H o i v ov iv u Q I r1 r2 r3 h
 obtain ⟨l, xs, k, rfl, rfl, hH, hk, q⟩ := h
 cases r1
 obtain ⟨t, rfl⟩ := r2
 obtain ⟨z, its, n, r, hl, e⟩ := I.lW hH
 have hbig : xs.length < 2 ^ 63 := Nat.lt_of_le_of_lt z (by decide)
 refine vN rfl e (by rw [List.size_toArray, ← hl]; exact hk) (by rw [List.size_toArray, ← hl]; exact hbig) ⟨_, I.rF (its' := its.set k u) (t' := s.toks) hH e ?_ (Vals.set r3 k r) (by rw [List.length_set]; exact z), q⟩
 show its.toArray.setIfInBounds k u = (its.set k u).toArray
 simp
theorem yD {X : Cx} : MtR X "int.bit_length" (fun x vs H Q => ∃ i, x = .int i ∧ vs = [] ∧ Q (.int (Builtin.Int.intBits i : Nat)) H) := by
 intro pins s σ H x xs v us Q I r1 r2 h
 obtain ⟨i, rfl, rfl, q⟩ := h
 obtain ⟨t, rfl⟩ := r1
 cases r2
 exact PyProof.Rows.call_int_bit_length ⟨.int (Builtin.Int.intBits i : Nat), H, I.tok _, ⟨_, rfl⟩, q⟩
section
variable {P : Program} {w : World} {K : PySem.W.Frag} {mg : Str → Option Value} {base : Heap} {k : Nat} {N : List Str} {sc : Scope} {bk : Bool} {c : Ctx P w K mg base k N sc bk} {ρ : List Sl} {pos tp ap cp px p1 : Pos} {a b e : Expr} {R : D → Prop} {x : Str} {i : Nat} {nx : List Sl → Prop} {p : Pt}
theorem Ba (h : EvE c e ρ (I1 fun i => R (.int (Builtin.Int.intBits i : Nat)))) (hbase : ∀ env, attributeBase e (Str.ofString "bit_length") env (eval e env) = eval e env := by intro _; with_unfolding_all rfl) (hline : (ap.endLine == cp.line) = true := by with_unfolding_all rfl) :
 EvE c (.Call (.Attribute e (Str.ofString "bit_length") ap) [] [] cp) ρ R := fun σ H Hf Q S q =>
 bw (t6 PySem.F.plainAttrs_int PySem.F.slot_int_bit_length PySem.F.type_int_bit_length yD pbE (hbase _) hline) (h σ H Hf _ S fun d v H' Hf' ⟨i, e, hR⟩ r g => by
  subst e
  rw [ak] at r; subst r
  exact ⟨rfl, i, rfl, rfl, q _ _ H' Hf' hR (ak.mpr rfl) g⟩)
theorem x_rep {R : Sl → Prop} (h : EvX c a ρ fun r => ∃ ds, r = .ow ds ∧ EvE c b ρ (I1 fun n => Sd ((0 ≤ n ∧ n < 2 ^ 63) ∧ ds.length * n.toNat ≤ sizeLine) (R (.ow (List.replicate n.toNat ds).flatten)))) : EvX c (.BinOp a .Mult b pos) ρ R := fun σ H Hf Q S q =>
 bw (tP Ak pbE pbE) (h σ H Hf _ S fun r v H1 Hf1 ⟨ds, er, h1⟩ rr g1 => h1 σ H1 Hf1 _ (S.grw g1) fun dn u H2 Hf2 ⟨n, en, ⟨⟨n0, n1⟩, hz⟩, hR⟩ rn g2 => by
  subst er en
  rw [ak] at rn; subst rn
  obtain ⟨l, xs, rfl, fl, k1, k2, k3⟩ := rr
  have k1' := g2.s _ _ k1
  refine ⟨l, n, xs, rfl, rfl, k1', by omega, n1, by rw [← k3.length]; exact hz, fun p hp => ?_⟩
  have g3 := Grw.dZ (o := .lst (List.replicate n.toNat xs).flatten) g2.b hp
  exact q _ _ _ _ hR ⟨p, _, rfl, (g1.trans g2).s.free hp, ai, g2.b.free hp, (k3.mono g2.f).many _⟩ ((g1.trans g2).trans g3))
theorem Bb {r : Sl} {ds : List D} (hN : At N i x) (hi : At ρ i r) (hr : r.getL = some ds) (h : EvE c e ρ fun dv => EvE c b ρ fun dk => ∃ m : Nat, dk = .int m ∧ Sd (m < ds.length) (Nx ρ i nx (r.putL (ds.set m dv))))
 (hs : ∀ env, swapsWithSole [.Subscript (.Name x px) b tp] e pos.line env = pure false := by intro _; with_unfolding_all rfl) (hw : ∀ env, swappedStores [.Subscript (.Name x px) b tp] e env = pure none := by intro _; with_unfolding_all rfl)
 (h1 : ∀ env, (assignEach [.Subscript (.Name x px) b tp] env).map (·.2) = [assign (.Subscript (.Name x px) b tp) env] := by intro _; with_unfolding_all rfl)
 (ha : ∀ env v, assign (.Subscript (.Name x px) b tp) env v = (do
   let ov ← holding [v] (eval (.Name x px) env)
   let iv ← holding [v, ov] (eval b env)
   standAt tp
   holding [v, ov, iv] (setItem ov iv v)
   release [v, ov, iv] []) := by intro _ _; with_unfolding_all rfl)
 (hd : (x == ("__debug__" : Str)) = false := by decide) (hcd : (x == ("__classdict__" : Str)) = false := by decide) : EvS c (.Assign [.Subscript (.Name x px) b tp] e pos) ρ nx p := fun σ H Hf D S o => by
 obtain ⟨q, eq, rq⟩ := S.own hi.get (bU hr)
 refine cB (zS pbE (zR (c.mq hN hd hcd) pbE vO (ha _)) (hs _) (hw _) (h1 _)) (h σ H Hf _ S fun dv v H1 Hf1 h2 rv g1 => ⟨_, eq, h2 σ H1 Hf1 _ (S.grw g1) fun dk y H2 Hf2 ⟨m, em, hm, ρ', hs', hn⟩ ry g2 => ?_⟩)
 subst em
 rw [ak] at ry; subst ry
 have g := g1.trans g2
 obtain ⟨xs, k1, k2, k3⟩ := repL hr (rq.grw g)
 refine ⟨q, xs, m, rfl, rfl, k1, by rw [← k3.length]; exact hm, o.nx _ _ Hf2 ρ' ?_ hn⟩
 rw [hs'.eq]
 exact (S.grw g).upd hi.get (bU hr) eq (dR g.b k2) (iP hr (rq.grw g) ai k2 (k3.set m (Rep.mono g2.f _ rv))) (eF hr)
end
end EV
set_option Elab.async false
set_option linter.all false
set_option maxRecDepth 100000
namespace EV
open PySem PySem.Spec PySem.Calls PyProof.Rows L2
theorem eT {K : PySem.W.Frag} {H : Hp} : ∀ {ns : List Int} {xs : List V}, aj K H (ns.map D.int) xs → xs = ns.map V.int
 | [], xs, h => by rw [List.map_nil, av] at h; subst h; rfl
 | b :: bs, xs, h => by
  rw [List.map_cons, az] at h
  obtain ⟨x, r, rfl, h1, h2⟩ := h
  rw [ak] at h1
  rw [h1, eT h2]; rfl
theorem dN {ns : List Int} {us : List Value} (h : Vals (ns.map V.int) us) (i : Nat) (v : Value) (e : us.toArray[i]? = some v) : ∃ t, v = .int (ns.getD i 0) t := by
 have e' : us[i]? = some v := by simpa using e
 have hi : i < ns.length := by
  have := (List.getElem?_eq_some_iff.mp e').1
  have l := h.length
  rw [List.length_map] at l
  omega
 obtain ⟨u, hu, r⟩ := h.get (i := i) (x := .int (ns.getD i 0)) (by simp [List.getD_eq_getElem?_getD, hi])
 rw [e'] at hu; cases hu
 exact r
theorem jh {X : Cx} {pins : List (Addr × Obj)} {σ : L2.St} {H : Hp} {s : Shared} {p : Addr} {xs : List V} (I : Inv X pins σ H s) (hq : SqL X.K H p xs) :
 ∃ its : List Value, Vals xs its ∧ s.heap.IsList p its.toArray ∧ p < s.heap.objs.size := by
 obtain ⟨its, rv, pl, hz⟩ := I.list hq
 exact ⟨its, rv, pl.isList, by obtain ⟨o, e, _⟩ := pl.isList; exact Heap.lt_size e⟩
theorem kj {X : Cx} {pins : List (Addr × Obj)} {σ : L2.St} {H : Hp} {s : Shared} {ob : Obj} {h' : Heap} {tk : Nat} (I : Inv X pins σ H s) (hk : ∀ b o, b ∉ [s.heap.objs.size] → (s.heap.push ob).get? b = some o → h'.get? b = some o) : Inv X pins σ H { s with heap := h', toks := tk } :=
 I.kept (h' := h') (t' := tk) fun b u e => hk b u (by simpa using Nat.ne_of_lt (Heap.lt_size e)) (Heap.get?_push_of_some _ e)
theorem sA {X : Cx} (hc : X.calm = true) : bV X (.builtin "max") (fun xs H Q => ∃ (p : Addr) (ns : List Int), xs = [.ref p] ∧ ns ≠ [] ∧ SqL X.K H p (ns.map V.int) ∧ ∀ m ∈ ns, (∀ n ∈ ns, n ≤ m) → Q (.int m) H) := by
 intro pins s σ H xs us Q I r h
 obtain ⟨p, ns, rfl, hne, hq, q⟩ := h
 obtain ⟨u, rfl, rx⟩ := vals1 r
 cases rx
 obtain ⟨its, rv, pl, hlt⟩ := jh I hq
 have hn : its.toArray.size = ns.length := by have l := rv.length; rw [List.length_map] at l; simp [l]
 have hpos : 0 < ns.length := List.length_pos_iff.mpr hne
 refine call_max_walk (wpAny_pyIter_list pl ?_)
 have hh : X.A.in1.handled = none := I.ok.hd hc
 refine ⟨_, _, _, _, _, _, _, rfl, Walks.list hh s.heap.objs.size p (Nat.ne_of_lt hlt) its.toArray, ⟨⟨_, Heap.get?_push_size _ rfl, rfl, rfl⟩, pl.at fun o e => Heap.get?_push_of_some _ e⟩, ?_, by rw [hn]; exact hpos, CmpOf.ints_gt (fun i => ns.getD i 0) (dN rv), ?_⟩
 ·intro b hb
  show b < (s.heap.push _).objs.size
  rw [Heap.size_push]
  simp only [List.mem_cons, List.not_mem_nil, or_false] at hb
  rcases hb with rfl | rfl
  ·exact Nat.lt_succ_self _
  ·exact Nat.lt_succ_of_lt hlt
 ·intro v h' tk hP hk
  obtain ⟨t, rfl⟩ := dN rv _ _ hP
  obtain ⟨b1, b2⟩ := argBest_gt (fun i => ns.getD i 0) (its.toArray.size - 1)
  rw [hn] at b1 b2 ⊢
  have J := kj (s := s) (tk := tk) I hk
  refine ⟨.int _, H, J, ⟨_, rfl⟩, q _ ?_ fun n hm => ?_⟩
  ·rw [List.getD_eq_getElem?_getD, List.getElem?_eq_getElem (by omega)]
   exact List.getElem_mem _
  ·obtain ⟨j, hj, rfl⟩ := List.getElem_of_mem hm
   have := b2 j (by omega)
   rw [show ns.getD j 0 = ns[j] by simp [List.getD_eq_getElem?_getD, hj]] at this
   exact this
theorem qP (ns : List Int) : ∀ j, j ≤ ns.length → preSum (fun i => ns.getD i 0) j = (ns.take j).sum
 | 0, _ => rfl
 | j + 1, h => by
  show preSum (fun i => ns.getD i 0) j + ns.getD j 0 = _
  rw [qP ns j (by omega), List.take_succ_eq_append_getElem (by omega), List.sum_append]
  simp [List.getD_eq_getElem?_getD, show j < ns.length by omega]
theorem sC {X : Cx} (hc : X.calm = true) : bV X (.builtin "sum") (fun xs H Q => ∃ (p : Addr) (ns : List Int), xs = [.ref p] ∧ SqL X.K H p (ns.map V.int) ∧ Q (.int ns.sum) H) := by
 intro pins s σ H xs us Q I r h
 obtain ⟨p, ns, rfl, hq, q⟩ := h
 obtain ⟨u, rfl, rx⟩ := vals1 r
 cases rx
 obtain ⟨its, rv, pl, hlt⟩ := jh I hq
 have hn : its.toArray.size = ns.length := by have l := rv.length; rw [List.length_map] at l; simp [l]
 refine call_sum_walkG (wpAny_pyIter_list pl ?_)
 have hh : X.A.in1.handled = none := I.ok.hd hc
 refine ⟨_, _, _, _, _, _, fun i => ns.getD i 0, rfl, Walks.list hh s.heap.objs.size p (Nat.ne_of_lt hlt) its.toArray, ⟨⟨_, Heap.get?_push_size _ rfl, rfl, rfl⟩, pl.at fun o e => Heap.get?_push_of_some _ e⟩, ?_, dN rv, ?_⟩
 ·intro b hb
  show b < (s.heap.push _).objs.size
  rw [Heap.size_push]
  simp only [List.mem_cons, List.not_mem_nil, or_false] at hb
  rcases hb with rfl | rfl
  ·exact Nat.lt_succ_self _
  ·exact Nat.lt_succ_of_lt hlt
 ·intro h' tk t' hk
  rw [hn, qP ns _ (Nat.le_refl _), List.take_length]
  have J := kj (s := s) (tk := tk) I hk
  exact ⟨.int ns.sum, H, J, ⟨_, rfl⟩, q⟩
section
variable {P : Program} {w : World} {K : PySem.W.Frag} {mg : Str → Option Value} {base : Heap} {k : Nat} {N : List Str} {sc : Scope} {bk : Bool} {c : Ctx P w K mg base k N sc bk} {ρ : List Sl} {pos p : Pos} {e : Expr} {R : D → Prop}
theorem boot_sum : bootBuiltins "sum" = some (.builtin "sum") := by decide +kernel
theorem sD {K : PySem.W.Frag} {Z : List Int → Int → Prop} {r : List V → Hp → VK → Prop} (hr : ∀ (p : Addr) (ns : List Int) H Q, SqL K H p (ns.map V.int) → (∀ m, Z ns m → Q (.int m) H) → ns ≠ [] → r [.ref p] H Q) :
 uD K r (fun ds R => ∃ ns : List Int, ns ≠ [] ∧ ds = [.lst (ns.map D.int)] ∧ ∀ m, Z ns m → R (.int m)) := by
 rintro ds vs H Hf Q R s rs ⟨ns, hne, rfl, hR⟩ q
 obtain ⟨v, rfl, rv⟩ := jV rs
 rw [aI] at rv
 obtain ⟨a, xs, rfl, h1, h2⟩ := rv
 rw [eT h2] at h1
 exact hr a ns H Q (s.seq h1) (fun m hm => q _ _ H Hf (hR m hm) (ak.mpr rfl) (.refl s)) hne
theorem Bc (hm : mg (Str.ofString "max") = none) (h : EvE c e ρ fun x => ∃ ns : List Int, ns ≠ [] ∧ x = .lst (ns.map D.int) ∧ ∀ m, (m ∈ ns ∧ ∀ n ∈ ns, n ≤ m) → R (.int m)) (hg : sc.names.lookup (Str.ofString "max") = some .globalImplicit := by with_unfolding_all rfl)
 (he : ∀ env, starEach [e] env = (false, eval e env) :: starEach [] env := by intro _; with_unfolding_all rfl) : EvE c (.Call (.Name (Str.ofString "max") p) [e] [] pos) ρ R :=
 jW (sA c.calm) (sD (Z := fun ns m => m ∈ ns ∧ ∀ n ∈ ns, n ≤ m) fun p ns H Q h q hne => ⟨p, ns, rfl, hne, h, fun m h1 h2 => q m ⟨h1, h2⟩⟩) hm boot_max
  (bR (h.imp fun d ⟨ns, hne, e, hR⟩ => fD ⟨ns, hne, by rw [e], hR⟩) he) hg (by decide) (by decide) he (by intro _; with_unfolding_all rfl)
theorem Be (hm : mg (Str.ofString "sum") = none) (h : EvE c e ρ fun x => ∃ ns : List Int, x = .lst (ns.map D.int) ∧ R (.int ns.sum)) (hg : sc.names.lookup (Str.ofString "sum") = some .globalImplicit := by with_unfolding_all rfl)
 (he : ∀ env, starEach [e] env = (false, eval e env) :: starEach [] env := by intro _; with_unfolding_all rfl) : EvE c (.Call (.Name (Str.ofString "sum") p) [e] [] pos) ρ R :=
 jW (sC c.calm) (q := fun ds R => ∃ ns : List Int, ds = [.lst (ns.map D.int)] ∧ R (.int ns.sum)) (by
  rintro ds vs H Hf Q R s rs ⟨ns, rfl, hR⟩ q
  obtain ⟨v, rfl, rv⟩ := jV rs
  rw [aI] at rv
  obtain ⟨a, xs, rfl, h1, h2⟩ := rv
  rw [eT h2] at h1
  exact ⟨a, ns, rfl, s.seq h1, q _ _ H Hf hR (ak.mpr rfl) (.refl s)⟩) hm boot_sum (bR (h.imp fun d ⟨ns, e, hR⟩ => fD ⟨ns, by rw [e], hR⟩) he) hg (by decide) (by decide) he (by intro _; with_unfolding_all rfl)
end
end EV
set_option Elab.async false
set_option linter.all false
set_option maxRecDepth 100000
namespace EV
open PySem PySem.Spec PySem.Calls PyProof.Rows L2
section
variable {prog : Program} {w : World} {A : Around} {E : Value → Shared → Prop} {s : Shared}
variable {jt tp : Addr} {i : Nat} {items : Array Value}
theorem nextT {Q : Value → Shared → Prop} (hh : A.handled = none) (h1 : s.heap.IsTupleIter jt tp i) (h2 : s.heap.IsTuple tp items)
 (hv : ∀ v, items[i]? = some v → ∀ h', h'.IsTupleIter jt tp (i + 1) → Heap.SameBut jt s.heap h' → Q v { s with heap := h' })
 (hn : items[i]? = none → ∀ h' e, Heap.ExtBut jt s.heap h' → (∃ o, h'.get? e = some o ∧ o.cls = .type "StopIteration") → E (.ref e) { s with heap := h' }) :
 wpAny (model prog w) A (Builtin.SmallTypes.nextOf (.ref jt)) Q E s := by
 obtain ⟨ob, hob, hcb, hdb⟩ := id h1
 obtain ⟨ot, hot, _, m, hdt⟩ := id h2
 unfold Builtin.SmallTypes.nextOf
 refine wpAny_bind (wpAny_callSpecial?_slot (name := Str.ofString "__next__") h1.typeIs F.slot_tuple_iterator_next (wpAny_call_entry F.slot_tuple_iterator_next h1.typeIs F.entry_tuple_iterator_next ?_ (F.args_tuple_iterator_next_1 _)))
 show wpAny _ _ (field (.ref jt) 0 >>= _) _ _ s
 refine wpAny_bind (wpAny_field hob hdb (x := .ref tp) rfl ?_)
 show wpAny _ _ (if (Value.ref tp == Value.none) = true then _ else _) _ _ s
 rw [if_neg (show ¬ ((Value.ref tp == Value.none) = true) from Bool.false_ne_true)]
 show wpAny _ _ (field (.ref jt) 1 >>= _) _ _ s
 refine wpAny_bind (wpAny_field hob hdb (x := .int i 0) rfl ?_)
 show wpAny _ _ (seqItems? (.ref tp) >>= _) _ _ s
 refine wpAny_bind (wpAny_seqItems hot hdt ?_)
 rw [Int.toNat_natCast]
 dsimp only
 cases hx : items[i]? with
 | some v =>
  have q := hv v hx (s.heap.update jt (Obj.mapFields fun vs => vs.setIfInBounds 1 (rawInt ((i : Int) + 1)))) ⟨_, Heap.get?_update_self _ hob (Obj.isFreed_of_fields (Obj.data_mapFields hdb _)), (Obj.cls_mapFields ..).trans hcb, by rw [Obj.data_mapFields hdb]; simp [rawInt]⟩ (Heap.SameBut.update ..)
  dsimp only
  exact wpAny_bind (wpAny_setField hob hdb (by simp) (wpAny_pure ⟨v, rfl, wpAny_pure q⟩))
 | none =>
  dsimp only
  refine wpAny_bind (wpAny_rule (wpAny_bind (wpAny_setField hob hdb (by simp) (show wpAny _ _ (newExc (.type "StopIteration") [] >>= _) _ _ _ from wpAny_bind ?_))))
  simp only [newExc, newTuple]
  refine wpAny_bind (wpAny_newObj_type (wpAny_bind (m := firstArgMember _ _) (wpAny_of_eq (a := Value.none) (by first | rfl | (simp only [firstArgMember]; rfl)) (wpAny_newObj_type ?_ (by size_fits)))) (by size_fits))
  simp only [raiseNew]
  refine wpAny_bind (wpAny_handled ?_)
  rw [show A.in1.handled = none from hh]
  exact wpAny_bind (wpAny_pure (wpAny_throw (hn hx _ _ (((Heap.SameBut.update ..).extBut.push _).push _) ⟨_, Heap.get?_push_size _ rfl, rfl⟩)))
theorem Bf (hh : A.handled = none) (jt tp : Addr) (hne : tp ≠ jt) (items : Array Value) :
 Draws prog w A jt [jt, tp] items.size (fun i v => items[i]? = some v) (fun i h => h.IsTupleIter jt tp i ∧ h.IsTuple tp items) where
 live := fun _ _ ⟨⟨o, ho, _⟩, _⟩ => ⟨o, ho⟩
 frame := fun _ _ _ ⟨⟨o, e, r⟩, ⟨o', e', r'⟩⟩ hk => ⟨⟨o, hk jt (by simp) o e, r⟩, o', hk tp (by simp) o' e', r'⟩
 item := fun i s Q E hi ⟨s1, s2⟩ q => nextT hh s1 s2 (fun v hv h' a b => q v h' s.toks hv ⟨a, s2.extBut b.extBut hne⟩ b) fun hx => by
  rw [Array.getElem?_eq_getElem hi] at hx; cases hx
 done := fun s Q E ⟨s1, s2⟩ q => nextT hh s1 s2 (fun v hv => by simp at hv) fun _ => q
end
set_option maxHeartbeats 1000000 in
theorem nA (tp : Addr) (items : Array Value) (n : Nat) (dc : Option Addr) (sl : Array (Option Value)) :
 Meets (Builtin.«enumerate.__new__» ⟨[.type "enumerate", .ref tp], []⟩) (fun _ R s => s.heap.get? tp = some { cls := .type "tuple", dict := dc, data := .seq items n, slots := sl } ∧
  R (.ok (.ret (.ref (s.heap.push { cls := .type "tuple_iterator", data := .fields #[.ref tp, .int 0 0] }).objs.size)))
   { s with heap := (s.heap.push { cls := .type "tuple_iterator", data := .fields #[.ref tp, .int 0 0] }).push { cls := .type "enumerate", data := .fields #[.none, .bool false, .ref s.heap.objs.size, rawInt 0, .none, .none] } }) :=
 .of_wp fun prog w A R ⟨hp, g, d, tk, os⟩ ⟨hl, h⟩ => by
  have hz := sub_enumerate
  have hT : Heap.IsTuple (Shared.heap ⟨hp, g, d, tk, os⟩) tp items := ⟨_, hl, rfl, n, rfl⟩
  wp_walk using AutoSeq1.wpAny_loadPart' hl
  refine wpAny_stack_any fun st => wpAny_pure ?_
  split
  ·rename_i k _ _ _ _ _
   cases (k == Value.type "enumerate") <;> (wp_walk using AutoSeq1.wpAny_loadPart' hl, wpAny_pyIter_tuple hT; exact ⟨_, rfl, h⟩)
  ·wp_walk using AutoSeq1.wpAny_loadPart' hl, wpAny_pyIter_tuple hT; exact ⟨_, rfl, h⟩
section
variable {prog : Program} {w : World} {A : Around} {E : Value → Shared → Prop} {s : Shared}
theorem pe {tp : Addr} {items : Array Value} {Q : Value → Shared → Prop} (hT : s.heap.IsTuple tp items)
 (h : ∀ h', IsEnum h' (s.heap.objs.size + 1) s.heap.objs.size 0 .none → h'.IsTupleIter s.heap.objs.size tp 0 → (∀ b o, s.heap.get? b = some o → h'.get? b = some o) → Q (.ref (s.heap.objs.size + 1)) { s with heap := h' }) :
 wpAny (model prog w) A (call (.type "enumerate") [.ref tp]) Q E s := by
 obtain ⟨⟨c, dc, dt, sl⟩, hl, hc, n, hd⟩ := hT
 obtain rfl : c = .type "tuple" := hc
 obtain rfl : dt = .seq items n := hd
 refine callType_new F.called_enumerate (by decide) (F.typeCall_enumerate_1 _) (F.newCall_enumerate_1 _) (fun ob => F.args_object_init_2 ob _) F.entry_enumerate_new (nA tp items n dc sl) ⟨hl, ?_⟩
 generalize e1 : s.heap.push { cls := .type "tuple_iterator", data := .fields #[.ref tp, .int 0 0] } = g1
 have hz : g1.objs.size = s.heap.objs.size + 1 := by rw [← e1]; exact Heap.size_push ..
 have hi : g1.get? s.heap.objs.size = some { cls := .type "tuple_iterator", data := .fields #[.ref tp, .int 0 0] } := by rw [← e1]; exact Heap.get?_push_size _ rfl
 have hb : ∀ b o, s.heap.get? b = some o → g1.get? b = some o := fun b o q => by rw [← e1]; exact Heap.get?_push_of_some _ q
 have he : IsEnum (g1.push { cls := .type "enumerate", data := .fields #[.none, .bool false, .ref s.heap.objs.size, rawInt 0, .none, .none] }) g1.objs.size s.heap.objs.size 0 .none := Heap.get?_push_size _ rfl
 rw [hz] at he
 show _ ∧ _
 rw [hz]
 exact ⟨⟨_, he, rfl⟩, h _ he ⟨_, Heap.get?_push_of_some _ hi, rfl, rfl⟩ fun b o q => Heap.get?_push_of_some _ (hb b o q)⟩
end
end EV
set_option Elab.async false
set_option linter.all false
set_option maxRecDepth 100000
namespace EV
open PySem PySem.Spec PySem.Calls PyProof.Rows L2
def ji (ds : List D) : List D := ds.zipIdx.map fun x => D.tup [.int x.2, x.1]
def Ite (K : PySem.W.Frag) (t : Addr) : It :=
 ⟨fun i H => ∃ xs x, SqT K H t xs ∧ xs[i]? = some x,
  fun i H v H' => ∃ p x, v = .ref p ∧ H p = none ∧ H' = upd H p (.tup [.int (i : Nat), x]) ∧ ∀ xs, SqT K H t xs → xs[i]? = some x,
  fun i H => ∃ xs, SqT K H t xs ∧ xs.length ≤ i⟩
theorem yE {X : Cx} {pins : List (Addr × Obj)} {σ : L2.St} {H : Hp} {s : Shared} {a : Addr} {xs ys : List V} (I : Inv X pins σ H s) (h1 : SqT X.K H a xs) (h2 : SqT X.K H a ys) : xs = ys := I.gm h1 h2
theorem vP {prog : Program} {w : World} {A : Around} (hh : A.handled = none) (j t : Addr) (items : Array Value) (i : Nat) (hx : items[i]? = none) :
 Draws prog w A j [j, t] i (fun _ _ => False) (fun k h => k = i ∧ h.IsTupleIter j t i ∧ h.IsTuple t items) where
 live := fun _ _ ⟨_, ⟨o, ho, _⟩, _⟩ => ⟨o, ho⟩
 frame := fun _ _ _ ⟨ek, ⟨o, e, r⟩, ⟨o', e', r'⟩⟩ hk => ⟨ek, ⟨o, hk j (by simp) o e, r⟩, o', hk t (by simp) o' e', r'⟩
 item := fun k s Q E hi ⟨ek, _⟩ _ => absurd ek (Nat.ne_of_lt hi)
 done := fun s Q E ⟨_, s1, s2⟩ q => nextT hh s1 s2 (fun v hv => by rw [hx] at hv; cases hv) fun _ => q
theorem sE {P : Program} {w : World} {K : PySem.W.Frag} {elts : List Expr} {k : Nat} {pos : Pos} {e j t : Addr} (hne : e ≠ j) :
 Turn P w K (.Tuple elts k pos) (Ite K t) [e, j] e (fun i h => (∃ old, IsEnum h e j i old) ∧ h.IsTupleIter j t i) where
 mem := by simp
 obj := fun i h ⟨⟨old, he⟩, ⟨o1, e1, _, d1⟩⟩ b hb => by
  simp only [List.mem_cons, List.not_mem_nil, or_false] at hb
  rcases hb with rfl | rfl
  ·exact ⟨_, he, fun v q => by have q' : Data.fields _ = Data.cell v := q; cases q'⟩
  ·exact ⟨_, e1, fun v q => by rw [d1] at q; cases q⟩
 keep := fun i h h' ⟨⟨old, he⟩, ⟨o1, e1, r1⟩⟩ hk => ⟨⟨old, hk e (by simp) _ he⟩, ⟨o1, hk j (by simp) _ e1, r1⟩⟩
 item := by
  intro X hP hw hK hc i pins s σ H E I hf st hg
  subst hP hw hK
  obtain ⟨⟨old, he⟩, hj⟩ := st
  obtain ⟨xs, x, q1, hx⟩ := hg
  obtain ⟨its, rv, p1, z1⟩ := I.tuple q1
  obtain ⟨u, hu, ru⟩ := rv.get hx
  have pT : s.heap.IsTuple t its.toArray := by obtain ⟨o, ho, hc', n, hd⟩ := p1; exact ⟨o, ho, hc', n, hd⟩
  have hjt : t ≠ j := by
   obtain ⟨o, ho, hc', n, hd⟩ := pT
   obtain ⟨o', ho', hc'', _⟩ := hj
   rintro rfl
   rw [ho] at ho'; cases ho'
   rw [hc'] at hc''; exact absurd hc'' (by simp)
  have het : e ≠ t := by
   obtain ⟨o, ho, hc', n, hd⟩ := pT
   rintro rfl
   rw [he] at ho; cases ho
   exact absurd hc' (by simp)
  have hi : i < its.toArray.size := by
   have : i < its.length := (List.getElem?_eq_some_iff.mp hu).1
   simpa using this
  have hh : X.A.in1.handled = none := I.ok.hd hc
  refine wpAny_pyNext_enum_itemD (Bf hh j t hjt its.toArray) he ⟨hj, pT⟩ hi hne (by simp; exact ⟨hne, het⟩) fun x' h' tk hPx a1 a2 a3 a4 hk => ?_
  have ex : x' = u := by
   have : its[i]? = some x' := by simpa using hPx
   rw [hu] at this; cases this; rfl
  subst ex
  have Hp : H s.heap.objs.size = none := I.hok.fresh (Nat.le_refl _)
  have IA : Inv X pins σ (upd H s.heap.objs.size (.tup [.int (i : Nat), x])) { s with heap := s.heap.push { cls := .type "tuple", data := .seq #[.int (i : Nat) tk, x'] }, toks := tk + 1 } :=
   I.laid (a := s.heap.objs.size) (o := .tup [.int (i : Nat), x]) (fun _ _ q => Heap.get?_push_of_some _ q) (Nat.le_refl _) ⟨by show 2 ≤ sizeLine; decide, [.int (i : Nat) tk, x'], .cons ⟨tk, rfl⟩ (.cons ru .nil), _, Heap.get?_push_size _ rfl, rfl, 0, rfl⟩
  have lt : ∀ b ∈ [e, j], b < s.heap.objs.size := fun b hb => by
   obtain ⟨o1, e1, _⟩ := hj
   simp only [List.mem_cons, List.not_mem_nil, or_false] at hb
   rcases hb with rfl | rfl
   ·exact Heap.lt_size he
   ·exact Heap.lt_size e1
  have gf : ∀ b ∈ [e, j], cS X pins (upd H s.heap.objs.size (.tup [.int (i : Nat), x])) b := fun b hb => ⟨by rw [ah (Nat.ne_of_lt (lt b hb))]; exact (hf b hb).1, (hf b hb).2⟩
  have I1 : Inv X pins σ (upd H s.heap.objs.size (.tup [.int (i : Nat), x])) { s with heap := h', toks := tk + 1 } :=
   dX (s := { s with heap := s.heap.push { cls := .type "tuple", data := .seq #[.int (i : Nat) tk, x'] }, toks := tk + 1 }) (t' := tk + 1) (h' := h') (L := [e, j]) IA (fun b o hb q => by
    simp only [List.mem_cons, List.not_mem_nil, or_false, not_or] at hb
    by_cases z : b = s.heap.objs.size
    ·subst z
     rw [Heap.get?_push_size _ rfl] at q; cases q; exact a3
    ·refine hk b o hb.1 hb.2 ?_
     rw [Heap.get?_push_ne _ _ _ z] at q; exact q) gf
  refine ⟨_, rfl, wpAny_letOwnedTupleGo_enum (s := { s with heap := h', toks := tk + 1 }) a1 fun h2' hz' hs' => ?_⟩
  refine ⟨.ref s.heap.objs.size, _, dX (s := { s with heap := h', toks := tk + 1 }) (t' := tk + 1) (h' := h2') (L := [e, j]) I1 (fun b o hb q => hs'.extBut b o (fun z => hb (by simp [z])) q) gf, rfl,
   ⟨_, x, rfl, Hp, rfl, fun xs' h => by rw [yE I h q1]; exact hx⟩, ⟨⟨x', ?_⟩, a2.1.extBut hs'.extBut (Ne.symm hne)⟩, fun b hb => (gf b hb).1⟩
  have hz2 := hz'
  rw [show ((i : Int) + 1) = ((i + 1 : Nat) : Int) by omega] at hz2
  exact hz2
 done := by
  intro X hP hw hK hc i pins s σ H E I hf st hg
  subst hP hw hK
  obtain ⟨⟨old, he⟩, hj⟩ := st
  obtain ⟨xs, q1, hend⟩ := hg
  obtain ⟨its, rv, p1, z1⟩ := I.tuple q1
  have pT : s.heap.IsTuple t its.toArray := by obtain ⟨o, ho, hc', n, hd⟩ := p1; exact ⟨o, ho, hc', n, hd⟩
  have hl := rv.length
  have hx : its.toArray[i]? = none := by simp; omega
  have hh : X.A.in1.handled = none := I.ok.hd hc
  exact wpAny_pyNext_enum_endD (vP hh j t its.toArray i hx) he ⟨rfl, hj, pT⟩ fun h' hk => ⟨rfl, dX (t' := s.toks) (L := [e, j]) I (fun b o hb q => hk b o (fun z => hb (by simp [z])) q) hf⟩
 self := fun A i s Q E ⟨⟨old, he⟩, _⟩ h => wpAny_pyIter_enum he h
theorem sF {K : PySem.W.Frag} {Hf : Hp} {ds : List D} {xs : List V} {t : Addr} (h1 : SqT K Hf t xs) (r1 : aj K Hf ds xs) : gS K (Ite K t) (ji ds) Hf where
 go := fun i d H Hf1 s1 s2 e => by
  unfold ji at e
  rw [List.getElem?_map, Option.map_eq_some_iff] at e
  obtain ⟨⟨x, m⟩, ex, rfl⟩ := e
  rw [List.getElem?_zipIdx, Option.map_eq_some_iff] at ex
  obtain ⟨x', ex, ee⟩ := ex
  cases ee
  obtain ⟨v1, f1, g1⟩ := r1.get ex
  have q1 := aq (s1.trans s2) h1
  refine ⟨⟨xs, v1, q1, f1⟩, fun v H' ⟨p, y, e1, e2, e3, e4⟩ => ?_⟩
  have z1 := e4 xs q1
  rw [f1] at z1; cases z1
  subst e1 e3
  have g := Grw.new s2 e2 (o := .tup [.int (i : Nat), v1])
  rw [Nat.zero_add]
  exact ⟨upd Hf1 p (.tup [.int (i : Nat), v1]), g, aA.mpr ⟨p, _, rfl, .inl (.inl ai), .cons (ak.mpr rfl) (.cons (Rep.mono (s1.trans g.f) _ g1) (av.mpr rfl))⟩⟩
 stop := fun i H Hf1 s1 s2 e => ⟨xs, aq (s1.trans s2) h1, by
  rw [← r1.length]
  simpa [ji] using e⟩
theorem sG : bootBuiltins "enumerate" = some (.type "enumerate") := by decide +kernel
def iEnum (K : PySem.W.Frag) (ta : TA) : TI := fun σ H R => ta σ H fun vs H1 => ∃ t xs, vs = [.ref t] ∧ SqT K H1 t xs ∧ R (Ite K t) H1
theorem yF {X : Cx} {elts : List Expr} {kt : Nat} {tpos : Pos} {a : Expr} {ta : TA} {p pos : Pos} (hg : Gl X "enumerate") (hm : X.mg "enumerate" = none) (ha : PA X [a] ta) (hs : starEach [a] X.env = [(false, eval a X.env)]) :
 PI X (.Tuple elts kt tpos) (.Call (.Name "enumerate" p) [a] [] pos) (iEnum X.K ta) := by
 intro pins s σ H R I h
 refine Call_ (ck I hg hm sG (PyProof.Rows.callWith_type1 (thn (ha pos pins s σ H _ I h) fun us s1 ⟨vs, H1, I1, r1, q1⟩ => ?_) hs (by rfl)))
 obtain ⟨t, xs, e, q1, q⟩ := q1
 subst e
 obtain ⟨u, rfl, rx⟩ := vals1 r1
 cases rx
 obtain ⟨its, rv, p1, z1⟩ := I1.tuple q1
 have pT : s1.heap.IsTuple t its.toArray := by obtain ⟨o, ho, hc', n, hd⟩ := p1; exact ⟨o, ho, hc', n, hd⟩
 refine pe pT fun h' a1 a2 hk => wpAny_pyIter_enum a1 ?_
 refine ⟨s1.heap.objs.size + 1, [s1.heap.objs.size + 1, s1.heap.objs.size], _, _, H1, rfl, I1.kept (t' := s1.toks) hk, sE (Nat.ne_of_gt (Nat.lt_succ_self _)), ⟨⟨.none, a1⟩, a2⟩, fun b hb => ?_, q⟩
 have hb' : s1.heap.objs.size ≤ b := by
  simp only [List.mem_cons, List.not_mem_nil, or_false] at hb
  rcases hb with rfl | rfl
  ·exact Nat.le_add_right _ _
  ·exact Nat.le_refl _
 exact I1.jy hb' (I1.hok.fresh hb')
section
variable {P : Program} {w : World} {K : PySem.W.Frag} {mg : Str → Option Value} {base : Heap} {k : Nat} {N : List Str} {sc : Scope} {bk : Bool} {c : Ctx P w K mg base k N sc bk} {ρ : List Sl} {pos tpos p : Pos} {a : Expr} {elts : List Expr} {kt : Nat}
theorem Bg {R : List D → Prop} (hm : mg (Str.ofString "enumerate") = none) (h : EvE c a ρ fun x => ∃ ds, x = .tup ds ∧ R (ji ds)) (hg : sc.names.lookup (Str.ofString "enumerate") = some .globalImplicit := by with_unfolding_all rfl)
 (hs : ∀ env, starEach [a] env = (false, eval a env) :: starEach [] env := by intro _; with_unfolding_all rfl) : EvI c (.Tuple elts kt tpos) (.Call (.Name (Str.ofString "enumerate") p) [a] [] pos) ρ R := fun σ H Hf Q S q pins s I =>
 yF (by unfold Gl Env.kindOf; rw [c.esc]; exact hg) (by rw [c.emg]; exact hm) (bq pbE cF (hs _)) (by rw [hs]; rfl) pins s σ H Q I
  (h σ H Hf _ S fun x v1 H1 Hf1 ⟨ds, e1, hR⟩ r1 g1 => by
    subst e1
    rw [aA] at r1
    obtain ⟨t, xs, rfl, s1, t1⟩ := r1
    exact ⟨t, xs, rfl, aq g1.b s1, q _ _ H1 Hf1 hR g1 (sF s1 t1)⟩)
end
end EV
set_option Elab.async false
set_option linter.all false
set_option maxRecDepth 100000
namespace EV
open PySem PySem.Spec PySem.Calls PyProof.Rows L2
def Itdn (lo : Int) (n : Nat) : It := ⟨fun i _ => i < n, fun i H x H' => H' = H ∧ x = .int (lo - i), fun i _ => n ≤ i⟩
def vQ (lo : Int) (n : Nat) : List D := (List.range n).map fun (i : Nat) => D.int (lo - (i : Int))
theorem sH {P : Program} {w : World} {K : PySem.W.Frag} {tg : Expr} (j : Addr) (lo : Int) (n : Nat) : Turn P w K tg (Itdn lo n) [j] j (fun i h => IsRangeIter h j (lo + (i : Nat) * -1) ((n : Int) - (i : Nat)) (-1)) where
 mem := List.mem_singleton.mpr rfl
 obj := fun i h st b hb => by
  obtain rfl : b = j := List.mem_singleton.mp hb
  exact ⟨_, st, fun v z => by have q : Data.fields _ = Data.cell v := z; cases q⟩
 keep := fun i h h' st k => k j (List.mem_singleton.mpr rfl) _ st
 item := by
  intro X hP hw hK hc i pins s σ H E I hf st hg
  subst hP hw hK
  obtain ⟨f0, f1, f2, f3, f4, f5⟩ := hf j (List.mem_singleton.mpr rfl)
  have W := Walks.range (prog := X.prog) (w := X.w) (I.ok.hd hc) j lo (-1) n
  refine W.item i s _ _ hg st fun v h' tk hv st' kk => ?_
  obtain ⟨t, rfl⟩ := hv
  have I1 : Inv X pins σ H { s with heap := h', toks := tk } := I.turned (fun b o hb e => kk b o (by simpa using hb) e) f0 f1 f3 f4 f5
  have e : lo + (i : Int) * -1 = lo - i := by omega
  exact ⟨_, rfl, lS (s := { s with heap := h', toks := tk }) (n := "range_iterator") st' rfl rfl (by decide) ⟨.int (lo - i), H, I1, ⟨t, by rw [e]⟩, ⟨rfl, rfl⟩, st', fun b hb => (hf b hb).1⟩⟩
 done := by
  intro X hP hw hK hc i pins s σ H E I hf st hg
  subst hP hw hK
  obtain ⟨f0, f1, f2, f3, f4, f5⟩ := hf j (List.mem_singleton.mpr rfl)
  exact wpAny_pyNext_range_end (I.ok.hd hc) st (by have : n ≤ i := hg; omega) fun h' eb => ⟨rfl, I.turned (t' := s.toks) (fun b o hb e => eb b o hb e) f0 f1 f3 f4 f5⟩
 self := fun _ _ _ _ _ st h => wpAny_pyIter_rangeiter st h
theorem jj {lo hi : Int} : Builtin.Range.rangeSize lo hi (-1) = ((lo - hi).toNat : Int) := by
 unfold Builtin.Range.rangeSize
 rw [if_neg (by decide)]
 split
 ·rw [show - (-1 : Int) = 1 by decide, Int.ediv_one]; omega
 ·omega
theorem small_down {a b : Int} (ha : -(2 ^ 62) ≤ a) (ha' : a < 2 ^ 62) (hb : -(2 ^ 62) ≤ b) (hb' : b < 2 ^ 62) : Builtin.Range.small a b (-1) = true := by
 unfold Builtin.Range.small
 rw [jj]
 simp only [Builtin.Range.rangeFitsLong, Bool.and_eq_true, Bool.or_eq_true, decide_eq_true_eq, beq_iff_eq, show ¬ (-1 : Int) > 0 by decide, if_false]
 omega
def iDown (ta : TA) : TI := fun σ H R => ta σ H fun vs H1 => ∃ i j : Int, vs = [.int i, .int j, .int (-1)] ∧ (-(2 ^ 62) ≤ i ∧ i < 2 ^ 62 ∧ -(2 ^ 62) ≤ j ∧ j < 2 ^ 62) ∧ R (Itdn i (i - j).toNat) H1
theorem yG {X : Cx} {tg a b c : Expr} {ta : TA} {p pos : Pos} (hg : Gl X "range") (hm : X.mg "range" = none) (ha : PA X [a, b, c] ta) (hs : starEach [a, b, c] X.env = [(false, eval a X.env), (false, eval b X.env), (false, eval c X.env)])
 (hs2 : starEach [b, c] X.env = [(false, eval b X.env), (false, eval c X.env)]) : PI X tg (.Call (.Name "range" p) [a, b, c] [] pos) (iDown ta) := by
 intro pins s σ H R I h
 refine Call_ (ck I hg hm boot_range (PyProof.Rows.callWith_type1 (thn (ha pos pins s σ H _ I h) fun us s1 ⟨vs, H1, I1, r1, q1⟩ => ?_) (by rw [hs, hs2]) (by rw [hs2]; rfl)))
 obtain ⟨i, j, e, ⟨q1, q2, q3, q4⟩, q⟩ := q1
 subst e
 cases r1 with
 | cons r rr => cases rr with
  | cons r' rr => cases rr with
   | cons r'' rr =>
    cases rr
    obtain ⟨t, rfl⟩ := r
    obtain ⟨t', rfl⟩ := r'
    obtain ⟨t'', rfl⟩ := r''
    refine call_range_3 (by decide) ?_ (.inl (PyProof.noPylong_of_log2 (by decide +kernel)))
    refine wpAny_pyIter_range (IsRange.new ..) (small_down q1 q2 q3 q4) ?_
    have I2 : Inv X pins σ H1 { s1 with heap := s1.heap.push { cls := .type "range", data := .fields #[.int i t, .int j t', .int (-1) t''] }, toks := s1.toks } := I1.kept fun b o e => Heap.get?_push_of_some _ e
    generalize s1.heap.push { cls := .type "range", data := .fields #[.int i t, .int j t', .int (-1) t''] } = g at I2 ⊢
    refine ⟨g.objs.size, [g.objs.size], _, _, H1, rfl, I2.kept (t' := s1.toks) fun b o e => Heap.get?_push_of_some _ e, sH _ i (i - j).toNat, ?_, fun b hb => ?_, q⟩
    ·show IsRangeIter _ _ (i + ((0 : Nat) : Int) * -1) ((((i - j).toNat : Nat) : Int) - ((0 : Nat) : Int)) (-1)
     rw [show i + ((0 : Nat) : Int) * -1 = i by simp, show (((i - j).toNat : Nat) : Int) - ((0 : Nat) : Int) = Builtin.Range.rangeSize i j (-1) by rw [jj]; omega]
     exact Heap.get?_push_size _ rfl
    ·obtain rfl : b = g.objs.size := List.mem_singleton.mp hb
     exact I2.jy (Nat.le_refl _) (I2.hok.fresh (Nat.le_refl _))
theorem vR {K : PySem.W.Frag} {lo : Int} {n : Nat} {Hf₀ : Hp} : gS K (Itdn lo n) (vQ lo n) Hf₀ where
 go := fun i d H Hf s1 s2 e => by
  unfold vQ at e
  rw [List.getElem?_map] at e
  obtain ⟨j, e1, e2⟩ := Option.map_eq_some_iff.mp e
  have hi : i < n := by simpa using (List.getElem?_eq_some_iff.mp e1).1
  have : j = i := by rw [List.getElem?_range hi] at e1; cases e1; rfl
  subst this
  refine ⟨hi, fun x H' ⟨e3, e4⟩ => ?_⟩
  subst e3 e4 e2
  exact ⟨Hf, .refl s2, ak.mpr rfl⟩
 stop := fun i H Hf s1 s2 e => show n ≤ i by simpa [vQ] using e
section
variable {P : Program} {w : World} {K : PySem.W.Frag} {mg : Str → Option Value} {base : Heap} {k : Nat} {N : List Str} {sc : Scope} {bk : Bool} {c : Ctx P w K mg base k N sc bk} {ρ : List Sl} {pos p : Pos} {a b e tg : Expr}
theorem Bh {R : List D → Prop} (hm : mg (Str.ofString "range") = none) (h : EvE c a ρ fun x => EvE c b ρ fun y => EvE c e ρ fun z => ∃ i j : Int, x = .int i ∧ y = .int j ∧ z = .int (-1) ∧ Sd (uP i) (Sd (uP j) (R (vQ i (i - j).toNat))))
 (hg : sc.names.lookup (Str.ofString "range") = some .globalImplicit := by with_unfolding_all rfl)
 (hs : ∀ env, starEach [a, b, e] env = (false, eval a env) :: starEach [b, e] env := by intro _; with_unfolding_all rfl) (hs2 : ∀ env, starEach [b, e] env = (false, eval b env) :: starEach [e] env := by intro _; with_unfolding_all rfl)
 (hs3 : ∀ env, starEach [e] env = (false, eval e env) :: starEach [] env := by intro _; with_unfolding_all rfl) : EvI c tg (.Call (.Name (Str.ofString "range") p) [a, b, e] [] pos) ρ R := fun σ H Hf Q S q pins s I =>
 yG (by unfold Gl Env.kindOf; rw [c.esc]; exact hg) (by rw [c.emg]; exact hm) (bq pbE (bq pbE (bq pbE cF (hs3 _)) (hs2 _)) (hs _)) (by rw [hs, hs2, hs3]; rfl) (by rw [hs2, hs3]; rfl) pins s σ H Q I
  (h σ H Hf _ S fun x v1 H1 Hf1 h1 r1 g1 => h1 σ H1 Hf1 _ (S.grw g1) fun y v2 H2 Hf2 h2 r2 g2 => h2 σ H2 Hf2 _ (S.grw (g1.trans g2)) fun z v3 H3 Hf3 ⟨i, j, e1, e2, e3, ⟨hi, ⟨hj, hR⟩⟩⟩ r3 g3 => by
    subst e1 e2 e3; rw [ak] at r1 r2 r3; subst r1 r2 r3
    exact ⟨i, j, rfl, ⟨hi.1, hi.2, hj.1, hj.2⟩, q _ _ H3 Hf3 hR ((g1.trans g2).trans g3) vR⟩)
end
end EV
set_option Elab.async false
set_option linter.all false
set_option maxRecDepth 100000
namespace EV
open PySem PySem.Spec PySem.Calls PyProof.Rows L2
abbrev ltI (x y : Int) : Bool := decide (x < y)
def Itk (d : Addr) (o : Obj) (ys : List (Key × V)) : It :=
 ⟨fun i H => H d = some (.frz o (.dK ys)) ∧ i < ys.length, fun i H x H' => H' = H ∧ ∃ y, ys[i]? = some y ∧ x = kV y.1, fun i H => H d = some (.frz o (.dK ys)) ∧ ys.length ≤ i⟩
section
variable {X : Cx} {pins : List (Addr × Obj)} {σ : L2.St} {H Hf : Hp} {s : Shared} {E : Value → Shared → Prop} {d : Addr} {o : Obj} {ys : List (Key × V)}
theorem lA (I : Inv X pins σ H s) (hH : H d = some (.frz o (.dK ys))) : ∃ (vs : List (Key × Value)) (es : Array DictEntry) (ep : Nat), o.data = .dict es ep ∧ KV ys vs ∧ s.heap.DictAt (aY X.prog X.w) d vs ep ∧ (d == sysModules) = false ∧ ys.length ≤ sizeLine := by
 obtain ⟨ho, ok⟩ := (show aJ X.prog X.w H s.heap d (.frz o (.dK ys)) from I.hok d _ hH)
 obtain ⟨z, y, vs, kv, o', es, ep, h1, h2, h3, h4, h5, h6⟩ := ok
 rw [ho] at h1; cases h1
 exact ⟨vs, es, ep, h3, kv, ⟨o, es, ho, h2, h3, h4, h5, h6⟩, y, z⟩
end
theorem sI {P : Program} {w : World} {K : PySem.W.Frag} {tg : Expr} {d j : Addr} {o : Obj} {ys : List (Key × V)} {es : Array DictEntry} {ep : Nat} (hod : o.data = .dict es ep) : Turn P w K tg (Itk d o ys) [j] j (fun i h => h.IsKeyIter j d i ys.length ep) where
 mem := List.mem_singleton.mpr rfl
 obj := fun i h ⟨q, e, _, hd⟩ b hb => by
  obtain rfl : b = j := List.mem_singleton.mp hb
  exact ⟨_, e, fun v z => by rw [hd] at z; cases z⟩
 keep := fun i h h' ⟨q, e, r⟩ k => ⟨q, k j (List.mem_singleton.mpr rfl) _ e, r⟩
 item := by
  intro X hP hw hK hc i pins s σ H E I hf st hg
  subst hP hw hK
  obtain ⟨f0, f1, f2, f3, f4, f5⟩ := hf j (List.mem_singleton.mpr rfl)
  obtain ⟨hH, hi⟩ := hg
  obtain ⟨vs, es', ep', e1, kv, da, _⟩ := lA I hH
  rw [hod] at e1; cases e1
  have hl : ys.length = vs.length := Paired.length kv
  obtain ⟨⟨ky, v⟩, hv, r1, r2⟩ := cX kv (List.getElem?_eq_getElem hi)
  rw [hl] at st
  refine wpAny_pyNext_dict_item st da hv fun key h' hkey hit' hs' => ?_
  have I1 : Inv X pins σ H { s with heap := h', toks := s.toks } := I.turned (fun b o hb e => hs'.extBut b o hb e) f0 f1 f3 f4 f5
  obtain ⟨q, e, qc, qd⟩ := id hit'
  rw [← hl] at hit'
  exact ⟨_, rfl, lS (s := { s with heap := h', toks := s.toks }) (n := "dict_keyiterator") e qc qd (by decide) ⟨kV ky, H, I1, qB hkey, ⟨rfl, _, List.getElem?_eq_getElem hi, by rw [r1]⟩, hit', fun b hb => (hf b hb).1⟩⟩
 done := by
  intro X hP hw hK hc i pins s σ H E I hf st hg
  subst hP hw hK
  obtain ⟨f0, f1, f2, f3, f4, f5⟩ := hf j (List.mem_singleton.mpr rfl)
  obtain ⟨hH, hi⟩ := hg
  obtain ⟨vs, es', ep', e1, kv, da, _⟩ := lA I hH
  rw [hod] at e1; cases e1
  have hl : ys.length = vs.length := Paired.length kv
  rw [hl] at st
  exact wpAny_pyNext_dict_end (I.ok.hd hc) st da (List.getElem?_eq_none (by omega)) fun h' eb => ⟨rfl, I.turned (t' := s.toks) (fun b o hb e => eb b o hb e) f0 f1 f3 f4 f5⟩
 self := fun _ _ _ _ _ st h => wpAny_pyIter_keyiter st h
theorem sJ {K : PySem.W.Frag} {Hf : Hp} {d : Addr} {o : Obj} {ys : List (Key × V)} {ns : List Int} (hH : Hf d = some (.frz o (.dK ys))) (hk : ys.map (·.1) = ns.map Sum.inl) : gS K (Itk d o ys) (ns.map D.int) Hf where
 go := fun i x H Hf1 s1 s2 e => by
  rw [List.getElem?_map, Option.map_eq_some_iff] at e
  obtain ⟨n, hn, rfl⟩ := e
  have hq := congrArg (fun l => l[i]?) hk
  simp only [List.getElem?_map, hn, Option.map_some] at hq
  obtain ⟨y, hy, ey⟩ := Option.map_eq_some_iff.mp hq
  refine ⟨⟨s2 _ _ (s1 _ _ hH), (List.getElem?_eq_some_iff.mp hy).1⟩, fun v H' ⟨e1, y', e2, e3⟩ => ?_⟩
  rw [hy] at e2; cases e2
  subst e1 e3
  exact ⟨Hf1, .refl s2, by rw [ey]; exact ak.mpr rfl⟩
 stop := fun i H Hf1 s1 s2 e => ⟨s2 _ _ (s1 _ _ hH), by
  have := congrArg List.length hk
  simp only [List.length_map] at this e
  omega⟩
section
variable {prog : Program} {w : World} {A : Around} {E : Value → Shared → Prop} {s : Shared}
theorem sL {v : Addr} {Q : Bool → Shared → Prop} (hT : s.TypeIs (.ref v) "dict") (hQ : Q false s) : wpAny (model prog w) A (Builtin.List.listLengthHint (.ref v)) Q E s := by
 unfold Builtin.List.listLengthHint
 refine wpAny_bind (wpAny_specialOf hT PySem.F.slot_dict_len.lookup ?_)
 have e : splitId "dict.__len__" = some ("dict", "__len__") := by decide +kernel
 dsimp only
 rw [e]
 dsimp only
 refine wpAny_bind (wpAny_isInstance (b := true) hT (by rw [isSubtype_type]; kernel_rfl) ?_)
 rw [if_neg (by decide)]
 exact wpAny_bind (wpAny_typeOf hT (wpAny_pure hQ))
end
section
variable {X : Cx} {pins : List (Addr × Obj)} {σ : L2.St} {H Hf : Hp} {s : Shared} {E : Value → Shared → Prop}
theorem nB {K : PySem.W.Frag} : ∀ {L : List Int} {us : List Value}, Paired (fun x u => Stn K Hf (D.int x) u) L us → IntsAre us L
 | _, _, .nil => .nil
 | _, _, .cons ⟨x, r1, h1⟩ t => by
  rw [ak] at h1; subst h1
  obtain ⟨tk, rfl⟩ := r1
  exact .cons _ _ (nB t)
theorem yH : SrtE X D.int ltI oneType' where
 lin := fun L => ⟨fun x _ => by simp, fun x _ y _ z _ h g => by simp only [decide_eq_true_eq] at *; omega, fun x _ y _ h => by simp only [decide_eq_true_eq]; omega⟩
 inj := fun _ _ _ _ _ _ _ x y u ⟨v, r1, h1⟩ ⟨v', r2, h2⟩ => by
  rw [ak] at h1 h2; subst h1 h2
  obtain ⟨t, rfl⟩ := r1
  obtain ⟨t', e⟩ := r2
  cases e; rfl
 kind := fun _ _ _ _ _ _ _ _ _ L us p h2 Q hQ => by
  rw [ksk_kind (kz := L) (nB p) (by simpa using h2)]
  exact wpAny_pure hQ
 cmp := fun _ _ _ _ _ _ _ _ _ _ x y u v ⟨a, r1, h1⟩ ⟨b, r2, h2⟩ Q hQ => by
  rw [ak] at h1 h2; subst h1 h2
  obtain ⟨t, rfl⟩ := r1
  obtain ⟨t', rfl⟩ := r2
  rw [keyLt'_oneType]
  exact oneLt_int hQ
theorem nC {d : Addr} {o : Obj} {ys : List (Key × V)} {ns : List Int} {b : Bool} {Q : Value → Shared → Prop} (hc : X.calm = true) (I : Inv X pins σ H s) (sb : aC Hf H) (hA : X.A.units + 60 < cLine) (hH : Hf d = some (.frz o (.dK ys))) (hk : ys.map (·.1) = ns.map Sum.inl) (nd : ns.Nodup)
 (hQ : ∀ (L' : List Int) (xs' : List V) (s' : Shared) (H' Hf' : Hp) (a : Addr), L'.Perm ns → gW ltI b L' → aj X.K Hf' (L'.map D.int) xs' → Grw H Hf H' Hf' → H' a = none → Inv X pins σ (upd H' a (.lst xs')) s' → Q (.ref a) s') :
 wpAny (model X.prog X.w) X.A (call (.builtin "sorted") [.ref d] [(Str.ofString "reverse", .bool b)]) Q E s := by
 refine call_function_entry_kw kind_sorted plain_sorted entry_sorted (args_sorted_rev _ _) ?_
 unfold Builtin.«sorted»
 refine wpAny_bind (m := checkCount "sorted" 1 1 _) (wpAny_pure ?_)
 have h1 : X.A.in1.handled = none := I.ok.hd hc
 have h2 : X.A.in1.frames = some X.stack := I.ok.frames
 obtain ⟨vs, es, ep, e1, kv, da, hs, hz⟩ := lA I (sb _ _ hH)
 have hl : ys.length = vs.length := Paired.length kv
 have hn : (ns.map D.int).length = ys.length := by have := congrArg List.length hk; simp only [List.length_map] at this ⊢; omega
 refine wpAny_bind (jc (X := cxA X X.A.in1) (H := H) (Hf := Hf) (ds := ns.map D.int) (T := "dict") hc h1 h2 (k8 I (fun _ => h1) h2) sb da.lt_size (by omega) (by decide) (fun s' k => (da.keep k).dictOf.typeIs) (fun A s' Q E q h => sL q h) (fun A s1 H1 E I1 sb1 k1 => ?_) fun us s' H' Hf' xs I' rv rr g hz' => ?_)
 ·refine wpAny_pyIter_dict hs (da.keep k1) ?_
  refine ⟨_, _, _, rfl, Nat.le_refl _, I1.kept (t' := s1.toks) fun b o e => Heap.get?_push_of_some _ e, sI e1, ⟨_, Heap.get?_push_size _ rfl, rfl, ?_⟩, fun b hb => ?_, fun b o e => Heap.get?_push_of_some _ e, sJ hH hk⟩
  ·rw [hl]; rfl
  ·obtain rfl : b = s1.heap.objs.size := List.mem_singleton.mp hb
   exact I1.jy (Nat.le_refl _) (I1.hok.fresh (Nat.le_refl _))
 ·have I2 := fS I.ok I'
  have el := rr.length
  have el2 := rv.length
  refine jd (b := b) yH I2 g.b ?_ rr rv (by omega) nd fun L' xs' s2 p1 p2 p3 p4 I3 => hQ L' xs' s2 H' Hf' _ p1 p2 p3 g (I2.hok.fresh (Nat.le_refl _)) I3
  show X.A.units + 1 + 20 < cLine
  omega
end
section
variable {P : Program} {w : World} {K : PySem.W.Frag} {mg : Str → Option Value} {base : Heap} {k : Nat} {N : List Str} {sc : Scope} {bk : Bool} {c : Ctx P w K mg base k N sc bk} {ρ : List Sl} {np pos kp kp1 : Pos} {e : Expr} {j : Nat}
theorem pq {R : Sl → Prop} (hm : mg (Str.ofString "sorted") = none) (h : EvE c e ρ fun d => ∃ (ns : List Int) (ds : List D), d = .fdK (ns.map Sum.inl) ds ∧ Sd ns.Nodup (∀ L' : List Int, L'.Perm ns → gW ltI true L' → R (.ow (L'.map D.int))))
 (hg : sc.names.lookup (Str.ofString "sorted") = some .globalImplicit := by with_unfolding_all rfl)
 (he : ∀ env, starEach [e] env = (false, eval e env) :: starEach [] env := by intro _; with_unfolding_all rfl)
 (hpl : ∀ env, (backTo pos (starEach [e] env)).any (·.1) = false := by intro _; with_unfolding_all rfl) :
 EvX c (.Call (.Name (Str.ofString "sorted") np) [e] [⟨some (Str.ofString "reverse"), .Constant (.bool true) j kp1, kp⟩] pos) ρ R := fun σ H Hf Q S q pins s I => by
 have hgl : Gl c.X (Str.ofString "sorted") := by unfold Gl Env.kindOf; rw [c.esc]; exact hg
 refine wpAny_Call_Name_kw (ck I hgl (by rw [c.emg]; exact hm) (show bootBuiltins (Str.ofString "sorted") = some (.builtin "sorted") by decide +kernel) ?_ (by decide) (by decide))
 refine callWith_kw ?_ (by rw [he]; rfl) (hpl _)
 have hpa := bq (X := c.X) (e := e) (es := []) pbE cF (he _)
 refine thn (hpa pos pins s σ H (fun vs H1 => ∃ x, vs = [x] ∧ ∃ (ns : List Int) (ds : List D) (Hf1 : Hp), Rep c.X.K Hf1 (.fdK (ns.map Sum.inl) ds) x ∧ ns.Nodup ∧ Grw H Hf H1 Hf1 ∧ ∀ L' : List Int, L'.Perm ns → gW ltI true L' → R (.ow (L'.map D.int))) I ?_) fun us s1 ⟨vs, H1, I1, r1, x, ex, ns, ds, Hf1, e1, e7, e8, e9⟩ => ?_
 ·exact h σ H Hf _ S fun d v H1 Hf1 ⟨ns, ds, hp, ⟨hn, hR⟩⟩ rv g => ⟨_, rfl, ns, ds, Hf1, by rw [← hp]; exact rv, hn, g, hR⟩
 ·subst ex
  obtain ⟨a0, ys, o, rfl, hs, hk, hr⟩ := fC.mp e1
  have eu : us = [.ref a0] := by
   cases r1 with
   | cons q1 q2 => cases q2; cases q1; rfl
  subst eu
  refine kws_cons (thn (pY (X := c.X) (b := true) (j := j) (pos := kp1) pins s1 σ _ (fun x H2 => x = .bl true ∧ H2 = H1) I1 ⟨rfl, rfl⟩) fun kv s2 ⟨x, H2, I2, rx, e10, e11⟩ => kws_nil ?_)
  subst e10 e11
  have ek : kv = .bool true := rx
  subst ek
  refine nC (b := true) c.calm I2 e8.b ?_ hs hk e7 fun L' xs' s' H' Hf' a p1 p2 p3 g na I3 => ?_
  ·have := c.room.un
   omega
  ·have gg := e8.trans g
   exact ⟨.ref a, _, I3, rfl, q (.ow (L'.map D.int)) _ _ Hf' (e9 L' p1 p2) ⟨a, xs', rfl, gg.s.free na, ai, g.b.free na, p3⟩ (gg.trans (Grw.dZ g.b na))⟩
end
end EV
set_option Elab.async false
set_option linter.all false
set_option maxRecDepth 100000
namespace EV
open PySem PySem.Spec PySem.Calls PyProof.Rows L2
theorem yI {prog : Program} {w : World} {A : Around} {E : Value → Shared → Prop} {s : Shared} {l : Addr} {o : Obj} {its : List Value} {n : Nat} {k : Int} {u : Tok} {Q : Value → Shared → Prop} (ho : s.heap.get? l = some o) (hc : o.cls = .type "tuple") (hd : o.data = .seq its.toArray n) (hk : 0 ≤ k) (hk2 : k < 2 ^ 63) (hz : its.length * k.toNat ≤ sizeLine) (hne : its ≠ [])
 (h1 : k = 1 → Q (.ref l) s) (h2 : k ≠ 1 → Q (.ref s.heap.objs.size) { s with heap := s.heap.push { cls := .type "tuple", data := .seq (List.replicate k.toNat its).flatten.toArray } }) :
 wpAny (model prog w) A (Builtin.«tuple.__mul__» ⟨[.ref l, .int k u], []⟩) (fun fin s' => ∃ v, fin = .done (.ret v) ∧ Q v s') E s := by
 unfold Builtin.«tuple.__mul__»
 show wpAny _ _ (asIndex (.int k u) >>= _) _ _ s
 have ea : asIndex (.int k u) = pure k := rfl
 rw [ea]
 refine wpAny_bind (wpAny_pure ?_)
 have b1 : (decide (k < -2 ^ 63) || decide (k ≥ 2 ^ 63)) = false := by simp only [Bool.or_eq_false_iff, decide_eq_false_iff_not]; omega
 rw [if_neg (by rw [b1]; exact Bool.false_ne_true)]
 dsimp only
 refine wpAny_bind (show wpAny _ _ (seqItems? (.ref l) >>= _) _ _ s from wpAny_bind (wpAny_seqItems ho hd (wpAny_pure ?_)))
 have hne' : its.toArray.isEmpty = false := by cases its with | nil => exact absurd rfl hne | cons a r => rfl
 rw [hne', Bool.false_or]
 by_cases e : k = 1
 ·rw [if_pos (by simp [e])]
  refine wpAny_bind (wpAny_bind (wpAny_typeOf ⟨o, ho, hc⟩ (wpAny_pure ?_)))
  rw [if_pos (by decide)]
  exact wpAny_bind (wpAny_rule (wpAny_pure ⟨_, rfl, h1 e⟩))
 ·rw [if_neg (by simpa using e)]
  have h2' := h2 e
  by_cases e0 : k = 0
  ·subst e0
   rw [if_pos (by decide)]
   exact wpAny_bind (wpAny_newObj_type (wpAny_pure ⟨_, rfl, h2'⟩))
  ·have hpos : 0 < k := by omega
   rw [if_neg (by simp; omega)]
   have hm : (its.toArray.size : Int) * k = ((its.length * k.toNat : Nat) : Int) := by
    rw [Int.natCast_mul, Int.toNat_of_nonneg hk, List.size_toArray]
   have hs : (sizeLine : Nat) ≤ (2 ^ 63 - 1) / 8 := by decide
   rw [hm, if_neg (by omega), if_neg (by unfold Builtin.Tuple.tupleTooMany; simp only [decide_eq_true_eq]; omega)]
   have ef := foldl_rep its k.toNat []
   rw [List.nil_append] at ef
   show wpAny _ _ (newObj (.type "tuple") (.seq (List.foldl (fun x1 x2 => x1 ++ x2) ([] : List Value).toArray (List.replicate k.toNat its.toArray))) >>= _) _ _ _
   rw [ef]
   exact wpAny_bind (wpAny_newObj_type (wpAny_pure ⟨_, rfl, h2'⟩) (hd := by
    show (List.replicate k.toNat its).flatten.toArray.size ≤ sizeLine
    rw [List.size_toArray, len_rep, Nat.mul_comm]; exact hz))
theorem pA : fillsNumberSlot (.type "tuple") "mul" = pure false := PySem.fillsNumberSlot_seq (id := "tuple.__mul__") (r := some (.builtin "tuple.__rmul__")) F.slot_tuple_mul.lookup (by decide +kernel) F.slot_tuple_rmul.lookup (by decide +kernel)
theorem pB : seqRepeat? (.type "tuple") = pure (some (.builtin "tuple.__mul__")) := by
 unfold seqRepeat?
 rw [PySem.seqSlot_of (T := "tuple") (name := "__mul__") (id := "tuple.__mul__") F.slot_tuple_mul.lookup (by decide +kernel), PySem.seqSlot_of (T := "tuple") (name := "__rmul__") (id := "tuple.__rmul__") F.slot_tuple_rmul.lookup (by decide +kernel)]
 rfl
theorem vS (a : Int) (t : Tok) (l : Addr) (o : Obj) (items : Array Value) (n : Nat) :
 Meets (Builtin.«int.__rmul__» ⟨[.int a t, .ref l], []⟩) (fun _ R s => s.heap.get? l = some o ∧ o.cls = .type "tuple" ∧ o.data = .seq items n ∧ R (.ok (.ret Value.notImplemented)) s) :=
 .of_wp fun prog w A R ⟨hp, g, d, tk, os⟩ ⟨hl, hc, hd, h⟩ => by
  obtain ⟨c, dc, dt, sl⟩ := o
  obtain rfl : c = .type "tuple" := hc
  obtain rfl : dt = .seq items n := hd
  wp_walk
  exact ⟨_, rfl, h⟩
def rRepT (K : PySem.W.Frag) : R2 := fun x y H Q => ∃ l k xs, x = .ref l ∧ y = .int k ∧ SqT K H l xs ∧ xs ≠ [] ∧ 0 ≤ k ∧ k < 2 ^ 63 ∧ xs.length * k.toNat ≤ sizeLine ∧ (k = 1 → Q (.ref l) H) ∧ (k ≠ 1 → ∀ p, H p = none → Q (.ref p) (upd H p (.tup (List.replicate k.toNat xs).flatten)))
theorem yJ {X : Cx} : OpR X (binaryOp .Mult) (rRepT X.K) := by
 intro pins s σ H x y v u Q I rx ry h
 obtain ⟨l, k, xs, rfl, rfl, hq, hne, h0, h1, hz, q1, q2⟩ := h
 cases rx
 obtain ⟨t, rfl⟩ := ry
 obtain ⟨its, r, pl, hz0⟩ := I.tuple hq
 obtain ⟨o, ho, hc, n, hd⟩ := pl
 have hl := r.length
 refine wpAny_binaryOp_repeat_ref (T := "tuple") (U := "int") (by decide) ⟨o, ho, hc⟩ (fun s' => typeIs_int s' k t) pA F.fills_int_mul F.slot_int_rmul pB F.slot_int_index.lookup
  (call_meets F.slot_int_rmul (typeIs_int s k t) F.entry_int_rmul (F.args_int_rmul_2 _ _) (vS k t l o _ _) ⟨ho, hc, hd, rfl, ⟨o, ho, hc⟩, wpAny_call_entry F.slot_tuple_mul ⟨o, ho, hc⟩ F.entry_tuple_mul (yI (its := its) ho hc hd h0 h1 (by rw [← hl]; exact hz) (by rintro rfl; cases r; exact hne rfl) (fun e => ?_) fun e => ?_) (F.args_tuple_mul_2 _ _)⟩)
 ·exact ⟨.ref l, H, I, rfl, q1 e⟩
 ·have Hp : H s.heap.objs.size = none := I.hok.fresh (Nat.le_refl _)
  have hz2 : (List.replicate k.toNat xs).flatten.length ≤ sizeLine := by rw [len_rep, Nat.mul_comm]; exact hz
  have IA : Inv X pins σ (upd H s.heap.objs.size (.tup (List.replicate k.toNat xs).flatten)) { s with heap := s.heap.push { cls := .type "tuple", data := .seq (List.replicate k.toNat its).flatten.toArray }, toks := s.toks } :=
   I.laid (a := s.heap.objs.size) (o := .tup (List.replicate k.toNat xs).flatten) (fun _ _ q => Heap.get?_push_of_some _ q) (Nat.le_refl _) ⟨hz2, _, r.rep k.toNat, _, Heap.get?_push_size _ rfl, rfl, 0, rfl⟩
  exact ⟨.ref s.heap.objs.size, _, IA, rfl, q2 e _ Hp⟩
section
variable {P : Program} {w : World} {K : PySem.W.Frag} {mg : Str → Option Value} {base : Heap} {k : Nat} {N : List Str} {sc : Scope} {bk : Bool} {c : Ctx P w K mg base k N sc bk} {ρ : List Sl} {pos : Pos} {a b : Expr} {R : D → Prop}
theorem Bj (h : EvE c a ρ fun x => EvE c b ρ fun y => ∃ ds n, x = .tup ds ∧ y = .int n ∧ Sd (ds ≠ [] ∧ 0 ≤ n ∧ n < 2 ^ 63 ∧ ds.length * n.toNat ≤ sizeLine) (R (.tup (List.replicate n.toNat ds).flatten))) : EvE c (.BinOp a .Mult b pos) ρ R := fun σ H Hf Q S q =>
 bw (tP yJ pbE pbE) (h σ H Hf _ S fun x v H1 Hf1 h1 r1 g1 => h1 σ H1 Hf1 _ (S.grw g1) fun y u H2 Hf2 ⟨ds, n, e1, e2, ⟨hne, n0, n1, hz⟩, hR⟩ r2 g2 => by
  subst e1 e2
  have r1' := Rep.mono g2.f _ r1
  obtain ⟨l, xs, rfl, k1, k2⟩ := aA.mp r1'
  rw [ak] at r2; subst r2
  have hl := k2.length
  have g := g1.trans g2
  refine ⟨l, n, xs, rfl, rfl, aq g2.b k1, by rintro rfl; exact hne (List.eq_nil_of_length_eq_zero hl), n0, n1, by rw [← hl]; exact hz, fun e => ?_, fun _ p hp => ?_⟩
  ·subst e
   refine q _ _ H2 Hf2 hR ?_ g
   rw [show (List.replicate (1 : Int).toNat ds).flatten = ds by simp]
   exact r1'
  ·have g3 := Grw.new (o := .tup (List.replicate n.toNat xs).flatten) g2.b hp
   exact q _ _ _ _ hR (aA.mpr ⟨p, _, rfl, .inl (.inl ai), (k2.mono g3.f).many _⟩) (g.trans g3))
end
end EV
set_option Elab.async false
set_option linter.all false
set_option maxRecDepth 100000
namespace EV
open PySem PySem.Spec PySem.Calls PyProof.Rows L2
section
variable {P : Program} {w : World} {K : PySem.W.Frag} {mg : Str → Option Value} {base : Heap} {k : Nat} {N : List Str} {sc : Scope} {bk : Bool} {c : Ctx P w K mg base k N sc bk} {ρ : List Sl} {pos ap cp : Pos} {e o : Expr} {nx : List Sl → Prop} {p : Pt}
theorem Bk (h : EvX c o ρ fun r => ∃ ds, r = .ow ds ∧ EvE c e ρ fun _ => Sd (ds.length < sizeLine) (nx ρ))
 (hs : ∀ env, swapsWith (.Call (.Attribute o (Str.ofString "append") ap) [e] [] cp) none pos.line env = pure false := by intro _; with_unfolding_all rfl)
 (hbase : ∀ env, attributeBase o (Str.ofString "append") env (eval o env) = eval o env := by intro _; with_unfolding_all rfl)
 (hfew : ∀ env, ((backTo cp (starEach [e] env)).all (fun x => !x.1) && (backToKw cp (keywordEach [] env)).all (fun x => x.1.isSome)
   && decide (([e] : List Expr).length + ([] : List Keyword).length + (if ([] : List Keyword).isEmpty then 0 else 1) < 30)) = true := by intro _; with_unfolding_all rfl)
 (hline : (ap.endLine == cp.line) = true := by with_unfolding_all rfl) (he : ∀ env, starEach [e] env = (false, eval e env) :: starEach [] env := by intro _; with_unfolding_all rfl) (hpl : ∀ env, (backTo cp (starEach [] env)).any (·.1) = false := by intro _; with_unfolding_all rfl) :
 EvS c (.Expr (.Call (.Attribute o (Str.ofString "append") ap) [e] [] cp) pos) ρ nx p := fun σ H Hf D S ou =>
 cB (g6 (zl PySem.F.plainAttrs_list PySem.F.slot_list_append PySem.F.type_list_append gp pbE (bq pbE cF (he _)) (hbase _) (hfew _) hline (he _) (hpl _)) (hs _))
  (h σ H Hf _ S fun r v H1 Hf1 ⟨ds, er, h1⟩ rr g1 => by
    subst er
    obtain ⟨l, xs, rfl, fl, k1, k2, k3⟩ := rr
    refine ⟨.inl ⟨rfl, xs, .inl (.inl k1)⟩, h1 σ H1 Hf1 _ (S.grw g1) fun d u H2 Hf2 ⟨hz, hn⟩ rd g2 => ?_⟩
    have k1' := g2.s _ _ k1
    have k2' : Hf2 l = none := g2.n l k2 (by rw [k1]; simp) (by intro ys; rw [k1]; simp)
    have g := g1.trans g2
    refine ⟨l, xs, u, rfl, rfl, k1', by rw [← k3.length]; exact hz, ou.nx σ _ Hf2 ρ (S.grw ⟨fun b q z => ?_, g.f, fun b q z => ?_, fun b z1 z2 z3 => g.n b z1 z2 z3⟩) hn⟩
    ·rw [L2.ah (au z fl)]; exact g.s b q z
    ·rw [L2.ah (au z k2')]; exact g.b b q z)
end
end EV
set_option Elab.async false
set_option linter.all false
set_option maxRecDepth 100000
namespace EV
open PySem PySem.Spec PyProof.Rows L2
def dig (b : Int) : Nat → (Nat → Int) → Int
 | 0, _ => 0
 | m + 1, f => f 0 * b ^ m + dig b m (fun i => f (i + 1))
abbrev at0 (p : List Int) (i : Nat) : Int := p.getD i 0
def pk (b : Int) (p : List Int) : Int := dig b 6 (at0 p)
theorem iA {b : Int} : ∀ {m : Nat} {f g : Nat → Int}, (∀ i, i < m → f i = g i) → dig b m f = dig b m g
 | 0, _, _, _ => rfl
 | m + 1, f, g, h => by
  unfold dig
  rw [h 0 (by omega), iA (m := m) fun i hi => h (i + 1) (by omega)]
theorem qQ {b : Int} : ∀ (m : Nat) (f g : Nat → Int), dig b m (fun i => f i + g i) = dig b m f + dig b m g
 | 0, _, _ => rfl
 | m + 1, f, g => by
  unfold dig
  rw [qQ m (fun i => f (i + 1)) (fun i => g (i + 1)), Int.add_mul]
  omega
theorem jk {b : Int} : ∀ (m : Nat), dig b m (fun _ => 0) = 0
 | 0 => rfl
 | m + 1 => by unfold dig; rw [jk m, Int.zero_mul]; rfl
theorem eU {b : Int} (hb : 0 < b) : ∀ (m : Nat) (f : Nat → Int), (∀ i, i < m → 0 ≤ f i ∧ f i < b) → 0 ≤ dig b m f ∧ dig b m f < b ^ m
 | 0, _, _ => ⟨Int.le_refl _, by show (0 : Int) < b ^ 0; rw [Int.pow_zero]; decide⟩
 | m + 1, f, h => by
  have h0 := h 0 (by omega)
  have ih := eU hb m (fun i => f (i + 1)) fun i hi => h (i + 1) (by omega)
  have hp : 0 < b ^ m := Int.pow_pos hb
  unfold dig
  rw [Int.pow_succ]
  have a1 : 0 ≤ f 0 * b ^ m := Int.mul_nonneg h0.1 (by omega)
  have a2 : (f 0 + 1) * b ^ m ≤ b * b ^ m := Int.mul_le_mul_of_nonneg_right (by omega) (by omega)
  rw [Int.add_mul, Int.one_mul] at a2
  rw [Int.mul_comm (b ^ m) b]
  omega
theorem qR {b : Int} (hb : 0 < b) : ∀ (m : Nat) (f : Nat → Int), (∀ i, i < m → 0 ≤ f i ∧ f i < b) → ∀ i, i < m → dig b m f / b ^ (m - 1 - i) % b = f i
 | 0, _, _, _, hi => absurd hi (Nat.not_lt_zero _)
 | m + 1, f, h, i, hi => by
  have ih := qR hb m (fun i => f (i + 1)) fun i hi => h (i + 1) (by omega)
  have bd := eU hb m (fun i => f (i + 1)) fun i hi => h (i + 1) (by omega)
  have hp : 0 < b ^ m := Int.pow_pos hb
  unfold dig
  cases i with
  | zero =>
   rw [show m + 1 - 1 - 0 = m by omega, Int.add_comm, Int.add_mul_ediv_right _ _ (by omega), Int.ediv_eq_zero_of_lt bd.1 bd.2, Int.zero_add]
   exact Int.emod_eq_of_lt (h 0 (by omega)).1 (h 0 (by omega)).2
  | succ i =>
   have e : b ^ m = b ^ (i + 1) * b ^ (m - 1 - i) := by rw [← Int.pow_add]; congr 1; omega
   have hq : 0 < b ^ (m - 1 - i) := Int.pow_pos hb
   rw [show m + 1 - 1 - (i + 1) = m - 1 - i by omega, e, ← Int.mul_assoc, Int.add_comm, Int.add_mul_ediv_right _ _ (by omega), Int.pow_succ, ← Int.mul_assoc, Int.add_mul_emod_self_right]
   exact ih i (by omega)
theorem gz {x : Int} {p : List Int} (h : trim (x :: p) = x :: p) : trim p = p := by
 rcases List.eq_nil_or_concat p with rfl | ⟨r, z, rfl⟩
 ·rfl
 ·rw [List.concat_eq_append] at h ⊢
  by_cases e : z = 0
  ·subst e
   rw [← List.cons_append, gv] at h
   have := congrArg List.length h
   have l := fT (x :: r)
   simp only [List.length_cons, List.length_append, List.length_nil] at this l
   omega
  ·exact j8 r e
theorem nD : ∀ {p : List Int}, trim p = p → p ≠ [] → (∀ x ∈ p, 0 ≤ x) → ∃ i, i < p.length ∧ 0 < at0 p i
 | [], _, h, _ => absurd rfl h
 | [x], h, _, h0 => by
  refine ⟨0, by simp, ?_⟩
  have : x ≠ 0 := by rintro rfl; simp [trim] at h
  have := h0 x (by simp)
  show 0 < x
  omega
 | x :: y :: p, h, _, h0 => by
  obtain ⟨i, hi, hq⟩ := nD (gz h) (by simp) fun z hz => h0 z (List.mem_cons_of_mem _ hz)
  exact ⟨i + 1, by simp only [List.length_cons] at *; omega, by simpa [at0] using hq⟩
theorem qS {b : Int} (hb : 0 < b) : ∀ (m : Nat) (f : Nat → Int), (∀ i, i < m → 0 ≤ f i ∧ f i < b) → (∃ i, i < m ∧ 0 < f i) → 0 < dig b m f
 | 0, _, _, h => by obtain ⟨i, hi, _⟩ := h; omega
 | m + 1, f, h, ⟨i, hi, hq⟩ => by
  have bd := eU hb m (fun i => f (i + 1)) fun i hi => h (i + 1) (by omega)
  have hp : 0 < b ^ m := Int.pow_pos hb
  unfold dig
  cases i with
  | zero =>
   have := Int.mul_pos hq hp
   omega
  | succ i =>
   have := qS hb m (fun i => f (i + 1)) (fun i hi => h (i + 1) (by omega)) ⟨i, by omega, hq⟩
   have := Int.mul_nonneg (h 0 (by omega)).1 (show 0 ≤ b ^ m by omega)
   omega
theorem vU {b : Int} (hb : 0 < b) : ∀ (m : Nat) (p q : List Int), trim p = p → trim q = q → p.length ≤ m → q.length ≤ m → (∀ x ∈ p, 0 ≤ x ∧ x < b) → (∀ x ∈ q, 0 ≤ x ∧ x < b) → HT.lexLt p q = true → dig b m (at0 p) < dig b m (at0 q)
 | m, [], [], _, _, _, _, _, _, h => by cases h
 | m, [], y :: q, _, tq, _, lq, _, hq, _ => by
  have e : dig b m (at0 []) = 0 := by
   rw [show at0 ([] : List Int) = fun _ => 0 from funext fun i => by simp [at0]]; exact jk m
  rw [e]
  obtain ⟨i, hi, h0⟩ := nD tq (by simp) fun x hx => (hq x hx).1
  refine qS hb m _ (fun j hj => ?_) ⟨i, by omega, h0⟩
  by_cases z : j < (y :: q).length
  ·have : at0 (y :: q) j = (y :: q)[j] := by unfold at0; rw [List.getD_eq_getElem?_getD, List.getElem?_eq_getElem z]; rfl
   rw [this]; exact hq _ (List.getElem_mem _)
  ·have : at0 (y :: q) j = 0 := by simp only [at0, List.getD_eq_getElem?_getD, List.getElem?_eq_none (by omega : (y :: q).length ≤ j)]; rfl
   rw [this]; omega
 | m, x :: p, [], _, _, _, _, _, _, h => by cases h
 | 0, x :: p, y :: q, _, _, lp, _, _, _, _ => by simp at lp
 | m + 1, x :: p, y :: q, tp, tq, lp, lq, hp, hq, h => by
  simp only [List.length_cons] at lp lq
  rw [HT.bO] at h
  have rd : ∀ (r : List Int), (∀ z ∈ r, 0 ≤ z ∧ z < b) → ∀ j, 0 ≤ at0 r j ∧ at0 r j < b := fun r hr j => by
   by_cases z : j < r.length
   ·have : at0 r j = r[j] := by unfold at0; rw [List.getD_eq_getElem?_getD, List.getElem?_eq_getElem z]; rfl
    rw [this]; exact hr _ (List.getElem_mem _)
   ·have : at0 r j = 0 := by simp only [at0, List.getD_eq_getElem?_getD, List.getElem?_eq_none (by omega : r.length ≤ j)]; rfl
    rw [this]; omega
  have hp' : ∀ z ∈ p, 0 ≤ z ∧ z < b := fun z hz => hp z (List.mem_cons_of_mem _ hz)
  have hq' : ∀ z ∈ q, 0 ≤ z ∧ z < b := fun z hz => hq z (List.mem_cons_of_mem _ hz)
  unfold dig
  show x * b ^ m + dig b m (at0 p) < y * b ^ m + dig b m (at0 q)
  by_cases e : x = y
  ·rw [if_pos e] at h
   subst e
   have := vU hb m p q (gz tp) (gz tq) (by omega) (by omega) hp' hq' h
   omega
  ·rw [if_neg e] at h
   have hxy : x < y := of_decide_eq_true h
   have b1 := eU hb m (at0 p) fun i _ => rd p hp' i
   have b2 := eU hb m (at0 q) fun i _ => rd q hq' i
   have a2 : (x + 1) * b ^ m ≤ y * b ^ m := Int.mul_le_mul_of_nonneg_right (by omega) (by have hh : 0 < b ^ m := Int.pow_pos hb; omega)
   rw [Int.add_mul, Int.one_mul] at a2
   omega
end EV
set_option Elab.async false
set_option linter.all false
set_option maxRecDepth 100000
namespace EV
open PySem PySem.Spec PyProof.Rows L2
def Bd (b : Int) (p : List Int) : Prop := p.length ≤ 6 ∧ ∀ x ∈ p, 0 ≤ x ∧ x < b
theorem cH {p : List Int} {j : Nat} (z : j < p.length) : at0 p j = p[j] := by unfold at0; rw [List.getD_eq_getElem?_getD, List.getElem?_eq_getElem z]; rfl
theorem bZ {p : List Int} {j : Nat} (z : p.length ≤ j) : at0 p j = 0 := by unfold at0; rw [List.getD_eq_getElem?_getD, List.getElem?_eq_none z]; rfl
theorem zC {b : Int} (hb : 0 < b) {p : List Int} (h : Bd b p) (i : Nat) : 0 ≤ at0 p i ∧ at0 p i < b := by
 by_cases z : i < p.length
 ·rw [cH z]; exact h.2 _ (List.getElem_mem _)
 ·rw [bZ (by omega)]; omega
theorem nE (p : List Int) : ∃ m, p = trim p ++ List.replicate m 0 := by
 suffices H : ∀ r : List Int, ∃ m, r = List.replicate m 0 ++ r.dropWhile fun x => x == 0 by
  obtain ⟨m, h⟩ := H p.reverse
  refine ⟨m, ?_⟩
  have := congrArg List.reverse h
  rw [List.reverse_reverse, List.reverse_append, List.reverse_replicate] at this
  exact this
 intro r
 induction r with
 | nil => exact ⟨0, rfl⟩
 | cons x r ih =>
  by_cases e : x = 0
  ·subst e
   obtain ⟨m, h⟩ := ih
   refine ⟨m + 1, ?_⟩
   rw [List.replicate_succ, List.dropWhile_cons_of_pos (by simp), List.cons_append, ← h]
  ·exact ⟨0, by rw [List.dropWhile_cons_of_neg (by simpa using e)]; rfl⟩
theorem vV (p : List Int) (i : Nat) : at0 (trim p) i = at0 p i := by
 obtain ⟨m, h⟩ := nE p
 by_cases z : i < (trim p).length
 ·have e : at0 p i = at0 (trim p ++ List.replicate m 0) i := by rw [← h]
  rw [e]
  unfold at0
  simp only [List.getD_eq_getElem?_getD]
  rw [List.getElem?_append_left z]
 ·rw [bZ (by omega)]
  have e : at0 p i = at0 (trim p ++ List.replicate m 0) i := by rw [← h]
  rw [e]
  unfold at0
  simp only [List.getD_eq_getElem?_getD]
  rw [List.getElem?_append_right (by omega), List.getElem?_replicate]
  split <;> rfl
theorem yK (b : Int) (p : List Int) : pk b (trim p) = pk b p := iA fun i _ => vV p i
theorem nF {p : List Int} {x : Int} (h : x ∈ trim p) : x ∈ p := by
 obtain ⟨m, e⟩ := nE p
 rw [e]; exact List.mem_append_left _ h
theorem lB {b : Int} {p : List Int} (h : Bd b p) : Bd b (trim p) := ⟨Nat.le_trans (fT p) h.1, fun x hx => h.2 x (nF hx)⟩
theorem vW {b : Int} (hb : 0 < b) {p q : List Int} (hp : Bd b p) (hq : Bd b q) (tp : trim p = p) (tq : trim q = q) (h : HT.lexLt p q = true) : pk b p < pk b q := vU hb 6 p q tp tq hp.1 hq.1 hp.2 hq.2 h
theorem pD {b : Int} (hb : 0 < b) {p q : List Int} (hp : Bd b p) (hq : Bd b q) (tp : trim p = p) (tq : trim q = q) (h : pk b p = pk b q) : p = q := by
 by_cases e : p = q
 ·exact e
 ·exfalso
  rcases k6 e with z | z
  ·have := vW hb hp hq tp tq z; omega
  ·have := vW hb hq hp tq tp z; omega
def unp (b : Int) (key : Int) : List Int := trim ((List.range 6).map fun (i : Nat) => key / b ^ (5 - i) % b)
theorem Bl {b : Int} (hb : 0 < b) {p : List Int} (h : Bd b p) : unp b (pk b p) = trim p := by
 have e : ((List.range 6).map fun (i : Nat) => pk b p / b ^ (5 - i) % b) = p ++ List.replicate (6 - p.length) 0 := by
  refine List.ext_getElem (by simp; have := h.1; omega) fun i h1 h2 => ?_
  have hi : i < 6 := by simpa using h1
  rw [List.getElem_map, List.getElem_range]
  have := qR hb 6 (at0 p) (fun j _ => zC hb h j) i hi
  rw [show 6 - 1 - i = 5 - i by omega] at this
  rw [show pk b p = dig b 6 (at0 p) from rfl, this]
  by_cases z : i < p.length
  ·rw [cH z, List.getElem_append_left z]
  ·rw [bZ (by omega), List.getElem_append_right (by omega), List.getElem_replicate]
 unfold unp
 rw [e]
 generalize 6 - p.length = m
 induction m with
 | zero => simp
 | succ m ih => rw [List.replicate_succ', ← List.append_assoc, gv]; exact ih
def cI (B : List (Int × Int)) : List (Key × D) := B.map fun x => (.inl x.1, .int x.2)
theorem fW (B : List (Int × Int)) (k : Int) : bh (cI B) (.inl k) = (bh B k).map D.int := by
 induction B with
 | nil => rfl
 | cons t B ih =>
  by_cases e : t.1 = k
  ·rw [bH e]
   show bh ((Sum.inl t.1, D.int t.2) :: cI B) _ = _
   rw [bH (by rw [e])]; rfl
  ·rw [bJ e, ← ih]
   show bh ((Sum.inl t.1, D.int t.2) :: cI B) _ = _
   rw [bJ fun z => e (Sum.inl.inj z)]
theorem nG (B : List (Int × Int)) (k n : Int) : putD (cI B) (.inl k) (.int n) = cI (putD B k n) := by
 unfold putD
 rw [fW]
 by_cases h : (bh B k).isSome = true
 ·rw [if_pos h, if_pos (by rw [Option.isSome_map]; exact h)]
  unfold cI
  rw [List.map_map, List.map_map]
  refine List.map_congr_left fun t _ => ?_
  simp only [Function.comp]
  by_cases e : t.1 = k
  ·rw [if_pos e, if_pos (by rw [e])]
  ·rw [if_neg e, if_neg fun z => e (Sum.inl.inj z)]
 ·rw [if_neg h, if_neg (by rw [Option.isSome_map]; exact h)]
  unfold cI
  simp
def pkT (b : Int) (t : Trm) : Int × Int := (pk b t.1, t.2)
def Gd (b : Int) (A : List Trm) : Prop := ∀ t ∈ A, Bd b t.1 ∧ trim t.1 = t.1
theorem pF {b : Int} (hb : 0 < b) {A : List Trm} {p : List Int} (h : Gd b A) (hp : Bd b p) (tp : trim p = p) : bh (A.map (pkT b)) (pk b p) = bh A p := by
 induction A with
 | nil => rfl
 | cons t A ih =>
  have ih := ih fun x hx => h x (List.mem_cons_of_mem _ hx)
  have ht := h t List.mem_cons_self
  by_cases e : t.1 = p
  ·rw [bH e, List.map_cons, bH (show (pkT b t).1 = pk b p by unfold pkT; rw [e])]; rfl
  ·rw [bJ e, List.map_cons, bJ fun z => e (pD hb ht.1 hp ht.2 tp z), ih]
theorem Bm {b : Int} (hb : 0 < b) {A : List Trm} {p : List Int} {n : Int} (h : Gd b A) (hp : Bd b p) (tp : trim p = p) : putD (A.map (pkT b)) (pk b p) n = (putD A p n).map (pkT b) := by
 unfold putD
 rw [pF hb h hp tp]
 split
 ·rw [List.map_map, List.map_map]
  refine List.map_congr_left fun t ht => ?_
  simp only [Function.comp]
  by_cases e : t.1 = p
  ·rw [if_pos e, if_pos (show (pkT b t).1 = pk b p by unfold pkT; rw [e])]; rfl
  ·rw [if_neg e, if_neg (show ¬ (pkT b t).1 = pk b p from fun z => e (pD hb (h t ht).1 hp (h t ht).2 tp z))]
 ·simp [pkT]
theorem Bo {b : Int} {A : List Trm} {p : List Int} {n : Int} (h : Gd b A) (hp : Bd b p) (tp : trim p = p) : Gd b (putD A p n) := fun t ht => by
 rcases qN ht with e | e
 ·rw [e]; exact ⟨hp, tp⟩
 ·exact h t e
theorem lC {b : Int} {ts : List Trm} (h : ∀ t ∈ ts, Bd b t.1) : Gd b (aH ts) := by
 unfold aH
 suffices H : ∀ A, Gd b A → Gd b (ts.foldl gy A) from H [] (fun _ h => by cases h)
 induction ts with
 | nil => exact fun A h => h
 | cons u ts ih => exact fun A hA => ih (fun t ht => h t (List.mem_cons_of_mem _ ht)) _ (Bo hA (lB (h u List.mem_cons_self)) (dW _))
theorem Bp {b : Int} (hb : 0 < b) {ts : List Trm} {t : Trm} (h : ∀ t ∈ ts, Bd b t.1) (ht : Bd b t.1) :
 putD ((aH ts).map (pkT b)) (pk b t.1) ((bh ((aH ts).map (pkT b)) (pk b t.1)).getD 0 + t.2) = (aH (ts ++ [t])).map (pkT b) := by
 rw [je]
 unfold gy
 rw [← yK b t.1, pF hb (lC h) (lB ht) (dW _), Bm hb (lC h) (lB ht) (dW _)]
theorem nH : ∀ {L M : List Int}, L.Perm M → L.Pairwise (fun x y => y < x) → M.Pairwise (fun x y => y < x) → L = M
 | [], M, h, _, _ => by rw [List.nil_perm] at h; exact h.symm
 | x :: L, [], h, _, _ => by simp at h
 | x :: L, y :: M, h, h1, h2 => by
  rw [List.pairwise_cons] at h1 h2
  by_cases e : x = y
  ·subst e
   rw [nH ((List.perm_cons _).mp h) h1.2 h2.2]
  ·exfalso
   have hx : x ∈ M := (List.mem_cons.mp (h.subset List.mem_cons_self)).resolve_left e
   have hy : y ∈ L := (List.mem_cons.mp (h.symm.subset List.mem_cons_self)).resolve_left (Ne.symm e)
   have a := h1.1 y hy
   have b := h2.1 x hx
   omega
theorem yL {A : List Trm} (hk : (A.map (·.1)).Nodup) {t : Trm} (h : t ∈ A) : bh A t.1 = some t.2 := by
 induction A with
 | nil => cases h
 | cons u A ih =>
  rw [List.map_cons, List.nodup_cons] at hk
  rcases List.mem_cons.mp h with rfl | h
  ·exact bH rfl
  ·rw [bJ fun e => hk.1 (by rw [e]; exact List.mem_map_of_mem h)]
   exact ih hk.2 h
theorem vX {b : Int} (hb : 0 < b) {ts : List Trm} (h : ∀ t ∈ ts, Bd b t.1) {L' : List Int} (hp : L'.Perm (((aH ts).map (pkT b)).map (·.1))) (hs : L'.Pairwise fun x y => y < x) : L' = (fV (aH ts)).map fun t => pk b t.1 := by
 have hg := lC h
 have hk := fU ts
 generalize aH ts = A at *
 refine nH (hp.trans ?_) hs ?_
 ·rw [List.map_map]
  exact ((bx A).map _).symm
 ·rw [List.pairwise_map]
  have hs2 := iz (keys_nodup hk)
  have hm : ∀ t ∈ fV A, t ∈ A := fun t ht => (bx A).subset ht
  have hk2 : (fV A).Pairwise fun x y => x.1 ≠ y.1 := by
   have := ((bx A).map (·.1)).nodup_iff.mpr hk
   unfold List.Nodup at this
   rwa [List.pairwise_map] at this
  unfold dJ gW at hs2
  refine List.Pairwise.imp_of_mem (R := fun x y => (if true then bM y x = true else bM x y = true) ∧ x.1 ≠ y.1) (fun {x y} hx hy q => ?_) (hs2.and hk2)
  obtain ⟨q1, q2⟩ := q
  rw [if_pos rfl] at q1
  unfold bM at q1
  rw [if_neg (Ne.symm q2)] at q1
  exact vW hb (hg _ (hm _ hy)).1 (hg _ (hm _ hx)).1 (hg _ (hm _ hy)).2 (hg _ (hm _ hx)).2 q1
end EV
set_option Elab.async false
set_option linter.all false
set_option maxRecDepth 100000
namespace EV
open PySem PySem.Spec PyProof.Rows L2
def hrn (b : Int) (p : List Int) : Int := p.foldl (fun a x => a * b + x) 0
theorem vY (b : Int) (p : List Int) (x : Int) : hrn b (p ++ [x]) = hrn b p * b + x := by unfold hrn; rw [List.foldl_append]; rfl
theorem nI (b : Int) : ∀ (p : List Int) (a : Int), p.foldl (fun a x => a * b + x) a = a * b ^ p.length + dig b p.length (at0 p)
 | [], a => by simp [dig]
 | x :: p, a => by
  rw [List.foldl_cons, nI b p]
  show (a * b + x) * b ^ p.length + _ = a * b ^ (p.length + 1) + (x * b ^ p.length + dig b p.length (at0 p))
  rw [Int.add_mul, Int.pow_succ, Int.mul_assoc, Int.mul_comm b (b ^ p.length)]
  omega
theorem qT (b : Int) (p : List Int) : hrn b p = dig b p.length (at0 p) := by unfold hrn; rw [nI]; omega
theorem nJ {b : Int} (k : Nat) : ∀ (m : Nat) (f : Nat → Int), (∀ i, m ≤ i → f i = 0) → dig b (m + k) f = dig b m f * b ^ k
 | 0, f, h => by
  rw [Nat.zero_add, iA (g := fun _ => 0) fun i _ => h i (Nat.zero_le _), jk]
  show 0 = 0 * b ^ k
  rw [Int.zero_mul]
 | m + 1, f, h => by
  rw [show m + 1 + k = (m + k) + 1 by omega]
  unfold dig
  rw [nJ k m (fun i => f (i + 1)) fun i hi => h (i + 1) (by omega), Int.add_mul, Int.pow_add, Int.mul_assoc]
theorem Bq {b : Int} {p : List Int} (h : p.length ≤ 6) : hrn b p * b ^ (6 - p.length) = pk b p := by
 rw [qT, ← nJ (6 - p.length) p.length (at0 p) fun i hi => bZ hi]
 rw [show p.length + (6 - p.length) = 6 by omega]
 rfl
theorem vZ {b : Int} (hb : 0 < b) {p : List Int} (h : ∀ x ∈ p, 0 ≤ x ∧ x < b) : 0 ≤ hrn b p ∧ hrn b p < b ^ p.length := by
 rw [qT]
 exact eU hb _ _ fun i hi => by rw [cH hi]; exact h _ (List.getElem_mem _)
theorem pk_bd {b : Int} (hb : 0 < b) {p : List Int} (h : Bd b p) : 0 ≤ pk b p ∧ pk b p < b ^ 6 := eU hb _ _ fun i _ => zC hb h i
theorem two_pos (W : Nat) : (0 : Int) < 2 ^ W := Int.pow_pos (by decide)
theorem dY (W : Nat) : ((2 : Int) ^ W) = ((2 ^ W : Nat) : Int) := by rw [Int.natCast_pow]; rfl
theorem v5 {W n : Nat} (hW : W ≤ 10) (hn : n ≤ 6) : ((2 : Int) ^ W) ^ n ≤ 2 ^ 60 := by
 rw [← Int.pow_mul, dY, dY]
 exact Int.ofNat_le.mpr (Nat.pow_le_pow_right (by decide) (Nat.le_trans (Nat.mul_le_mul hW hn) (by decide)))
theorem qU {W : Nat} (hW : W ≤ 10) {x : Int} {n : Nat} (hn : n ≤ 6) (h0 : 0 ≤ x) (h : x < ((2 : Int) ^ W) ^ n) : x.natAbs < 2 ^ 64 := by
 have := v5 hW hn
 have h60 : (2 : Int) ^ 60 < 2 ^ 64 := by decide
 have : x < ((2 ^ 64 : Nat) : Int) := by rw [← dY]; omega
 omega
theorem sM {x : Int} (W : Nat) (h : 0 ≤ x) : Builtin.bitAnd x (1 * 2 ^ W - 1) = x % 2 ^ W := by
 have hp := two_pos W
 have e0 : (1 : Int) * 2 ^ W - 1 = ((2 ^ W - 1 : Nat) : Int) := by
  have : 0 < 2 ^ W := Nat.pow_pos (by decide)
  rw [Int.one_mul, dY]; omega
 rw [e0]
 show (match decide (0 ≤ x), decide (0 ≤ ((2 ^ W - 1 : Nat) : Int)) with
  | true, true => (((x.toNat &&& (((2 ^ W - 1 : Nat) : Int)).toNat : Nat)) : Int)
  | true, false => _ | false, true => _ | false, false => _) = _
 rw [decide_eq_true h, decide_eq_true (Int.natCast_nonneg _)]
 show ((x.toNat &&& (2 ^ W - 1) : Nat) : Int) = _
 rw [Nat.and_two_pow_sub_one_eq_mod, dY, Int.natCast_emod, Int.toNat_of_nonneg h]
end EV
set_option Elab.async false
set_option linter.all false
set_option maxRecDepth 100000
namespace EV
open PySem PySem.Spec PyProof.Rows L2
def fX (p q : List Int) : List Int := (List.range (max p.length q.length)).map fun k => at0 p k + at0 q k
def cQ (l r : Trm) : Trm := (fX l.1 r.1, l.2 * r.2)
def aP (A B : List Trm) : List Trm := A.flatMap fun l => B.map (cQ l)
theorem dO (p q : List Int) : (fX p q).length = max p.length q.length := by simp [fX]
theorem v7 (p q : List Int) (i : Nat) : at0 (fX p q) i = at0 p i + at0 q i := by
 by_cases z : i < max p.length q.length
 ·rw [cH (by rw [dO]; exact z)]; simp [fX]
 ·rw [bZ (by rw [dO]; omega), bZ (by omega), bZ (by omega)]; rfl
theorem yM (b : Int) (p q : List Int) : pk b (fX p q) = pk b p + pk b q := by
 unfold pk
 rw [← qQ]
 exact iA fun i _ => v7 p q i
theorem fY {A B : List Trm} {t : Trm} (h : t ∈ aP A B) : ∃ l ∈ A, ∃ r ∈ B, t = cQ l r := by
 unfold aP at h
 obtain ⟨l, hl, h⟩ := List.mem_flatMap.mp h
 obtain ⟨r, hr, rfl⟩ := List.mem_map.mp h
 exact ⟨l, hl, r, hr, rfl⟩
theorem ko (A B : List Trm) (l : Trm) : aP (A ++ [l]) B = aP A B ++ B.map (cQ l) := by
 unfold aP
 rw [List.flatMap_append, List.flatMap_cons, List.flatMap_nil, List.append_nil]
theorem cR (A B : List Trm) : (aP A B).length = A.length * B.length := by
 induction A with
 | nil => simp [aP]
 | cons a A ih =>
  unfold aP at *
  rw [List.flatMap_cons, List.length_append, ih, List.length_map, List.length_cons, Nat.succ_mul]
  omega
end EV
set_option Elab.async false
set_option linter.all false
set_option maxRecDepth 100000
namespace EV
open PySem PySem.Spec PySem.Calls PyProof.Rows L2
theorem v8 {K : PySem.W.Frag} {H : Hp} : ∀ {kvs : List (Key × D)} {ys : List (Key × V)}, ys.map (·.1) = kvs.map (·.1) → aj K H (kvs.map (·.2)) (ys.map (·.2)) → KVR K H kvs ys
 | [], [], _, _ => .nil
 | [], y :: ys, h, _ => by simp at h
 | x :: kvs, [], h, _ => by simp at h
 | x :: kvs, y :: ys, h, r => by
  rw [List.map_cons, List.map_cons] at h r
  obtain ⟨v, t, e, r1, r2⟩ := az.mp r
  injection e with e1 e2
  injection h with h1 h2
  subst e1 e2
  exact .cons ⟨h1.symm, r1⟩ (v8 h2 r2)
section
variable {P : Program} {w : World} {K : PySem.W.Frag} {mg : Str → Option Value} {base : Heap} {k : Nat} {N : List Str} {sc : Scope} {bk : Bool} {c : Ctx P w K mg base k N sc bk} {ρ : List Sl} {pos : Pos} {a b : Expr} {R : D → Prop}
theorem Br (h : EvE c a ρ fun x => EvE c b ρ fun y => ∃ (kvs : List (Key × D)) (kk : Key) (d : D), x = .fdK (kvs.map (·.1)) (kvs.map (·.2)) ∧ y.rP = some kk ∧ bh kvs kk = some d ∧ R d) (hs : NoSl b := by with_unfolding_all exact fun _ _ => rfl) : EvE c (.Subscript a b pos) ρ R := fun σ H Hf Q S q =>
 bw (xE c.hu pbE pbE hs) (h σ H Hf _ S fun x v H1 Hf1 h1 r1 g1 => h1 σ H1 Hf1 _ (S.grw g1) fun y u H2 Hf2 ⟨kvs, kk, d, e1, e2, e3, hR⟩ r2 g2 => by
  subst e1
  obtain ⟨p, ys, o, rfl, k1, k2, k3⟩ := fC.mp r1
  have kv := (v8 k2 k3).mono g2.f
  have rel := kv.val kk
  rw [e3] at rel
  rw [fJ e2 r2]
  cases z : iJ ys kk with
  | none => rw [z] at rel; exact rel.elim
  | some v =>
   rw [z] at rel
   exact ⟨p, v, rfl, .inl ⟨ys, kk, .inr ⟨o, g2.b _ _ (g2.f _ _ k1)⟩, rfl, z.symm⟩, q d v H2 Hf2 hR rel (g1.trans g2)⟩)
end
end EV
set_option Elab.async false
set_option linter.all false
set_option maxRecDepth 100000
namespace EV
open PySem PySem.Spec PyProof.Rows L2
theorem nK {A : List Trm} {l : List Int} {n : Int} {t : Trm} (h : t ∈ putD A l n) : t = (l, n) ∨ t ∈ A := by
 unfold putD at h
 split at h
 ·obtain ⟨u, hu, e⟩ := List.mem_map.mp h
  split at e
  ·rename_i q; subst e; exact .inl (by rw [q])
  ·subst e; exact .inr hu
 ·rcases List.mem_append.mp h with q | q
  ·exact .inr q
  ·simp at q; exact .inl q
theorem Bt {A : List Trm} {c : Nat} (h : ∀ t ∈ A, t.2.natAbs ≤ c) (l : List Int) : ((bh A l).getD 0).natAbs ≤ c := by
 unfold bh
 cases e : A.find? (fun kv => decide (kv.1 = l)) with
 | none => exact Nat.zero_le _
 | some u => exact h u (List.mem_of_find?_eq_some e)
theorem qV {m : Nat} : ∀ (ts A : List Trm) (c : Nat), (∀ t ∈ A, t.2.natAbs ≤ c) → (∀ t ∈ ts, t.2.natAbs ≤ m) → ∀ t ∈ ts.foldl gy A, t.2.natAbs ≤ c + ts.length * m
 | [], A, c, h, _, t, ht => by simpa using h t ht
 | u :: ts, A, c, h, g, t, ht => by
  have := qV (m := m) ts (gy A u) (c + m) (fun t' ht' => by
   rcases nK ht' with rfl | q
   ·have a := Bt h (trim u.1)
    have b := g u List.mem_cons_self
    show ((bh A (trim u.1)).getD 0 + u.2).natAbs ≤ c + m
    omega
   ·have := h t' q; omega) (fun t h => g t (List.mem_cons_of_mem _ h)) t ht
  rw [List.length_cons, Nat.succ_mul]
  omega
theorem Bu {m : Nat} {ts : List Trm} (h : ∀ t ∈ ts, t.2.natAbs ≤ m) : ∀ t ∈ aH ts, t.2.natAbs ≤ ts.length * m := fun t ht => by
 have := qV ts [] 0 (by simp) h t ht
 omega
def Pq (t : Trm) : Prop := t.1.length ≤ 6 ∧ ∀ x ∈ t.1, 0 ≤ x ∧ x ≤ 12
theorem qW : ∀ (ts A : List Trm), (∀ t ∈ A, Pq t) → (∀ t ∈ ts, Pq t) → ∀ t ∈ ts.foldl gy A, Pq t
 | [], A, h, _, t, ht => h t ht
 | u :: ts, A, h, g, t, ht => qW ts (gy A u) (fun t' ht' => by
  rcases nK ht' with rfl | q
  ·have := g u List.mem_cons_self
   exact ⟨Nat.le_trans (fT _) this.1, fun x hx => this.2 x (nF hx)⟩
  ·exact h t' q) (fun t h => g t (List.mem_cons_of_mem _ h)) t ht
theorem Bv {ts : List Trm} (h : ∀ t ∈ ts, Pq t) : ∀ t ∈ aH ts, Pq t := qW ts [] (by simp) h
theorem kq {a : Int} (h : a.natAbs < 2 ^ 110) : Builtin.Int.intBits a ≤ 111 := by
 unfold Builtin.Int.intBits
 by_cases z : a = 0
 ·subst z; decide
 ·have e : (a == 0) = false := by simpa using z
  rw [e, if_neg Bool.false_ne_true]
  have := (Nat.log2_lt (n := a.natAbs) (k := 110) (by omega)).mpr h
  omega
theorem v9 {a b : Int} (h : a.natAbs < 2 ^ 110) (g : b.natAbs < 2 ^ 110) : EV.MulOk a b := by
 have h1 := kq h
 have h2 := kq g
 unfold EV.MulOk IntMulOk Builtin.Int.intTooBig bitsLine
 have e : decide (((Builtin.Int.intBits a + Builtin.Int.intBits b : Nat) : Int) > ((2 ^ 27 : Nat) : Int)) = false := by
  apply decide_eq_false; omega
 simp only [Bool.and_eq_true]
 rintro ⟨_, z⟩
 have z' := of_decide_eq_true z
 omega
end EV
set_option Elab.async false
set_option linter.all false
set_option maxRecDepth 100000
namespace EV
open PySem PySem.Spec PyProof.Rows L2
theorem sN {n : Nat} (l m : List Int) : EqO (n + 1) (.tup (l.map D.int)) (.tup (m.map D.int)) := .tup fun i d e h1 h2 => by
 simp only [List.getElem?_map, Option.map_eq_some_iff] at h1 h2
 obtain ⟨a, _, rfl⟩ := h1
 obtain ⟨b, _, rfl⟩ := h2
 exact .sc rfl
theorem nL {n : Nat} (x y : Trm) : EqO (n + 2) (af x) (af y) := .tup fun i d e h1 h2 => by
 rcases i with _ | _ | i
 ·simp at h1 h2; subst h1 h2; exact sN _ _
 ·simp at h1 h2; subst h1 h2; exact .sc rfl
 ·simp at h1
theorem nM {n : Nat} (L M : List Trm) : EqO (n + 3) (.lst (L.map af)) (.lst (M.map af)) := .lst fun i d e h1 h2 => by
 simp only [List.getElem?_map, Option.map_eq_some_iff] at h1 h2
 obtain ⟨a, _, rfl⟩ := h1
 obtain ⟨b, _, rfl⟩ := h2
 exact nL a b
theorem nN (es : List D) : jD [] es := fun i d e h _ => by simp at h
theorem kr {d e : D} {ds es : List D} (h : EqO 40 d e) (t : jD ds es) : jD (d :: ds) (e :: es) := fun i a b h1 h2 => by
 cases i with
 | zero => simp at h1 h2; subst h1 h2; exact h
 | succ i => exact t i a b (by simpa using h1) (by simpa using h2)
theorem sO (L M : List Trm) : jD (L.map af) (M.map af) := fun i d e h1 h2 => by
 simp only [List.getElem?_map, Option.map_eq_some_iff] at h1 h2
 obtain ⟨a, _, rfl⟩ := h1
 obtain ⟨b, _, rfl⟩ := h2
 exact nL a b
theorem jl {ds : List D} {T : Bool → Prop} (h : jD ds ds) (t : T true) : EqP (.lst ds) (.lst ds) T := xP ⟨h, by rw [decide_eq_true rfl]; exact t⟩
theorem nO {α : Type} (xs : List α) (n : Nat) : (EV.cutD xs none (some (n : Int))).length ≤ n := by
 unfold EV.cutD HT.sIx
 simp only [show ¬ ((n : Int) < 0) by omega, if_false, List.length_take, List.length_drop, Int.toNat_natCast]
 omega
theorem nP {α : Type} (xs : List α) (a b : Nat) : (EV.cutD xs (some (a : Int)) (some (b : Int))).length ≤ b - a := by
 unfold EV.cutD HT.sIx
 simp only [show ¬ ((a : Int) < 0) by omega, show ¬ ((b : Int) < 0) by omega, if_false, List.length_take, List.length_drop, Int.toNat_natCast]
 omega
end EV
set_option Elab.async false
set_option linter.all false
set_option maxRecDepth 100000
namespace EV
open PySem PySem.Spec PyProof.Rows L2
section
variable {P : Program} {w : World} {K : PySem.W.Frag} {mg : Str → Option Value} {base h : Heap}
theorem int_mk {x : Str} {i : Int} {tk : Tok} (KX : K.In h) (G : h.Ns mainGlobals mg) (a : PySem.W.nsIn K mainGlobals x = some (some (.int i tk))) : ∃ tk : Tok, mg x = some (.int i tk) := ⟨tk, PySem.W.mg_of KX G a⟩
theorem yN {k : Nat} {x : Str} {st : Stmt} {F : FnM} {ps : List Str} {f : Addr} {fd : FuncData} (m : mg x = some (.ref f)) (Fu : Fun K x x st f fd) (ok : aX P w K mg base (CXE P w) k f fd ps (spM K F))
 (hb : ∀ (kV doc pm : Value) (an : Option Addr) (cdv ct : Value) (us : List Value), us.length = ps.length → bindArgs (PySem.W.fnOf x x (cT st) (aB st) (aa st) .none kV doc pm an cdv ct) ⟨us, []⟩ = pure (ps.zip us)) : yz P w K mg base k x F :=
 ⟨f, fd, ps, m, Fu.kp, Fu.binds hb, ok⟩
end
end EV
set_option Elab.async false
set_option linter.all false
set_option maxRecDepth 100000
namespace My
open PySem PySem.Spec PyProof.Rows L2 EV
abbrev top (i : Nat) : Stmt := PySem.Challenge.pw_everydraw_k06_polynomials_reckoned.main.body.getD i (.Pass ⟨0, 0, 0, 0⟩)
abbrev eV := top 2
theorem pG : aD ["powers", "end"] ["powers"] (aa eV) := ⟨rfl, rfl, rfl, by decide +kernel, rfl, by decide +kernel, by decide +kernel⟩
theorem pH : ∀ x ∈ (["powers", "end"] : List Str), L2.Loc (aa eV) x := by unfold L2.Loc; decide +kernel
abbrev eX := top 3
theorem pI : aD ["terms", "total", "powers", "number", "bare"] ["terms"] (aa eX) := ⟨rfl, rfl, rfl, by decide +kernel, rfl, by decide +kernel, by decide +kernel⟩
theorem pJ : ∀ x ∈ (["terms", "total", "powers", "number", "bare"] : List Str), L2.Loc (aa eX) x := by unfold L2.Loc; decide +kernel
abbrev dP := top 4
theorem nQ : aD ["one", "other"] ["one", "other"] (aa dP) := ⟨rfl, rfl, rfl, by decide +kernel, rfl, by decide +kernel, by decide +kernel⟩
theorem nR : ∀ x ∈ (["one", "other"] : List Str), L2.Loc (aa dP) x := by unfold L2.Loc; decide +kernel
abbrev dm := top 5
theorem lD : aD ["one", "other"] ["one", "other"] (aa dm) := ⟨rfl, rfl, rfl, by decide +kernel, rfl, by decide +kernel, by decide +kernel⟩
theorem lE : ∀ x ∈ (["one", "other"] : List Str), L2.Loc (aa dm) x := by unfold L2.Loc; decide +kernel
abbrev bF := top 6
theorem eY : aD ["some", "greatest", "powers", "number", "k", "power"] ["some"] (aa bF) := ⟨rfl, rfl, rfl, by decide +kernel, rfl, by decide +kernel, by decide +kernel⟩
theorem eZ : ∀ x ∈ (["some", "greatest", "powers", "number", "k", "power"] : List Str), L2.Loc (aa bF) x := by unfold L2.Loc; decide +kernel
abbrev dw := top 7
theorem lF : aD ["one", "other", "most"] ["one", "other"] (aa dw) := ⟨rfl, rfl, rfl, by decide +kernel, rfl, by decide +kernel, by decide +kernel⟩
theorem lG : ∀ x ∈ (["one", "other", "most"] : List Str), L2.Loc (aa dw) x := by unfold L2.Loc; decide +kernel
abbrev gB := top 8
theorem sP : aD ["powers", "width", "key", "power"] ["powers", "width"] (aa gB) := ⟨rfl, rfl, rfl, by decide +kernel, rfl, by decide +kernel, by decide +kernel⟩
theorem sQ : ∀ x ∈ (["powers", "width", "key", "power"] : List Str), L2.Loc (aa gB) x := by unfold L2.Loc; decide +kernel
abbrev dz := top 9
theorem lH : aD ["key", "width", "mask"] ["key", "width"] (aa dz) := ⟨rfl, rfl, rfl, by decide +kernel, rfl, by decide +kernel, by decide +kernel⟩
theorem lI : ∀ x ∈ (["key", "width", "mask"] : List Str), L2.Loc (aa dz) x := by unfold L2.Loc; decide +kernel
abbrev gC := top 10
theorem sR : aD ["some", "width"] ["some", "width"] (aa gC) := ⟨rfl, rfl, rfl, by decide +kernel, rfl, by decide +kernel, by decide +kernel⟩
theorem sS : ∀ x ∈ (["some", "width"] : List Str), L2.Loc (aa gC) x := by unfold L2.Loc; decide +kernel
abbrev dQ := top 11
theorem nS : aD ["total", "width"] ["total", "width"] (aa dQ) := ⟨rfl, rfl, rfl, by decide +kernel, rfl, by decide +kernel, by decide +kernel⟩
theorem nT : ∀ x ∈ (["total", "width"] : List Str), L2.Loc (aa dQ) x := by unfold L2.Loc; decide +kernel
abbrev b9 := top 12
theorem gX : aD ["total", "left", "right", "key", "number", "shift", "part", "whole"] ["total", "left", "right"] (aa b9) := ⟨rfl, rfl, rfl, by decide +kernel, rfl, by decide +kernel, by decide +kernel⟩
theorem gY : ∀ x ∈ (["total", "left", "right", "key", "number", "shift", "part", "whole"] : List Str), L2.Loc (aa b9) x := by unfold L2.Loc; decide +kernel
abbrev cJ := top 13
theorem jG : aD ["one", "other", "width", "total"] ["one", "other"] (aa cJ) := ⟨rfl, rfl, rfl, by decide +kernel, rfl, by decide +kernel, by decide +kernel⟩
theorem jH : ∀ x ∈ (["one", "other", "width", "total"] : List Str), L2.Loc (aa cJ) x := by unfold L2.Loc; decide +kernel
abbrev fc := top 15
theorem pK : aD ["_law_found"] ["_law_found"] (aa fc) := ⟨rfl, rfl, rfl, by decide +kernel, rfl, by decide +kernel, by decide +kernel⟩
theorem pM : ∀ x ∈ (["_law_found"] : List Str), L2.Loc (aa fc) x := by unfold L2.Loc; decide +kernel
abbrev ff := top 16
theorem pN : aD ["_law_cell", "_law_k", "_law_many", "_law_number"] ["_law_cell", "_law_k", "_law_many"] (aa ff) := ⟨rfl, rfl, rfl, by decide +kernel, rfl, by decide +kernel, by decide +kernel⟩
theorem pO : ∀ x ∈ (["_law_cell", "_law_k", "_law_many", "_law_number"] : List Str), L2.Loc (aa ff) x := by unfold L2.Loc; decide +kernel
abbrev gD := top 17
theorem sU : aD ["_law_cell", "_law_size", "_law_rest", "_law_powers", "_law_k"] ["_law_cell", "_law_size"] (aa gD) := ⟨rfl, rfl, rfl, by decide +kernel, rfl, by decide +kernel, by decide +kernel⟩
theorem sV : ∀ x ∈ (["_law_cell", "_law_size", "_law_rest", "_law_powers", "_law_k"] : List Str), L2.Loc (aa gD) x := by unfold L2.Loc; decide +kernel
abbrev dB := top 18
theorem lJ : aD ["_law_powers", "_law_found"] ["_law_powers"] (aa dB) := ⟨rfl, rfl, rfl, by decide +kernel, rfl, by decide +kernel, by decide +kernel⟩
theorem lK : ∀ x ∈ (["_law_powers", "_law_found"] : List Str), L2.Loc (aa dB) x := by unfold L2.Loc; decide +kernel
abbrev jm := top 19
theorem wc : aD ["_law_terms", "_law_counts", "_law_powers", "_law_number", "_law_short"] ["_law_terms"] (aa jm) := ⟨rfl, rfl, rfl, by decide +kernel, rfl, by decide +kernel, by decide +kernel⟩
theorem we : ∀ x ∈ (["_law_terms", "_law_counts", "_law_powers", "_law_number", "_law_short"] : List Str), L2.Loc (aa jm) x := by unfold L2.Loc; decide +kernel
abbrev dD := top 20
theorem lM : aD ["_law_one", "_law_other", "_law_terms", "_law_left", "_law_first", "_law_right", "_law_second", "_law_wide", "_law_powers"] ["_law_one", "_law_other"] (aa dD) := ⟨rfl, rfl, rfl, by decide +kernel, rfl, by decide +kernel, by decide +kernel⟩
theorem lN : ∀ x ∈ (["_law_one", "_law_other", "_law_terms", "_law_left", "_law_first", "_law_right", "_law_second", "_law_wide", "_law_powers"] : List Str), L2.Loc (aa dD) x := by unfold L2.Loc; decide +kernel
abbrev gE := top 21
theorem sW : aD ["_law_found", "_law_due", "_law_one", "_law_other"] ["_law_found", "_law_due"] (aa gE) := ⟨rfl, rfl, rfl, by decide +kernel, rfl, by decide +kernel, by decide +kernel⟩
theorem sX : ∀ x ∈ (["_law_found", "_law_due", "_law_one", "_law_other"] : List Str), L2.Loc (aa gE) x := by unfold L2.Loc; decide +kernel
abbrev gF := top 22
theorem sY : aD ["_law_one", "_law_other", "_law_away"] ["_law_one", "_law_other"] (aa gF) := ⟨rfl, rfl, rfl, by decide +kernel, rfl, by decide +kernel, by decide +kernel⟩
theorem sZ : ∀ x ∈ (["_law_one", "_law_other", "_law_away"] : List Str), L2.Loc (aa gF) x := by unfold L2.Loc; decide +kernel
abbrev pP := top 23
theorem Bw : aD ["_law_script", "_law_half", "_law_one", "_law_other", "_law_kept", "_law_nothing", "_law_unit", "_law_some"] ["_law_script"] (aa pP) := ⟨rfl, rfl, rfl, by decide +kernel, rfl, by decide +kernel, by decide +kernel⟩
theorem Bx : ∀ x ∈ (["_law_script", "_law_half", "_law_one", "_law_other", "_law_kept", "_law_nothing", "_law_unit", "_law_some"] : List Str), L2.Loc (aa pP) x := by unfold L2.Loc; decide +kernel
set_option Elab.async false
set_option linter.all false
set_option maxRecDepth 100000
set_option maxHeartbeats 0
local macro_rules | `(tactic| walk_at "side") => `(tactic| first | omega | assumption | exact kT | exact aF (Nat.le_of_ble_eq_true rfl) | exact uB (by decide) (by decide +kernel) | (show tR _ _; exact ⟨by decide, by decide, by decide +kernel⟩))
local macro_rules | `(tactic| walk_at "at") => `(tactic| with_reducible (repeat (first | exact At.z | apply At.s)))
local macro_rules | `(tactic| walk_at "sset") => `(tactic| with_reducible (repeat (first | exact SSet.z | apply SSet.s)))
local macro_rules | `(tactic| walk_at "atI") => `(tactic| first | assumption | rfl)
local macro_rules | `(tactic| walk_at "own") => `(tactic| with_unfolding_all rfl)
local macro_rules | `(tactic| walk_at "evSs") => `(tactic| first
 | with_reducible refine cC ?_
 | with_reducible refine Az ?_)
local macro_rules | `(tactic| walk_at "evS") => `(tactic| first
 | ((with_reducible show EvS _ (Stmt.Assign [Expr.Name _ _] _ _) _ _ _); with_reducible refine s_set (by walk_at "at") ?_)
 | ((with_reducible show EvS _ (Stmt.If _ _ _ _) _ _ _); walk_at "evIf")
 | ((with_reducible show EvS _ (Stmt.Expr _ _) _ _ _); walk_at "evXp")
 | ((with_reducible show EvS _ (Stmt.Return (some (Expr.Name _ _)) _) _ _ _); with_reducible refine uA (by walk_at "at") (by walk_at "at") rfl ?_)
 | ((with_reducible show EvS _ (Stmt.Return (some _) _) _ _ _); with_reducible refine jU ?_)
 | ((with_reducible show EvS _ (Stmt.Return none _) _ _ _); with_reducible refine s_retN ?_)
 | ((with_reducible show EvS _ (Stmt.AugAssign (Expr.Name _ _) Operator.Add _ _) _ _ _); with_reducible refine s_addq (by walk_at "at") (by walk_at "at") ?_)
 | ((with_reducible show EvS _ (Stmt.AugAssign (Expr.Name _ _) Operator.Sub _ _) _ _ _); with_reducible refine AB (by walk_at "at") (by walk_at "at") ?_)
 | ((with_reducible show EvS _ (Stmt.AugAssign (Expr.Subscript (Expr.Name _ _) _ _) Operator.Add _ _) _ _ _); with_reducible refine qu (by walk_at "at") (by walk_at "at") ?_)
 | ((with_reducible show EvS _ (Stmt.Assign [Expr.Tuple [Expr.Name _ _, Expr.Name _ _] _ _] (Expr.Tuple [_, _] _ _) _) _ _ _); with_reducible refine s_par (by walk_at "at") (by walk_at "at") (by decide) ?_)
 | ((with_reducible show EvS _ (Stmt.Assign [Expr.Tuple _ _ _] _ _) _ _ _); with_reducible refine s_asg ?_)
 | ((with_reducible show EvS _ (Stmt.Assign [Expr.Subscript (Expr.Name _ _) _ _] _ _) _ _ _); walk_at "evPut")
 | with_reducible refine s_break ?_
 | with_reducible refine s_continue ?_
 | with_reducible refine s_pass ?_)
local macro_rules | `(tactic| walk_at "evIf") => `(tactic| with_reducible refine s_if ?_)
local macro_rules | `(tactic| walk_at "evXp") => `(tactic| with_reducible refine AN (by walk_at "at") (by walk_at "at") (by walk_at "own") ?_)
local macro_rules | `(tactic| walk_at "evPut") => `(tactic| with_reducible refine AQ (by walk_at "at") (by walk_at "at") ?_ (ho := by walk_at "own"))
local macro_rules | `(tactic| walk_at "evK") => `(tactic| first
 | with_reducible refine e_int ?_
 | with_reducible refine e_bl ?_
 | with_reducible refine e_non ?_
 | with_reducible refine e_str ?_)
local macro_rules | `(tactic| walk_at "evCm") => `(tactic| first
 | with_reducible refine e_isN ?_
 | with_reducible refine e_notN ?_
 | with_reducible refine e_lt ?_
 | with_reducible refine e_eq ?_
 | with_reducible refine e_ne ?_)
local macro_rules | `(tactic| walk_at "evIx") => `(tactic| first
 | ((with_reducible show EvE _ (Expr.Subscript _ (Expr.Slice _ _ _ _) _) _ _); with_reducible refine uQ ?_)
 | ((with_reducible show EvE _ (Expr.Subscript (Expr.Name _ _) _ _) _ _); with_reducible refine e_ixO (by walk_at "at") (by walk_at "at") (by walk_at "own") (by walk_at "sset") ?_ (by walk_at "at"))
 | ((with_reducible show EvE _ (Expr.Subscript (Expr.Name _ _) _ _) _ _); with_reducible refine e_dix (by walk_at "at") (by walk_at "at") ?_)
 | with_reducible refine e_ixA ?_)
local macro_rules | `(tactic| walk_at "evBo") => `(tactic| first
 | with_reducible refine AL ?_
 | with_reducible refine e_sub ?_
 | with_reducible refine e_mul ?_
 | with_reducible refine e_mod ?_
 | with_reducible refine Ax ?_
 | with_reducible refine e_pow ?_)
local macro_rules | `(tactic| walk_at "evCa") => `(tactic| first
 | ((with_reducible show EvE _ (Expr.Call (Expr.Attribute _ _ _) _ _ _) _ _); walk_at "evMt")
 | ((with_reducible show EvE _ (Expr.Call (Expr.Name (Str.ofString "isinstance") _) _ _ _) _ _); first
  | with_reducible refine kM (Txt.isin (by assumption)) (Txt.c_int (by assumption)) ?_
  | with_reducible refine kM (Txt.isin (by assumption)) (Txt.yb (by assumption)) ?_
  | with_reducible refine kM (Txt.isin (by assumption)) (Txt.AV (by assumption)) ?_
  | with_reducible refine kM (Txt.isin (by assumption)) (Txt.AU (by assumption)) ?_)
 | ((with_reducible show EvE _ (Expr.Call (Expr.Name (Str.ofString "len") _) _ _ _) _ _); first
  | ((with_reducible show EvE _ (Expr.Call _ [Expr.Name _ _] _ _) _ _); with_reducible refine AR (Txt.len (by assumption)) (by walk_at "at") (by walk_at "at") (by walk_at "own") (by walk_at "sset") ?_)
  | with_reducible refine e_len (Txt.len (by assumption)) ?_)
 | ((with_reducible show EvE _ (Expr.Call (Expr.Name (Str.ofString "tuple") _) _ _ _) _ _); first
  | ((with_reducible show EvE _ (Expr.Call _ [Expr.Name _ _] _ _) _ _); with_reducible refine u6 (Txt.tuple (by assumption)) (by walk_at "at") (by walk_at "at") (by walk_at "own") (by walk_at "sset") ?_)
  | with_reducible refine qp (Txt.tuple (by assumption)) ?_)
 | ((with_reducible show EvE _ (Expr.Call (Expr.Name (Str.ofString "abs") _) _ _ _) _ _); with_reducible refine e_abs (Txt.abs (by assumption)) ?_)
 | ((with_reducible show EvE _ (Expr.Call (Expr.Name (Str.ofString "int") _) _ _ _) _ _); with_reducible refine e_intB (Txt.int (by assumption)) ?_))
local macro_rules | `(tactic| walk_at "evMt") => `(tactic| with_reducible refine AO (by walk_at "at") (by walk_at "at") ?_ (ho := by walk_at "own"))
local macro_rules | `(tactic| walk_at "evE") => `(tactic| first
 | ((with_reducible show EvE _ (Expr.Name _ _) _ _); with_reducible refine qe (by walk_at "at") (by walk_at "at") ?_)
 | ((with_reducible show EvE _ (Expr.Constant _ _ _) _ _); walk_at "evK")
 | ((with_reducible show EvE _ (Expr.Call _ _ _ _) _ _); walk_at "evCa")
 | ((with_reducible show EvE _ (Expr.Subscript _ _ _) _ _); walk_at "evIx")
 | ((with_reducible show EvE _ (Expr.BinOp _ _ _ _) _ _); walk_at "evBo")
 | ((with_reducible show EvE _ (Expr.Compare _ _ _ _) _ _); walk_at "evCm")
 | with_reducible refine e_tup ?_
 | with_reducible refine AM ?_
 | with_reducible refine e_neg ?_
 | with_reducible refine e_not ?_
 | with_reducible refine e_and ?_
 | with_reducible refine e_or ?_
 | with_reducible refine e_one ?_
 | with_reducible refine e_ifExp ?_)
local macro_rules | `(tactic| walk_at "evX") => `(tactic| first
 | ((with_reducible show EvX _ (Expr.List _ _) _ _); with_reducible refine zo ?_)
 | ((with_reducible show EvX _ (Expr.Call _ _ _ _) _ _); walk_at "evXC")
 | ((with_reducible show EvX _ (Expr.BinOp _ Operator.Add _ _) _ _); with_reducible refine zq ?_)
 | ((with_reducible show EvX _ (Expr.Subscript _ (Expr.Slice _ _ _ _) _) _ _); with_reducible refine qt ?_)
 | with_reducible refine x_e ?_)
local macro_rules | `(tactic| walk_at "evXC") => `(tactic| first
 | ((with_reducible show EvX _ (Expr.Call (Expr.Name (Str.ofString "list") _) _ _ _) _ _); first
  | ((with_reducible show EvX _ (Expr.Call _ [Expr.Name _ _] _ _) _ _); with_reducible refine x_listO (Txt.list (by assumption)) (by walk_at "at") (by walk_at "at") (by walk_at "own") (by walk_at "sset") ?_)
  | with_reducible refine uI (Txt.list (by assumption)) ?_)
 | with_reducible refine x_e ?_)
local macro_rules | `(tactic| walk_at "evT") => `(tactic| first
 | ((with_reducible show EvT _ (Expr.Compare _ _ _ _) _ _); first
  | with_reducible refine t_isN ?_
  | with_reducible refine t_notN ?_
  | with_reducible refine t_ne ?_
  | with_reducible refine t_eq ?_
  | with_reducible refine t_lt ?_
  | with_reducible refine t_le ?_
  | with_reducible refine t_gt ?_
  | with_reducible refine t_ge ?_
  | with_reducible refine zw (by walk_at "at") (by walk_at "at") ?_
  | with_reducible refine t_dnotin (by walk_at "at") (by walk_at "at") ?_)
 | with_reducible refine t_not ?_
 | with_reducible refine t_w (w_and ?_)
 | with_reducible refine t_w (w_or ?_)
 | with_reducible refine t_val ?_)
local macro_rules | `(tactic| walk_at "evW") => `(tactic| first
 | with_reducible refine w_and ?_
 | with_reducible refine w_or ?_
 | with_reducible refine Ay ?_
 | with_reducible refine w_or1 ?_)
local macro_rules | `(tactic| walk_at "evG") => `(tactic| first
 | ((with_reducible show EvG _ (Expr.Name _ _) _ _ _); with_reducible refine dH (by walk_at "at") ?_)
 | with_reducible refine g_tup rfl (by with_unfolding_all rfl) ?_)
local macro_rules | `(tactic| walk_at "evGs") => `(tactic| first
 | with_reducible refine AA ?_
 | ((with_reducible show rJ _ (_ :: _) _ _ _); with_reducible refine xS (by walk_at "at") ?_))
local macro_rules | `(tactic| walk_at "evL") => `(tactic| first
 | ((with_reducible show Nx _ _ _ _); with_reducible refine nxt (by walk_at "sset") ?_)
 | ((with_reducible show Sd _ _); first | with_reducible refine Sd.mk (by walk_at "side") ?_ | with_reducible refine Sd.mk ?_ ?_)
 | ((with_reducible show If2 _ _ _); first
  | with_reducible refine if2_t ?_
  | with_reducible refine if2_f ?_
  | with_reducible refine xM ?_
  | with_reducible refine xK (fun h => ?_) (fun h => ?_)
  | with_reducible refine if2 (fun h => ?_) (fun h => ?_))
 | with_reducible refine i2 ?_
 | with_reducible refine i1 ?_
 | with_reducible refine b1 ?_
 | ((with_reducible show EqP _ _ _); first
  | with_reducible refine xN ?_
  | with_reducible refine eqp_bl ?_
  | with_reducible refine eqp_str ?_)
 | ((with_reducible show iN _ _ _); first
  | with_reducible refine uR ?_
  | with_reducible refine uS ?_
  | with_reducible refine uT ?_)
 | ((with_reducible show FzP _ _); first
  | with_reducible refine fz_va ?_
  | with_reducible refine d8 ?_)
 | ((with_reducible show IsN _ _); first
  | with_reducible refine isn_t ?_
  | with_reducible refine isn_f (by intro q; cases q) ?_)
 | ((with_reducible show IxP _ _ _); first
  | refine qm (by rfl) ?_
  | refine ixp_l (by rfl) ?_)
 | ((with_reducible show SlP _ _ _ _); first
  | with_reducible refine EV.SlP.lst ?_
  | with_reducible refine EV.SlP.tup ?_)
 | ((with_reducible show ∃ ys, D.row _ = some ys ∧ _); refine rowX (by rfl) ?_)
 | ((with_reducible show ∃ t b, TyD _ _ t ∧ _); first
  | with_reducible refine isd .int AW ?_
  | with_reducible refine isd .int (Txt.ib (by assumption)) ?_
  | with_reducible refine isd .bl kit_bb ?_
  | with_reducible refine isd .lst AY ?_
  | with_reducible refine isd .tup AX ?_)
 | ((with_reducible show ∃ j d, D.int _ = D.int j ∧ _); refine ⟨_, _, rfl, (by walk_at "atI"), ?_⟩)
 | ((with_reducible show ∃ r, _ ∧ RsP _ _ _ r); walk_at "evR"))
local macro_rules | `(tactic| walk_at "ev1") => `(tactic| first
 | ((with_reducible show EvE _ _ _ _); walk_at "evE")
 | ((with_reducible show EvX _ _ _ _); walk_at "evX")
 | ((with_reducible show EvT _ _ _ _); walk_at "evT")
 | ((with_reducible show bu _ _ _ _ _); walk_at "evSs")
 | ((with_reducible show EvS _ _ _ _ _); walk_at "evS")
 | ((with_reducible show EvA _ _ _ _); first | with_reducible refine bR ?_ | with_reducible refine fD ?_)
 | ((with_reducible show EvW _ _ _ _); walk_at "evW")
 | ((with_reducible show EvG _ _ _ _ _); walk_at "evG")
 | ((with_reducible show rJ _ _ _ _ _); walk_at "evGs")
 | ((with_reducible show EvP _ _ _ _); first | with_reducible refine AI ?_ | with_reducible refine AJ ?_)
 | walk_at "evL")
local macro_rules | `(tactic| walk_at "ev") => `(tactic| repeat' (walk_at "ev1"))
section
variable {P : Program} {w : World} {K : PySem.W.Frag} {mg : Str → Option Value} {base : Heap}
def jn : Fn := fun ds r => ∃ n : Int, ds = [.int n] ∧ r = .ok (.va (.bl true))
theorem yO (n : Int) : jn [.int n] (.ok (.va (.bl true))) := ⟨n, rfl, rfl⟩
theorem wg {f : Addr} {fd : FuncData} (Fu : Fun K "_law_whole" "_law_whole" fc f fd) (T : Txt K mg) : aX P w K mg base (CXE P w) 1 f fd ["_law_found"] (spF K jn) := by
 refine cN Fu pK pM (by rintro ds r ⟨a, rfl, _⟩; rfl) (by rintro ds r ⟨a, _, rfl⟩; exact ⟨_, rfl⟩) fun c hq ds sl hF => ?_
 obtain ⟨a, rfl, e⟩ := hF
 injection e with e
 subst e
 show bu c _ [.va (.int a)] _ _
 conv in (aB _) => whnf
 walk_at "ev"
 rfl
def eB : Fn := fun ds r => ∃ l : List Int, l.length ≤ 64 ∧ ds = [.tup (l.map .int)] ∧ r = .ok (.va (.tup ((trim l).map .int)))
theorem wj {l : List Int} (h : l.length ≤ 64) : eB [.tup (l.map .int)] (.ok (.va (.tup ((trim l).map .int)))) := ⟨l, h, rfl, rfl⟩
theorem wm {cl : List Int} {j : Int} {R : EV.D → Prop} (h0 : 0 ≤ j) (h1 : j < cl.length) (h : R (.int (cl.getD j.toNat 0))) : IxP (.tup (cl.map D.int)) (.int j) R := by
 refine qm ?_ h
 rw [kW h0 (by simpa using h1)]
 have hj : j.toNat < cl.length := by omega
 simp [List.getElem?_map, hj]
theorem yP {f : Addr} {fd : FuncData} (Fu : Fun K "trimmed" "trimmed" eV f fd) (T : Txt K mg) : aX P w K mg base (CXE P w) 1 f fd ["powers"] (spF K eB) := by
 refine cN Fu pG pH (by rintro ds r ⟨a, _, rfl, _⟩; rfl) (by rintro ds r ⟨a, _, _, rfl⟩; exact ⟨_, rfl⟩) fun c hq ds sl hF => ?_
 obtain ⟨l, hl, rfl, e⟩ := hF
 injection e with e
 subst e
 show bu c _ [.va (.tup (l.map .int)), .un] _ _
 conv in (aB _) => whnf
 walk_at "ev"
 with_reducible refine qi hq (fun m ρ' => m ≤ l.length ∧ trim (l.take m) = trim l ∧ ρ' = [.va (.tup (l.map .int)), .va (.int (m : Int))]) (m₀ := l.length) ?_ ?_
 ·refine ⟨Nat.le_refl _, by rw [List.take_length], ?_⟩
  rw [List.length_map]
 ·rintro m ρ' ⟨hm, ht, rfl⟩
  walk_at "ev"
  ·refine wm (by omega) (by omega) ?_
   have hk : ((m : Int) - 1).toNat = m - 1 := by omega
   rw [hk]
   have hm1 : m - 1 + 1 = m := by omega
   walk_at "ev"
   ·exact ⟨m - 1, by omega, by omega, j9 (by omega) (by assumption) (by rw [hm1]; exact ht), by rw [show ((m - 1 : Nat) : Int) = (m : Int) - 1 by omega]⟩
   ·show Sl.va _ = Sl.va _
    rw [cz, vE _ hm]
    have := kc (l := l) (m := m - 1) (by omega) (by assumption) (by rw [hm1]; exact ht)
    rw [hm1] at this
    rw [this]
  ·show Sl.va _ = Sl.va _
   have : m = 0 := by omega
   subst this
   rw [cz, vE _ hm, ← ht]
   rfl
def thing (a k m : Int) : Int :=
 ((a % 2147483647 * 48271 + 69621 * k * k + 7 * k) % 2147483629 * ((a % 2147483647 * 48271 + 69621 * k * k + 7 * k) % 2147483629) % 2147483587) * ((a % 2147483647 * 48271 + 69621 * k * k + 7 * k) % 2147483629 * ((a % 2147483647 * 48271 + 69621 * k * k + 7 * k) % 2147483629) % 2147483587 + 48271) % 2147483563 % m
theorem fZ (a k : Int) {m : Int} (h : 0 < m) : 0 ≤ thing a k m ∧ thing a k m < m := ⟨Int.emod_nonneg _ (by omega), Int.emod_lt_of_pos _ h⟩
def jo : Fn := fun ds r => ∃ a k m : Int, 0 < m ∧ m.natAbs < 2 ^ 63 ∧ k.natAbs < 2 ^ 40 ∧ ds = [.int a, .int k, .int m] ∧ r = .ok (.va (.int (thing a k m)))
theorem yQ {a k m : Int} (hm : 0 < m) (h2 : m.natAbs < 2 ^ 63) (hk : k.natAbs < 2 ^ 40) : jo [.int a, .int k, .int m] (.ok (.va (.int (thing a k m)))) := ⟨a, k, m, hm, h2, hk, rfl, rfl⟩
theorem By {a : Int} (h0 : 0 < a) (h : a.natAbs < 2 ^ 63) : qf a := ⟨by omega, Nat.lt_of_lt_of_le (show a.natAbs.log2 < 63 from (Nat.log2_lt (by omega)).mpr h) (by decide)⟩
theorem wo {f : Addr} {fd : FuncData} (Fu : Fun K "_law_thing" "_law_thing" ff f fd) (T : Txt K mg) : aX P w K mg base (CXE P w) 1 f fd ["_law_cell", "_law_k", "_law_many"] (spF K jo) := by
 refine cN Fu pN pO (by rintro ds r ⟨a, k, m, _, _, _, rfl, _⟩; rfl) (by rintro ds r ⟨a, k, m, _, _, _, _, rfl⟩; exact ⟨_, rfl⟩) fun c hq ds sl hF => ?_
 obtain ⟨a, k, m, hm, hm2, hk, rfl, e⟩ := hF
 injection e with e
 subst e
 show bu c _ [.va (.int a), .va (.int k), .va (.int m), .un] _ _
 conv in (aB _) => whnf
 walk_at "ev"
 all_goals first
  | exact mF (by omega)
  | exact By hm hm2
  | rfl
  | trace_state
end
set_option Elab.async false
set_option linter.all false
set_option maxRecDepth 100000
set_option maxHeartbeats 0
section
variable {P : Program} {w : World} {K : PySem.W.Frag} {mg : Str → Option Value} {base : Heap}
theorem lV {l : List Int} {m : Nat} (h : m < l.length) : atI ((l.take (m + 1)).map D.int) (-1) = some (.int (l.getD m 0)) := by
 have hl : (l.take (m + 1)).length = m + 1 := by simp; omega
 rw [yc (by decide) (by simp only [List.length_map, hl]; omega), List.length_map, hl]
 have e : (-1 + ((m + 1 : Nat) : Int)).toNat = m := by omega
 rw [e, List.getElem?_map, List.getElem?_take]
 simp [List.getD_eq_getElem?_getD, h]
section
local macro_rules | `(tactic| walk_at "side") => `(tactic| exact ig _)
local macro_rules | `(tactic| walk_at "evXp") => `(tactic| ((with_reducible show EvS _ (Stmt.Expr (Expr.Call _ [] _ _) _) _ _ _); with_reducible refine s_pop (by walk_at "at") (by walk_at "at") (by walk_at "own") ?_))
theorem wu {f : Addr} {fd : FuncData} (Fu : Fun K "_law_trimmed" "_law_trimmed" dB f fd) (T : Txt K mg) : aX P w K mg base (CXE P w) 1 f fd ["_law_powers"] (spF K eB) := by
 refine cN Fu lJ lK (by rintro ds r ⟨a, _, rfl, _⟩; rfl) (by rintro ds r ⟨a, _, _, rfl⟩; exact ⟨_, rfl⟩) fun c hq ds sl hF => ?_
 obtain ⟨l, hl, rfl, e⟩ := hF
 injection e with e
 subst e
 show bu c _ [.va (.tup (l.map .int)), .un] _ _
 conv in (aB _) => whnf
 walk_at "ev"
 with_reducible refine qi hq (fun m ρ' => m ≤ l.length ∧ trim (l.take m) = trim l ∧ ρ' = [.va (.tup (l.map .int)), .ow ((l.take m).map .int)]) (m₀ := l.length) ?_ ?_
 ·exact ⟨Nat.le_refl _, by rw [List.take_length], by rw [List.take_length]⟩
 ·rintro m ρ' ⟨hm, ht, rfl⟩
  have hL : ((l.take m).map D.int).length = m := by simp; omega
  walk_at "ev"
  ·rw [hL] at *
   obtain ⟨n, rfl⟩ : ∃ n, m = n + 1 := ⟨m - 1, by omega⟩
   refine ⟨_, _, rfl, lV (by omega), ?_⟩
   walk_at "ev"
   ·intro z; have z' := congrArg List.length z; rw [List.length_map, List.length_take, List.length_nil] at z'; omega
   ·refine ⟨n, by omega, by omega, j9 (by omega) (by assumption) ht, ?_⟩
    show [_, Sl.ow _] = _
    rw [gw (by omega), List.map_append, List.map_singleton, List.dropLast_concat]
   ·show Sl.va _ = Sl.va _
    rw [kc (by omega) (by assumption) ht]
  ·show Sl.va _ = Sl.va _
   have : m = 0 := by rw [hL] at *; omega
   subst this
   rw [← ht]
   rfl
end
def goB : Nat → Int → List Int × Int
 | 0, r => ([], r)
 | i + 1, r => ((goB i r).1 ++ [(goB i r).2 / 7 % 13], (goB i r).2 / 13)
def bD (n : Int) : Trm :=
 if n % 2 = 1 then ((goB (n / 2 % 7).toNat (n / 2)).1, (goB (n / 2 % 7).toNat (n / 2)).2 / 7 % (2 * (10 ^ Int.toNat 28) + 1) - (10 ^ Int.toNat 28))
 else ((List.range (thing (n / 2) 0 4).toNat).map fun (i : Nat) => thing (n / 2) (1 + (i : Int)) 3, thing (n / 2) 9 19 - 9)
theorem qX (i : Nat) (r : Int) : (goB i r).1.length = i := by
 induction i with
 | zero => rfl
 | succ i ih => simp [goB, ih]
theorem ku (n : Int) : (bD n).1.length ≤ 6 := by
 unfold bD
 split
 ·rw [qX]; omega
 ·have := fZ (n / 2) 0 (m := 4) (by decide)
  simp; omega
theorem iB (n : Nat) : (mj 0 n).length = n := by simp [mj]
def nU : Fn := fun ds r => ∃ n : Int, ds = [.int n, .int (10 ^ Int.toNat 28)] ∧ r = .ok (.va (af (bD n)))
theorem BA (n : Int) : nU [.int n, .int (10 ^ Int.toNat 28)] (.ok (.va (af (bD n)))) := ⟨n, rfl, rfl⟩
section
local macro_rules | `(tactic| walk_at "side") => `(tactic| exact ig _)
local macro_rules | `(tactic| walk_at "evCa") => `(tactic| with_reducible refine bg (F := jo) (by assumption) (by decide) ?_)
local macro_rules | `(tactic| walk_at "evR") => `(tactic| first | with_reducible refine aN (yQ ?_ ?_ ?_) ?_)
theorem yR {f : Addr} {fd : FuncData} (Fu : Fun K "_law_term" "_law_term" gD f fd) (T : Txt K mg) (h1 : Cal P w K mg base 1 (Str.ofString "_law_thing") jo) : aX P w K mg base (CXE P w) 2 f fd ["_law_cell", "_law_size"] (spF K nU) := by
 refine cN Fu sU sV (by rintro ds r ⟨n, rfl, _⟩; rfl) (by rintro ds r ⟨n, _, rfl⟩; exact ⟨_, rfl⟩) fun c hq ds sl hF => ?_
 obtain ⟨n, rfl, e⟩ := hF
 injection e with e
 subst e
 show bu c _ [.va (.int n), .va (.int (10 ^ Int.toNat 28)), .un, .un, .un] _ _
 conv in (aB _) => whnf
 walk_at "ev"
 ·with_reducible refine cO hq (iO (Txt.range (by assumption)) ?_)
  walk_at "ev"
  ·exact ⟨by omega, by omega⟩
  refine ⟨fun i ρ' => ∃ s4 : Sl, ρ' = [.va (.int n), .va (.int (10 ^ Int.toNat 28)), .va (.int (goB i (n / 2)).2), .ow ((goB i (n / 2)).1.map .int), s4], ⟨.un, rfl⟩, ?_, ?_⟩
  ·rintro c' hcX hcR hcM i d ρ' hd ⟨s4, rfl⟩
   obtain ⟨hi, rfl⟩ := kX hd
   have hlen : ((goB i (n / 2)).1.map D.int).length = i := by rw [List.length_map, qX]
   walk_at "ev"
   ·exact bz (by omega)
   ·refine ⟨.va (.int (i : Int)), ?_⟩
    show [_, _, _, Sl.ow _, _] = _
    simp only [goB, List.map_append, List.map_cons, List.map_nil]
  ·rintro ρ' ⟨s4, rfl⟩
   rw [iB]
   walk_at "ev"
   ·exact mF (by decide)
   ·decide
   ·show Sl.va _ = Sl.va _
    unfold bD
    rw [if_pos (by assumption)]
 ·have t4 := fZ (n / 2) 0 (m := 4) (by decide)
  with_reducible refine cO hq (iO (Txt.range (by assumption)) ?_)
  walk_at "ev"
  ·decide
  ·decide
  ·decide
  walk_at "ev"
  ·exact ⟨by omega, by omega⟩
  refine ⟨fun i ρ' => ∃ s4 : Sl, ρ' = [.va (.int n), .va (.int (10 ^ Int.toNat 28)), .va (.int (n / 2)), .ow (((List.range i).map fun (i : Nat) => thing (n / 2) (1 + (i : Int)) 3).map .int), s4], ⟨.un, rfl⟩, ?_, ?_⟩
  ·rintro c' hcX hcR hcM i d ρ' hd ⟨s4, rfl⟩
   obtain ⟨hi, rfl⟩ := kX hd
   have hlen : (((List.range i).map fun (i : Nat) => thing (n / 2) (1 + (i : Int)) 3).map D.int).length = i := by simp
   walk_at "ev"
   ·decide
   ·decide
   ·omega
   walk_at "ev"
   ·exact bz (by omega)
   ·refine ⟨.va (.int (i : Int)), ?_⟩
    show [_, _, _, Sl.ow _, _] = _
    simp only [List.range_succ, List.map_append, List.map_cons, List.map_nil]
  ·rintro ρ' ⟨s4, rfl⟩
   rw [iB]
   walk_at "ev"
   ·decide
   ·decide
   ·decide
   walk_at "ev"
   show Sl.va _ = Sl.va _
   unfold bD
   rw [if_neg (by assumption)]
end
end
set_option Elab.async false
set_option linter.all false
set_option maxRecDepth 100000
set_option maxHeartbeats 0
section
variable {P : Program} {w : World} {K : PySem.W.Frag} {mg : Str → Option Value} {base : Heap}
theorem lO (x : Trm) : (af x).nl := oW (by unfold D.nls; exact ⟨oW (ig _), dS (f := D.int) (l := [x.2]) fun _ _ => kT⟩)
def nzO (t : Trm) : Option D := if t.2 ≠ 0 then some (af t) else none
theorem gc : ∀ L : List Trm, (L.map nzO).filterMap id = (nz L).map af
 | [] => rfl
 | t :: L => by
  unfold nz
  by_cases h : t.2 = 0
  ·simp only [List.map_cons, nzO, h, ne_eq, not_true, if_false, List.filterMap_cons, id, List.filter_cons, bne_self_eq_false, Bool.false_eq_true]
   exact gc L
  ·have hb : (t.2 != 0) = true := by simpa using h
   rw [List.filter_cons, if_pos hb, List.map_cons, List.map_cons, List.filterMap_cons]
   simp only [nzO, ne_eq, h, not_false_eq_true, if_true, id]
   rw [gc L]; rfl
def fh : Fn := fun ds r => ∃ ts : List Trm, ts.length ≤ 990 ∧ (∀ t ∈ ts, t.1.length ≤ 64) ∧ ds = [.lst (ts.map af)] ∧ r = .ok (.ow ((fV (nz (aH ts))).map af))
theorem fj {ts : List Trm} (h : ts.length ≤ 990) (h2 : ∀ t ∈ ts, t.1.length ≤ 64) : fh [.lst (ts.map af)] (.ok (.ow ((fV (nz (aH ts))).map af))) := ⟨ts, h, h2, rfl, rfl⟩
section
local macro_rules | `(tactic| walk_at "evX") => `(tactic| first | ((with_reducible show EvX _ (Expr.Dict _ _ _) _ _); with_reducible refine x6 ?_))
local macro_rules | `(tactic| walk_at "evCa") => `(tactic| first | with_reducible refine bg (F := eB) (by assumption) (by decide) ?_)
local macro_rules | `(tactic| walk_at "evR") => `(tactic| first | with_reducible refine aN (wj ?_) ?_)
theorem yS {f : Addr} {fd : FuncData} (Fu : Fun K "poly_of" "poly_of" eX f fd) (T : Txt K mg) (h1 : Cal P w K mg base 1 (Str.ofString "trimmed") eB) : aX P w K mg base (CXE P w) 2 f fd ["terms"] (spF K fh) := by
 refine cN Fu pI pJ (by rintro ds r ⟨n, _, _, rfl, _⟩; rfl) (by rintro ds r ⟨n, _, _, _, rfl⟩; exact ⟨_, rfl⟩) fun c hq ds sl hF => ?_
 obtain ⟨ts, hl, hlen, rfl, e⟩ := hF
 injection e with e
 subst e
 show bu c _ [.va (.lst (ts.map af)), .un, .un, .un, .un] _ _
 conv in (aB _) => whnf
 walk_at "ev"
 with_reducible refine cO hq (bN ?_)
 walk_at "ev"
 refine ⟨fun i ρ' => ∃ s2 s3 s4 : Sl, ρ' = [.va (.lst (ts.map af)), .oT (encA (aH (ts.take i))), s2, s3, s4], ⟨_, _, _, rfl⟩, ?_, ?_⟩
 ·rintro c' hcX hcR hcM i d ρ' hd ⟨s2, s3, s4, rfl⟩
  simp only [List.getElem?_map, Option.map_eq_some_iff] at hd
  obtain ⟨t, ht, rfl⟩ := hd
  obtain ⟨hi, rfl⟩ := List.getElem?_eq_some_iff.mp ht
  have h6 := hlen _ (List.getElem_mem hi)
  have hsz : (aH (ts.take i)).length < sizeLine := bz (by have := di (ts.take i); rw [List.length_take] at this; omega)
  show EvG c' _ (D.tup [.tup (ts[i].1.map .int), .int ts[i].2]) _ _
  walk_at "ev"
  ·exact h6
  walk_at "ev"
  refine ⟨_, vI (A := aH (ts.take i)) rfl _, ?_⟩
  rw [nq]
  walk_at "ev"
  refine ⟨_, vJ hsz, ?_⟩
  walk_at "ev"
  have e : aH (ts.take (i + 1)) = putD (aH (ts.take i)) (trim ts[i].1) ((bh (aH (ts.take i)) (trim ts[i].1)).getD 0 + ts[i].2) := by
   rw [List.take_succ_eq_append_getElem hi, je]; rfl
  show ∃ s2 s3 s4 : Sl, _ = [_, Sl.oT (encA (aH (ts.take (i + 1)))), s2, s3, s4]
  rw [e]
  exact ⟨_, _, _, rfl⟩
 ·rintro ρ' ⟨s2, s3, s4, rfl⟩
  rw [List.length_map, List.take_length]
  have hn := keys_nodup (fU ts)
  with_reducible refine cC ?_
  with_reducible refine jU ?_
  refine cW hq (N' := ["term"]) (ρ0 := fun _ => [.un]) (fun t => .un .nil) ?_
  refine bN (e_x (oY 1 (by walk_at "at") (encK _) (by walk_at "sset") (nj (Txt.sorted T) ?_)))
  walk_at "ev"
  refine ⟨_, kg _, hn, fun L' hp hs => ?_⟩
  have eL := o9 hn hp hs
  subst eL
  refine ⟨dS fun x _ => lO x, d8 (rowX rfl ⟨?_, (fV (aH ts)).map nzO, by simp, ?_, ?_⟩)⟩
  ·exact aF (by rw [List.length_map]; have := (bx (aH ts)).length_eq; have := di ts; omega)
  ·intro c' hc t i d o hd ho
   simp only [List.getElem?_map, Option.map_eq_some_iff] at hd ho
   obtain ⟨x, hx, rfl⟩ := hd
   obtain ⟨x', hx', rfl⟩ := ho
   rw [hx] at hx'; cases hx'
   refine dH (by walk_at "at") (nxt (by walk_at "sset") ⟨.un .nil, ?_⟩)
   show EvC c' _ [.va (.tup [.tup (x.1.map .int), .int x.2])] _
   simp only [EvC]
   walk_at "ev"
   all_goals first
    | (show nzO x = some (af x); unfold nzO; rw [if_pos (by assumption)])
    | (show nzO x = none; unfold nzO; rw [if_neg fun h => h (by assumption)])
  ·rw [gc, vH hn]
theorem yT {f : Addr} {fd : FuncData} (Fu : Fun K "_law_sum" "_law_sum" jm f fd) (T : Txt K mg) (h1 : Cal P w K mg base 1 (Str.ofString "_law_trimmed") eB) : aX P w K mg base (CXE P w) 2 f fd ["_law_terms"] (spF K fh) := by
 refine cN Fu wc we (by rintro ds r ⟨n, _, _, rfl, _⟩; rfl) (by rintro ds r ⟨n, _, _, _, rfl⟩; exact ⟨_, rfl⟩) fun c hq ds sl hF => ?_
 obtain ⟨ts, hl, hlen, rfl, e⟩ := hF
 injection e with e
 subst e
 show bu c _ [.va (.lst (ts.map af)), .un, .un, .un, .un] _ _
 conv in (aB _) => whnf
 walk_at "ev"
 with_reducible refine cO hq (bN ?_)
 walk_at "ev"
 refine ⟨fun i ρ' => ∃ s2 s3 s4 : Sl, ρ' = [.va (.lst (ts.map af)), .oT (encA (aH (ts.take i))), s2, s3, s4], ⟨_, _, _, rfl⟩, ?_, ?_⟩
 ·rintro c' hcX hcR hcM i d ρ' hd ⟨s2, s3, s4, rfl⟩
  simp only [List.getElem?_map, Option.map_eq_some_iff] at hd
  obtain ⟨t, ht, rfl⟩ := hd
  obtain ⟨hi, rfl⟩ := List.getElem?_eq_some_iff.mp ht
  have h6 := hlen _ (List.getElem_mem hi)
  have hsz : (aH (ts.take i)).length < sizeLine := bz (by have := di (ts.take i); rw [List.length_take] at this; omega)
  show EvG c' _ (D.tup [.tup (ts[i].1.map .int), .int ts[i].2]) _ _
  walk_at "ev"
  ·exact h6
  walk_at "ev"
  refine ⟨_, vI (A := aH (ts.take i)) rfl _, ?_⟩
  rw [nq]
  walk_at "ev"
  refine ⟨_, vJ hsz, ?_⟩
  walk_at "ev"
  have e : aH (ts.take (i + 1)) = putD (aH (ts.take i)) (trim ts[i].1) ((bh (aH (ts.take i)) (trim ts[i].1)).getD 0 + ts[i].2) := by
   rw [List.take_succ_eq_append_getElem hi, je]; rfl
  show ∃ s2 s3 s4 : Sl, _ = [_, Sl.oT (encA (aH (ts.take (i + 1)))), s2, s3, s4]
  rw [e]
  exact ⟨_, _, _, rfl⟩
 ·rintro ρ' ⟨s2, s3, s4, rfl⟩
  rw [List.length_map, List.take_length]
  have hn := keys_nodup (fU ts)
  with_reducible refine cC ?_
  with_reducible refine jU ?_
  refine o8 (Txt.sorted T) (e_x (oY 1 (by walk_at "at") (encK _) (by walk_at "sset") (cW hq (N' := ["_law_powers", "_law_number"]) (ρ0 := fun _ => [.un, .un]) (fun t => .un (.un .nil)) (yh ?_))))
  walk_at "ev"
  refine A2 (kg _) ⟨?_, (aH ts).map nzO, by simp, ?_, ?_⟩
  ·exact aF (by rw [List.length_map]; have := di ts; omega)
  ·intro c' hc t i d o hd ho
   simp only [List.getElem?_map, Option.map_eq_some_iff] at hd ho
   obtain ⟨x, hx, rfl⟩ := hd
   obtain ⟨x', hx', rfl⟩ := ho
   rw [hx] at hx'; cases hx'
   show EvG c' _ (.tup [.tup (x.1.map .int), .int x.2]) _ _
   walk_at "ev"
   refine ⟨.un (.un .nil), ?_⟩
   simp only [EvC]
   walk_at "ev"
   all_goals first
    | (show nzO x = some (af x); unfold nzO; rw [if_pos (by assumption)])
    | (show nzO x = none; unfold nzO; rw [if_neg fun h => h (by assumption)])
  ·rw [gc]
   refine ⟨dS fun x _ => lO x, d8 ⟨_, rfl, List.Pairwise.filter _ hn, fun L' hp hs => ?_⟩⟩
   have eL := o9 (List.Pairwise.filter _ hn) hp hs
   rw [eL]
   rfl
end
end
set_option Elab.async false
set_option linter.all false
set_option maxRecDepth 100000
set_option maxHeartbeats 0
section
variable {P : Program} {w : World} {K : PySem.W.Frag} {mg : Str → Option Value} {base : Heap}
theorem wz (x y : Trm) : jD [.tup (x.1.map .int), .int x.2] [.tup (y.1.map .int), .int y.2] := fun i d e h1 h2 => by
 rcases i with _ | _ | i
 ·simp at h1 h2; subst h1 h2
  exact .tup fun j d e h1 h2 => by
   simp only [List.getElem?_map, Option.map_eq_some_iff] at h1 h2
   obtain ⟨a, _, rfl⟩ := h1
   obtain ⟨b, _, rfl⟩ := h2
   exact .sc rfl
 ·simp at h1 h2; subst h1 h2
  exact .sc rfl
 ·simp at h1
theorem yU {x y : Trm} {T : Bool → Prop} (h : T (decide (af x = af y))) : EqP (.tup [.tup (x.1.map .int), .int x.2]) (.tup [.tup (y.1.map .int), .int y.2]) T := by
 refine xO ⟨wz x y, ?_⟩
 have e : decide ([D.tup (x.1.map .int), .int x.2] = [D.tup (y.1.map .int), .int y.2]) = decide (af x = af y) := by
  unfold af; simp
 rw [e]; exact h
def jq : Fn := fun ds r => ∃ L : List Trm, L.length ≤ 990 ∧ (∀ t ∈ L, t.1.length ≤ 64) ∧ ds = [.lst (L.map af), .lst (L.map af)] ∧ r = .ok (.va (.bl true))
theorem wA {L : List Trm} (h : L.length ≤ 990) (h2 : ∀ t ∈ L, t.1.length ≤ 64) : jq [.lst (L.map af), .lst (L.map af)] (.ok (.va (.bl true))) := ⟨L, h, h2, rfl, rfl⟩
section
local macro_rules | `(tactic| walk_at "evCa") => `(tactic| first | with_reducible refine bg (F := jn) (by assumption) (by decide) ?_)
local macro_rules | `(tactic| walk_at "evR") => `(tactic| first | with_reducible refine aN (yO _) ?_)
theorem yV {f : Addr} {fd : FuncData} (Fu : Fun K "_law_same" "_law_same" gE f fd) (T : Txt K mg) (h1 : Cal P w K mg base 1 (Str.ofString "_law_whole") jn) : aX P w K mg base (CXE P w) 2 f fd ["_law_found", "_law_due"] (spF K jq) := by
 refine cN Fu sW sX (by rintro ds r ⟨n, _, _, rfl, _⟩; rfl) (by rintro ds r ⟨n, _, _, _, rfl⟩; exact ⟨_, rfl⟩) fun c hq ds sl hF => ?_
 obtain ⟨L, hl, hlen, rfl, e⟩ := hF
 injection e with e
 subst e
 show bu c _ [.va (.lst (L.map af)), .va (.lst (L.map af)), .un, .un] _ _
 conv in (aB _) => whnf
 walk_at "ev"
 ·with_reducible refine cO hq (i_zip (Txt.zip T) ?_)
  walk_at "ev"
  refine ⟨_, _, rfl, rfl, ?_⟩
  have ez : sj (L.map af) (L.map af) = L.map fun t => D.tup [af t, af t] := by
   unfold sj
   rw [List.zipWith_map, List.zipWith_self]
  rw [ez]
  refine ⟨fun i ρ' => ∃ s2 s3 : Sl, ρ' = [.va (.lst (L.map af)), .va (.lst (L.map af)), s2, s3], ⟨_, _, rfl⟩, ?_, ?_⟩
  ·rintro c' hcX hcR hcM i d ρ' hd ⟨s2, s3, rfl⟩
   simp only [List.getElem?_map, Option.map_eq_some_iff] at hd
   obtain ⟨t, ht, rfl⟩ := hd
   have hlt := hlen t (List.mem_of_getElem? ht)
   show EvG c' _ (.tup [.tup [.tup (t.1.map .int), .int t.2], .tup [.tup (t.1.map .int), .int t.2]]) _ _
   walk_at "ev"
   ·refine e_all (Txt.all T) (e_x (cW (show c'.X.xe = noX by rw [hcX]; exact hq) (N' := ["_law_power"]) (ρ0 := fun _ => [.un]) (fun t => .un .nil) (bN ?_)))
    walk_at "ev"
    ·exact aF (by rw [List.length_map]; omega)
    refine ⟨t.1.map fun _ => some (.bl true), by simp, ?_, d8 ⟨t.1.map fun _ => true, ?_, ?_⟩⟩
    ·intro c2 hc2 tg j d o hd ho
     simp only [List.getElem?_map, Option.map_eq_some_iff] at hd ho
     obtain ⟨x, hx, rfl⟩ := hd
     obtain ⟨x', hx', rfl⟩ := ho
     refine dH (by walk_at "at") (nxt (by walk_at "sset") ⟨.un .nil, ?_⟩)
     simp only [EvC]
     refine ⟨fun _ => ?_, fun h => by cases h⟩
     walk_at "ev"
     rfl
    ·congr 1
     induction t.1 with
     | nil => rfl
     | cons a l ih => simpa using ih
    ·have e : ((t.1.map fun _ => true).all id) = true := by simp
     rw [e]
     walk_at "ev"
     refine yU ?_
     rw [decide_eq_true rfl]
     walk_at "ev"
     exact ⟨_, _, rfl⟩
   ·exact absurd (show (([D.tup (t.1.map .int), .int t.2].length : Nat) : Int) = 2 from rfl) (by assumption)
  ·rintro ρ' ⟨s2, s3, rfl⟩
   walk_at "ev"
   rfl
 ·exact absurd rfl (by assumption)
end
end
set_option Elab.async false
set_option linter.all false
set_option maxRecDepth 100000
set_option maxHeartbeats 0
section
variable {P : Program} {w : World} {K : PySem.W.Frag} {mg : Str → Option Value} {base : Heap}
def gh (t : Trm) : Trm := (t.1, -t.2)
def jr : Fn := fun ds r => ∃ A B : List Trm, A.length + B.length ≤ 990 ∧ (∀ t ∈ A ++ B, t.1.length ≤ 64) ∧ ds = [.lst (A.map af), .lst (B.map af)] ∧ r = .ok (.ow ((bf (A ++ B)).map af))
def fk : Fn := fun ds r => ∃ A B : List Trm, A.length + B.length ≤ 990 ∧ (∀ t ∈ A ++ B, t.1.length ≤ 64) ∧ ds = [.lst (A.map af), .lst (B.map af)] ∧ r = .ok (.ow ((bf (A ++ B.map gh)).map af))
theorem wB {A B : List Trm} (h : A.length + B.length ≤ 990) (h2 : ∀ t ∈ A ++ B, t.1.length ≤ 64) : jr [.lst (A.map af), .lst (B.map af)] (.ok (.ow ((bf (A ++ B)).map af))) := ⟨A, B, h, h2, rfl, rfl⟩
theorem qY {A B : List Trm} (h : A.length + B.length ≤ 990) (h2 : ∀ t ∈ A ++ B, t.1.length ≤ 64) : fk [.lst (A.map af), .lst (B.map af)] (.ok (.ow ((bf (A ++ B.map gh)).map af))) := ⟨A, B, h, h2, rfl, rfl⟩
section
local macro_rules | `(tactic| walk_at "evXC") => `(tactic| first | with_reducible refine x_call (F := fh) (by assumption) (by decide) ?_)
local macro_rules | `(tactic| walk_at "evR") => `(tactic| first | with_reducible refine aN (fj ?_ ?_) ?_)
theorem yW {f : Addr} {fd : FuncData} (Fu : Fun K "poly_sum" "poly_sum" dP f fd) (T : Txt K mg) (h1 : Cal P w K mg base 2 (Str.ofString "poly_of") fh) : aX P w K mg base (CXE P w) 3 f fd ["one", "other"] (spF K jr) := by
 refine cN Fu nQ nR (by rintro ds r ⟨A, B, _, _, rfl, _⟩; rfl) (by rintro ds r ⟨A, B, _, _, _, rfl⟩; exact ⟨_, rfl⟩) fun c hq ds sl hF => ?_
 obtain ⟨A, B, hl, hp, rfl, e⟩ := hF
 injection e with e
 subst e
 show bu c _ [.va (.lst (A.map af)), .va (.lst (B.map af))] _ _
 conv in (aB _) => whnf
 walk_at "ev"
 ·rw [List.length_map, List.length_map]; exact aF (by omega)
 walk_at "ev"
 rw [← List.map_append]
 exact aN (fj (by rw [List.length_append]; omega) hp) rfl
theorem wC {f : Addr} {fd : FuncData} (Fu : Fun K "poly_less" "poly_less" dm f fd) (T : Txt K mg) (h1 : Cal P w K mg base 2 (Str.ofString "poly_of") fh) : aX P w K mg base (CXE P w) 3 f fd ["one", "other"] (spF K fk) := by
 refine cN Fu lD lE (by rintro ds r ⟨A, B, _, _, rfl, _⟩; rfl) (by rintro ds r ⟨A, B, _, _, _, rfl⟩; exact ⟨_, rfl⟩) fun c hq ds sl hF => ?_
 obtain ⟨A, B, hl, hp, rfl, e⟩ := hF
 injection e with e
 subst e
 show bu c _ [.va (.lst (A.map af)), .va (.lst (B.map af))] _ _
 conv in (aB _) => whnf
 walk_at "ev"
 refine e_x (cW hq (N' := ["powers", "number"]) (ρ0 := fun _ => [.un, .un]) (fun t => .un (.un .nil)) (bN ?_))
 walk_at "ev"
 ·exact aF (by rw [List.length_map]; omega)
 refine ⟨B.map fun t => some (af (gh t)), by simp, ?_, d8 ?_⟩
 ·intro c' hc t i d o hd ho
  simp only [List.getElem?_map, Option.map_eq_some_iff] at hd ho
  obtain ⟨x, hx, rfl⟩ := hd
  obtain ⟨x', hx', rfl⟩ := ho
  rw [hx] at hx'; cases hx'
  show EvG c' _ (.tup [.tup (x.1.map .int), .int x.2]) _ _
  walk_at "ev"
  refine ⟨.un (.un .nil), ?_⟩
  simp only [EvC]
  refine ⟨fun _ => ?_, fun h => by cases h⟩
  walk_at "ev"
  rfl
 ·have e1 : (B.map fun t => some (af (gh t))).filterMap id = (B.map gh).map af := by
   rw [List.map_map, List.filterMap_map]
   induction B with
   | nil => rfl
   | cons b B ih => simpa using ih
  rw [e1]
  walk_at "ev"
  ·rw [List.length_map, List.length_map, List.length_map]; exact aF (by omega)
  rw [← List.map_append]
  refine aN (fj (by rw [List.length_append, List.length_map]; omega) fun t ht => ?_) rfl
  rcases List.mem_append.mp ht with q | q
  ·exact hp t (List.mem_append_left _ q)
  ·obtain ⟨u, hu, rfl⟩ := List.mem_map.mp q
   exact hp u (List.mem_append_right _ hu)
end
end
set_option Elab.async false
set_option linter.all false
set_option maxRecDepth 100000
set_option maxHeartbeats 0
section
variable {P : Program} {w : World} {K : PySem.W.Frag} {mg : Str → Option Value} {base : Heap}
def stG (p : List Int) (g : Nat → Int) (k : Nat) : Int := if at0 p k > g k then at0 p k else g k
def gk (L : List Trm) (k : Nat) : Int := L.foldl (fun a t => if at0 t.1 k > a then at0 t.1 k else a) 0
def aS (L : List Trm) : List Int := (List.range 6).map (gk L)
def fm (p : List Int) (g : Nat → Int) (j k : Nat) : Int := if k < j then stG p g k else g k
theorem qZ (L : List Trm) (k : Nat) : ∀ a : Int, a ≤ L.foldl (fun a t => if at0 t.1 k > a then at0 t.1 k else a) a := by
 induction L with
 | nil => exact fun a => Int.le_refl _
 | cons t L ih =>
  intro a
  rw [List.foldl_cons]
  refine Int.le_trans ?_ (ih _)
  split <;> omega
theorem zD (L : List Trm) (k : Nat) : 0 ≤ gk L k := qZ L k 0
theorem yX (L : List Trm) (t : Trm) : gk (L ++ [t]) = stG t.1 (gk L) := by
 funext k
 unfold gk stG
 rw [List.foldl_append]; rfl
theorem yY {p : List Int} {L : List Trm} : fm p (gk L) p.length = stG p (gk L) := by
 funext k
 unfold fm
 split
 ·rfl
 ·unfold stG
  rw [bZ (by omega)]
  have := zD L k
  rw [if_neg (by omega)]
theorem wD (p : List Int) (g : Nat → Int) : fm p g 0 = g := by funext k; unfold fm; rw [if_neg (by omega)]
def dF (g : Nat → Int) : List D := ((List.range 6).map g).map D.int
theorem wF (p : List Int) (g : Nat → Int) {j : Nat} (h : j < 6) (q : stG p g j = at0 p j) : (dF (fm p g j)).set j (.int (at0 p j)) = dF (fm p g (j + 1)) := by
 refine List.ext_getElem (by simp [dF]) fun i h1 h2 => ?_
 have hi : i < 6 := by simpa [dF] using h2
 rw [List.getElem_set]
 simp only [dF, List.getElem_map, List.getElem_range]
 unfold fm
 by_cases e : j = i
 ·subst e
  rw [if_pos rfl, if_pos (by omega), q]
 ·rw [if_neg e]
  by_cases z : i < j
  ·rw [if_pos z, if_pos (by omega)]
  ·rw [if_neg z, if_neg (by omega)]
theorem tw (p : List Int) (g : Nat → Int) {j : Nat} (q : stG p g j = g j) : dF (fm p g j) = dF (fm p g (j + 1)) := by
 unfold dF
 congr 1
 refine List.map_congr_left fun i _ => ?_
 unfold fm
 by_cases z : i < j
 ·rw [if_pos z, if_pos (by omega)]
 ·by_cases e : i = j
  ·subst e; rw [if_neg z, if_pos (by omega), q]
  ·rw [if_neg z, if_neg (by omega)]
theorem yZ (g : Nat → Int) {j : Nat} (h : j < 6) : atI (dF g) (j : Int) = some (.int (g j)) := by
 rw [kW (by omega) (by simp [dF]; omega), Int.toNat_natCast]
 simp [dF, h]
def ju : Fn := fun ds r => ∃ L : List Trm, (∀ t ∈ L, t.1.length ≤ 6) ∧ ds = [.lst (L.map af)] ∧ r = .ok (.ow (dF (gk L)))
theorem q8 {L : List Trm} (h : ∀ t ∈ L, t.1.length ≤ 6) : ju [.lst (L.map af)] (.ok (.ow (dF (gk L)))) := ⟨L, h, rfl, rfl⟩
section
local macro_rules | `(tactic| walk_at "evPut") => `(tactic| with_reducible refine Bb (by walk_at "at") (by walk_at "at") (by walk_at "own") ?_)
local macro_rules | `(tactic| walk_at "evX") => `(tactic| first | ((with_reducible show EvX _ (Expr.BinOp _ Operator.Mult _ _) _ _); with_reducible refine x_rep ?_))
local macro_rules | `(tactic| walk_at "evE") => `(tactic| first | ((with_reducible show EvE _ (Expr.Name (Str.ofString "PLACES") _) _ _); with_reducible refine oO (by assumption) ?_))
theorem wG {f : Addr} {fd : FuncData} (Fu : Fun K "greatest_powers" "greatest_powers" bF f fd) (T : Txt K mg) (PL : ∃ tk : Tok, mg (Str.ofString "PLACES") = some (.int 6 tk)) : aX P w K mg base (CXE P w) 1 f fd ["some"] (spF K ju) := by
 obtain ⟨tk, hPL⟩ := PL
 refine cN Fu eY eZ (by rintro ds r ⟨L, _, rfl, _⟩; rfl) (by rintro ds r ⟨L, _, _, rfl⟩; exact ⟨_, rfl⟩) fun c hq ds sl hF => ?_
 obtain ⟨L, hl, rfl, e⟩ := hF
 injection e with e
 subst e
 show bu c _ [.va (.lst (L.map af)), .un, .un, .un, .un, .un] _ _
 conv in (aB _) => whnf
 walk_at "ev"
 refine ⟨_, rfl, ?_⟩
 walk_at "ev"
 ·exact ⟨⟨by decide, by decide⟩, by decide⟩
 walk_at "ev"
 show EvS c _ [.va (.lst (L.map af)), .ow (dF (gk [])), .un, .un, .un, .un] _ _
 with_reducible refine cO hq (bN ?_)
 walk_at "ev"
 refine ⟨fun i ρ' => ∃ s2 s3 s4 s5 : Sl, ρ' = [.va (.lst (L.map af)), .ow (dF (gk (L.take i))), s2, s3, s4, s5], ⟨_, _, _, _, rfl⟩, ?_, ?_⟩
 ·rintro c' hcX hcR hcM i d ρ' hd ⟨s2, s3, s4, s5, rfl⟩
  simp only [List.getElem?_map, Option.map_eq_some_iff] at hd
  obtain ⟨t, ht, rfl⟩ := hd
  obtain ⟨hi, rfl⟩ := List.getElem?_eq_some_iff.mp ht
  have h6 := hl _ (List.getElem_mem hi)
  have hq' : c'.X.xe = fun _ _ => False := by rw [hcX]; exact hq
  show EvG c' _ (D.tup [.tup (L[i].1.map .int), .int L[i].2]) _ _
  walk_at "ev"
  have eg : gk (L.take (i + 1)) = fm L[i].1 (gk (L.take i)) L[i].1.length := by rw [List.take_succ_eq_append_getElem hi, yX, yY]
  generalize L[i] = t at h6 eg ⊢
  generalize gk (L.take i) = g at eg ⊢
  with_reducible refine cO hq' (Bg (Txt.enum (by assumption)) ?_)
  walk_at "ev"
  refine ⟨_, rfl, ?_⟩
  refine ⟨fun j ρ' => ∃ s4 s5 : Sl, ρ' = [.va (.lst (L.map af)), .ow (dF (fm t.1 g j)), .va (.tup (t.1.map .int)), .va (.int t.2), s4, s5], ⟨s4, s5, by rw [wD]⟩, ?_, ?_⟩
  ·rintro c2 hcX2 hcR2 hcM2 j d ρ' hd ⟨s4, s5, rfl⟩
   unfold ji at hd
   simp only [List.getElem?_map, Option.map_eq_some_iff, List.getElem?_zipIdx] at hd
   obtain ⟨⟨x, m⟩, ⟨y, ⟨z, hz, rfl⟩, e⟩, rfl⟩ := hd
   obtain ⟨rfl, rfl⟩ : D.int z = x ∧ 0 + j = m := by simpa using e
   obtain ⟨hj, rfl⟩ := List.getElem?_eq_some_iff.mp hz
   have hj6 : j < 6 := by omega
   have ha : atI (dF (fm t.1 g j)) (((0 + j : Nat) : Int)) = some (.int (g j)) := by
    rw [Nat.zero_add, yZ _ hj6]; unfold fm; rw [if_neg (by omega)]
   have ep : at0 t.1 j = t.1[j] := cH hj
   have hj0 : 0 + j = j := Nat.zero_add j
   rw [hj0] at ha ⊢
   show EvG c2 _ (D.tup [.int (j : Nat), .int t.1[j]]) _ _
   walk_at "ev"
   ·refine ⟨j, rfl, ⟨by simp [dF]; omega, ?_⟩⟩
    walk_at "ev"
    refine ⟨.va (.int (j : Nat)), .va (.int t.1[j]), ?_⟩
    show [_, Sl.ow ((dF (fm t.1 g j)).set j (.int t.1[j])), _, _, _, _] = _
    rw [← ep, wF t.1 g hj6 (by unfold stG; rw [ep, if_pos (by assumption)])]
   ·refine ⟨.va (.int (j : Nat)), .va (.int t.1[j]), ?_⟩
    rw [tw t.1 g (by unfold stG; rw [ep, if_neg (by assumption)])]
  ·rintro ρ' ⟨s4, s5, rfl⟩
   rw [show (ji (t.1.map D.int)).length = t.1.length by simp [ji]]
   walk_at "ev"
   exact ⟨_, _, _, _, by rw [eg]⟩
 ·rintro ρ' ⟨s2, s3, s4, s5, rfl⟩
  rw [List.length_map, List.take_length]
  walk_at "ev"
  rfl
end
def mxL (ns : List Int) : Int := ns.foldr max 0
theorem wH : ∀ {ns : List Int} {n : Int}, n ∈ ns → n ≤ mxL ns
 | x :: ns, n, h => by
  show n ≤ max x (mxL ns)
  rcases List.mem_cons.mp h with rfl | h
  ·omega
  ·have := wH h; omega
theorem wI : ∀ (ns : List Int), 0 ≤ mxL ns
 | [] => Int.le_refl _
 | x :: ns => by show 0 ≤ max x (mxL ns); have := wI ns; omega
theorem pQ : ∀ {ns : List Int} {m : Int}, 0 ≤ m → (∀ n ∈ ns, n ≤ m) → mxL ns ≤ m
 | [], _, h, _ => h
 | x :: ns, m, h0, h => by
  show max x (mxL ns) ≤ m
  have := pQ h0 fun n hn => h n (List.mem_cons_of_mem _ hn)
  have := h x List.mem_cons_self
  omega
def wid (A B : List Trm) : Nat := Builtin.Int.intBits (mxL (aS A) + mxL (aS B))
def wJ : Fn := fun ds r => ∃ A B : List Trm, (∀ t ∈ A ++ B, t.1.length ≤ 6) ∧ ds = [.lst (A.map af), .lst (B.map af)] ∧ r = .ok (.va (.int (wid A B : Nat)))
theorem f_wid {A B : List Trm} (h : ∀ t ∈ A ++ B, t.1.length ≤ 6) : wJ [.lst (A.map af), .lst (B.map af)] (.ok (.va (.int (wid A B : Nat)))) := ⟨A, B, h, rfl, rfl⟩
theorem nV {L : List Trm} {m : Int} (h : m ∈ aS L) (h2 : ∀ n ∈ aS L, n ≤ m) : m = mxL (aS L) := by
 have h0 : 0 ≤ m := by
  unfold aS at h
  obtain ⟨k, _, rfl⟩ := List.mem_map.mp h
  exact zD L k
 exact Int.le_antisymm (wH h) (pQ h0 h2)
section
local macro_rules | `(tactic| walk_at "evMt") => `(tactic| with_reducible refine Ba ?_)
local macro_rules | `(tactic| walk_at "evCa") => `(tactic| first
 | ((with_reducible show EvE _ (Expr.Call (Expr.Name (Str.ofString "max") _) [_] _ _) _ _); with_reducible refine Bc (Txt.max (by assumption)) ?_)
 | with_reducible refine bg (F := ju) (by assumption) (by decide) ?_)
theorem BB {f : Addr} {fd : FuncData} (Fu : Fun K "width_for" "width_for" dw f fd) (T : Txt K mg) (h1 : Cal P w K mg base 1 (Str.ofString "greatest_powers") ju) : aX P w K mg base (CXE P w) 2 f fd ["one", "other"] (spF K wJ) := by
 refine cN Fu lF lG (by rintro ds r ⟨A, B, _, rfl, _⟩; rfl) (by rintro ds r ⟨A, B, _, _, rfl⟩; exact ⟨_, rfl⟩) fun c hq ds sl hF => ?_
 obtain ⟨A, B, hp, rfl, e⟩ := hF
 injection e with e
 subst e
 show bu c _ [.va (.lst (A.map af)), .va (.lst (B.map af)), .un] _ _
 conv in (aB _) => whnf
 walk_at "ev"
 refine aN (q8 fun t ht => hp t (List.mem_append_left _ ht)) (d8 ⟨aS A, by simp [aS], rfl, fun m ⟨m1, m2⟩ => ?_⟩)
 rw [nV m1 m2]
 walk_at "ev"
 refine aN (q8 fun t ht => hp t (List.mem_append_right _ ht)) (d8 ⟨aS B, by simp [aS], rfl, fun m ⟨m1, m2⟩ => ?_⟩)
 rw [nV m1 m2]
 walk_at "ev"
 rfl
end
end
set_option Elab.async false
set_option linter.all false
set_option maxRecDepth 100000
set_option maxHeartbeats 0
section
variable {P : Program} {w : World} {K : PySem.W.Frag} {mg : Str → Option Value} {base : Heap}
def wK : Fn := fun ds r => ∃ (p : List Int) (W : Nat), W ≤ 10 ∧ Bd (2 ^ W) p ∧ ds = [.tup (p.map .int), .int (W : Nat)] ∧ r = .ok (.va (.int (pk (2 ^ W) p)))
theorem f_key {p : List Int} {W : Nat} (h : W ≤ 10) (h2 : Bd (2 ^ W) p) : wK [.tup (p.map .int), .int (W : Nat)] (.ok (.va (.int (pk (2 ^ W) p)))) := ⟨p, W, h, h2, rfl, rfl⟩
section
local macro_rules | `(tactic| walk_at "evE") => `(tactic| first | ((with_reducible show EvE _ (Expr.Name (Str.ofString "PLACES") _) _ _); with_reducible refine oO (by assumption) ?_))
local macro_rules | `(tactic| walk_at "evBo") => `(tactic| first | with_reducible refine zA ?_ | with_reducible refine zB ?_ | with_reducible refine vM ?_)
theorem BC {f : Addr} {fd : FuncData} (Fu : Fun K "key_of" "key_of" gB f fd) (T : Txt K mg) (PL : ∃ tk : Tok, mg (Str.ofString "PLACES") = some (.int 6 tk)) : aX P w K mg base (CXE P w) 1 f fd ["powers", "width"] (spF K wK) := by
 obtain ⟨tk, hPL⟩ := PL
 refine cN Fu sP sQ (by rintro ds r ⟨p, W, _, _, rfl, _⟩; rfl) (by rintro ds r ⟨p, W, _, _, _, rfl⟩; exact ⟨_, rfl⟩) fun c hq ds sl hF => ?_
 obtain ⟨p, W, hW, hp, rfl, e⟩ := hF
 injection e with e
 subst e
 have h6 := hp.1
 show bu c _ [.va (.tup (p.map .int)), .va (.int (W : Nat)), .un, .un] _ _
 conv in (aB _) => whnf
 walk_at "ev"
 with_reducible refine cO hq (bN ?_)
 walk_at "ev"
 refine ⟨fun i ρ' => ∃ s3 : Sl, ρ' = [.va (.tup (p.map .int)), .va (.int (W : Nat)), .va (.int (hrn (2 ^ W) (p.take i))), s3], ⟨_, rfl⟩, ?_, ?_⟩
 ·rintro c' hcX hcR hcM i d ρ' hd ⟨s3, rfl⟩
  simp only [List.getElem?_map, Option.map_eq_some_iff] at hd
  obtain ⟨x, hx, rfl⟩ := hd
  obtain ⟨hi, rfl⟩ := List.getElem?_eq_some_iff.mp hx
  have bd := vZ (two_pos W) (p := p.take i) fun x hx => hp.2 x (List.mem_of_mem_take hx)
  have hl : (p.take i).length ≤ 6 := by rw [List.length_take]; omega
  walk_at "ev"
  ·exact ⟨by omega, by omega, qU hW hl bd.1 bd.2⟩
  ·refine ⟨.va (.int p[i]), ?_⟩
   rw [List.take_succ_eq_append_getElem hi, vY, Int.toNat_natCast]
 ·rintro ρ' ⟨s3, rfl⟩
  rw [List.length_map, List.take_length]
  have bd := vZ (two_pos W) hp.2
  have ew : (W : Int) * (6 - ((p.map D.int).length : Nat)) = ((W * (6 - p.length) : Nat) : Int) := by
   rw [List.length_map, Int.natCast_mul, Int.ofNat_sub h6]; rfl
  have ew2 : W * (6 - p.length) ≤ 60 := Nat.le_trans (Nat.mul_le_mul hW (Nat.sub_le 6 _)) (by decide)
  walk_at "ev"
  ·exact mF (by omega)
  ·rw [ew]; exact ⟨by omega, by omega, qU hW h6 bd.1 bd.2⟩
  ·show Sl.va _ = Sl.va _
   rw [ew, Int.toNat_natCast, Int.pow_mul, Bq h6]
end
theorem gi {α : Type} (f : α → D) : ∀ L : List α, (L.map fun t => some (f t)).filterMap id = L.map f
 | [] => rfl
 | x :: L => by
  rw [List.map_cons, List.map_cons, List.filterMap_cons]
  exact congrArg (f x :: ·) (gi f L)
def nW : Fn := fun ds r => ∃ (x : Int) (W : Nat), W ≤ 10 ∧ 0 ≤ x ∧ ds = [.int x, .int (W : Nat)] ∧ r = .ok (.va (.tup ((unp (2 ^ W) x).map .int)))
theorem BD {x : Int} {W : Nat} (h : W ≤ 10) (h2 : 0 ≤ x) : nW [.int x, .int (W : Nat)] (.ok (.va (.tup ((unp (2 ^ W) x).map .int)))) := ⟨x, W, h, h2, rfl, rfl⟩
section
local macro_rules | `(tactic| walk_at "evE") => `(tactic| first | ((with_reducible show EvE _ (Expr.Name (Str.ofString "PLACES") _) _ _); with_reducible refine oO (by assumption) ?_))
local macro_rules | `(tactic| walk_at "evBo") => `(tactic| first | with_reducible refine zA ?_ | with_reducible refine zB ?_ | with_reducible refine vM ?_)
local macro_rules | `(tactic| walk_at "evXC") => `(tactic| first | with_reducible refine x_call (F := eB) (by assumption) (by decide) ?_)
theorem y9 {f : Addr} {fd : FuncData} (Fu : Fun K "powers_of" "powers_of" dz f fd) (T : Txt K mg) (PL : ∃ tk : Tok, mg (Str.ofString "PLACES") = some (.int 6 tk)) (h1 : Cal P w K mg base 1 (Str.ofString "trimmed") eB) : aX P w K mg base (CXE P w) 2 f fd ["key", "width"] (spF K nW) := by
 obtain ⟨tk, hPL⟩ := PL
 refine cN Fu lH lI (by rintro ds r ⟨x, W, _, _, rfl, _⟩; rfl) (by rintro ds r ⟨x, W, _, _, _, rfl⟩; exact ⟨_, rfl⟩) fun c hq ds sl hF => ?_
 obtain ⟨x, W, hW, hx, rfl, e⟩ := hF
 injection e with e
 subst e
 show bu c _ [.va (.int x), .va (.int (W : Nat)), .un] _ _
 conv in (aB _) => whnf
 walk_at "ev"
 ·exact ⟨by omega, by omega, by decide⟩
 walk_at "ev"
 rw [Int.toNat_natCast]
 refine e_x (cW hq (N' := ["k", "key", "mask", "width"]) (ρ0 := fun _ => [.un, .va (.int x), .va (.int (1 * 2 ^ W - 1)), .va (.int (W : Nat))]) (fun t => .un (.fr (by walk_at "at") (by walk_at "at") (by decide) rfl (.fr (by walk_at "at") (by walk_at "at") (by decide) rfl (.fr (by walk_at "at") (by walk_at "at") (by decide) rfl .nil)))) (Bh (Txt.range T) ?_))
 walk_at "ev"
 refine ⟨rfl, ⟨⟨by decide, by decide⟩, ⟨⟨by decide, by decide⟩, ⟨by decide, ?_⟩⟩⟩⟩
 refine ⟨(List.range 6).map fun (i : Nat) => some (.int (x / (2 ^ W) ^ (5 - i) % 2 ^ W)), rfl, ?_, d8 ?_⟩
 ·intro c' hc t i d o hd ho
  unfold vQ at hd
  simp only [List.getElem?_map, Option.map_eq_some_iff] at hd ho
  obtain ⟨a, ha, rfl⟩ := hd
  obtain ⟨a', ha', rfl⟩ := ho
  have hi : i < 6 := by simpa using (List.getElem?_eq_some_iff.mp ha').1
  rw [List.getElem?_range hi] at ha'; cases ha'
  rw [show (6 - 1 - -1 : Int).toNat = 6 by decide, List.getElem?_range hi] at ha; cases ha
  refine dH (by walk_at "at") (nxt (by walk_at "sset") ⟨.un (.same (.same (.same .nil))), ?_⟩)
  simp only [EvC]
  refine ⟨fun _ => ?_, fun h => by cases h⟩
  have e5 : ((W : Int) * (6 - 1 - (i : Int))).toNat = W * (5 - i) := by
   rw [show ((6 : Int) - 1 - (i : Int)) = ((5 - i : Nat) : Int) by omega, ← Int.natCast_mul, Int.toNat_natCast]
  have e6 : (0 : Int) ≤ (W : Int) * (6 - 1 - (i : Int)) := Int.mul_nonneg (by omega) (by omega)
  have hp : (0 : Int) < (2 ^ W) ^ (5 - i) := Int.pow_pos (two_pos W)
  walk_at "ev"
  ·exact mF (by omega)
  ·show some _ = some (D.int _)
   rw [e5, Int.pow_mul, sM W (Int.ediv_nonneg hx (by omega))]
 ·refine ⟨_, rfl, ?_⟩
  rw [gi (fun (i : Nat) => D.int (x / (2 ^ W) ^ (5 - i) % 2 ^ W)) (List.range 6), show ((List.range 6).map fun (i : Nat) => D.int (x / (2 ^ W) ^ (5 - i) % 2 ^ W)) = ((List.range 6).map fun (i : Nat) => x / (2 ^ W) ^ (5 - i) % 2 ^ W).map D.int by rw [List.map_map]; rfl]
  walk_at "ev"
  exact aN (wj (by simp)) rfl
end
def pkD (b : Int) (t : Trm) : D := .tup [.int (pk b t.1), .int t.2]
def nX : Fn := fun ds r => ∃ (L : List Trm) (W : Nat), W ≤ 10 ∧ L.length ≤ 990 ∧ (∀ t ∈ L, Bd (2 ^ W) t.1) ∧ ds = [.lst (L.map af), .int (W : Nat)] ∧ r = .ok (.ow (L.map (pkD (2 ^ W))))
theorem wL {L : List Trm} {W : Nat} (h : W ≤ 10) (h1 : L.length ≤ 990) (h2 : ∀ t ∈ L, Bd (2 ^ W) t.1) : nX [.lst (L.map af), .int (W : Nat)] (.ok (.ow (L.map (pkD (2 ^ W))))) := ⟨L, W, h, h1, h2, rfl, rfl⟩
section
local macro_rules | `(tactic| walk_at "evCa") => `(tactic| first | with_reducible refine bg (F := wK) (by assumption) (by decide) ?_)
theorem za {f : Addr} {fd : FuncData} (Fu : Fun K "packed" "packed" gC f fd) (T : Txt K mg) (h1 : Cal P w K mg base 1 (Str.ofString "key_of") wK) : aX P w K mg base (CXE P w) 2 f fd ["some", "width"] (spF K nX) := by
 refine cN Fu sR sS (by rintro ds r ⟨L, W, _, _, _, rfl, _⟩; rfl) (by rintro ds r ⟨L, W, _, _, _, _, rfl⟩; exact ⟨_, rfl⟩) fun c hq ds sl hF => ?_
 obtain ⟨L, W, hW, hL, hb, rfl, e⟩ := hF
 injection e with e
 subst e
 show bu c _ [.va (.lst (L.map af)), .va (.int (W : Nat))] _ _
 conv in (aB _) => whnf
 refine cC (jU (cW hq (N' := ["powers", "number", "width"]) (ρ0 := fun _ => [.un, .un, .va (.int (W : Nat))]) (fun t => .un (.un (.fr (by walk_at "at") (by walk_at "at") (by decide) rfl .nil))) (bN ?_)))
 walk_at "ev"
 ·exact aF (by rw [List.length_map]; omega)
 refine ⟨L.map fun t => some (pkD (2 ^ W) t), by simp, ?_, by show Sl.ow _ = Sl.ow _; rw [gi]⟩
 intro c' hc t i d o hd ho
 simp only [List.getElem?_map, Option.map_eq_some_iff] at hd ho
 obtain ⟨x, hx, rfl⟩ := hd
 obtain ⟨x', hx', rfl⟩ := ho
 rw [hx] at hx'; cases hx'
 have hbx := hb x (List.mem_of_getElem? hx)
 show EvG c' _ (.tup [.tup (x.1.map .int), .int x.2]) _ _
 walk_at "ev"
 refine ⟨.un (.un (.same .nil)), ?_⟩
 simp only [EvC]
 refine ⟨fun _ => ?_, fun h => by cases h⟩
 walk_at "ev"
 refine aN (f_key hW hbx) ?_
 walk_at "ev"
 rfl
end
end
set_option Elab.async false
set_option linter.all false
set_option maxRecDepth 100000
set_option maxHeartbeats 0
section
variable {P : Program} {w : World} {K : PySem.W.Frag} {mg : Str → Option Value} {base : Heap}
def zb : FnM := fun kvs ds kvs' => ∃ (A B : List Trm) (W : Nat), W ≤ 10 ∧ A.length * B.length ≤ 990 ∧ A.length ≤ 990 ∧ B.length ≤ 990 ∧ (∀ l ∈ A, ∀ r ∈ B, Bd (2 ^ W) (fX l.1 r.1) ∧ EV.MulOk l.2 r.2) ∧ kvs = [] ∧ ds = [.lst (A.map (pkD (2 ^ W))), .lst (B.map (pkD (2 ^ W)))] ∧ kvs' = cI ((aH (aP A B)).map (pkT (2 ^ W)))
section
local macro_rules | `(tactic| walk_at "evS") => `(tactic| first | ((with_reducible show EvS _ (Stmt.AugAssign (Expr.Subscript (Expr.Name _ _) _ _) Operator.Add _ _) _ _ _); with_reducible refine qu (by walk_at "at") (by walk_at "at") ?_ (ho := by walk_at "own")))
theorem BE {f : Addr} {fd : FuncData} (Fu : Fun K "add_products" "add_products" b9 f fd) (T : Txt K mg) : aX P w K mg base (CXE P w) 1 f fd ["total", "left", "right"] (spM K zb) := by
 refine fn_m Fu gX gY (by rintro kvs ds kvs' ⟨A, B, W, _, _, _, _, _, _, rfl, _⟩; rfl) fun c hq q kvs ds kvs' hF => ?_
 obtain ⟨A, B, W, hW, hl, hA, hB, hp, rfl, rfl, rfl⟩ := hF
 show bu c _ [.aK q (cI ((aH (aP (A.take 0) B)).map (pkT (2 ^ W)))), .va (.lst (A.map (pkD (2 ^ W)))), .va (.lst (B.map (pkD (2 ^ W)))), .un, .un, .un, .un, .un] _ _
 conv in (aB _) => whnf
 walk_at "ev"
 with_reducible refine cO hq (bN ?_)
 walk_at "ev"
 refine ⟨fun i ρ' => ∃ s3 s4 s5 s6 s7 : Sl, ρ' = [.aK q (cI ((aH (aP (A.take i) B)).map (pkT (2 ^ W)))), .va (.lst (A.map (pkD (2 ^ W)))), .va (.lst (B.map (pkD (2 ^ W)))), s3, s4, s5, s6, s7], ⟨_, _, _, _, _, rfl⟩, ?_, ?_⟩
 ·rintro c' hcX hcR hcM i d ρ' hd ⟨s3, s4, s5, s6, s7, rfl⟩
  simp only [List.getElem?_map, Option.map_eq_some_iff] at hd
  obtain ⟨l, hlx, rfl⟩ := hd
  obtain ⟨hi, rfl⟩ := List.getElem?_eq_some_iff.mp hlx
  have hq' : c'.X.xe = fun _ _ => False := by rw [hcX]; exact hq
  show EvG c' _ (.tup [.int (pk (2 ^ W) A[i].1), .int A[i].2]) _ _
  walk_at "ev"
  with_reducible refine cO hq' (bN ?_)
  walk_at "ev"
  have hpi := hp A[i] (List.getElem_mem hi)
  have e0 : aP (A.take (i + 1)) B = aP (A.take i) B ++ B.map (cQ A[i]) := by
   rw [List.take_succ_eq_append_getElem hi, ko]
  have hprev : ∀ t ∈ aP (A.take i) B, Bd (2 ^ W) t.1 := fun t ht => by
   obtain ⟨l, hl, r, hr, rfl⟩ := fY ht
   exact (hp l (List.mem_of_mem_take hl) r hr).1
  have hlen : (aP (A.take i) B).length + B.length ≤ 990 := by
   rw [cR, List.length_take, Nat.min_eq_left (by omega), ← Nat.succ_mul]
   exact Nat.le_trans (Nat.mul_le_mul_right _ (by omega)) hl
  generalize A[i] = l at hpi e0 ⊢
  generalize aP (A.take i) B = ts at e0 hprev hlen ⊢
  refine ⟨fun j ρ' => ∃ s5 s6 s7 : Sl, ρ' = [.aK q (cI ((aH (ts ++ (B.take j).map (cQ l))).map (pkT (2 ^ W)))), .va (.lst (A.map (pkD (2 ^ W)))), .va (.lst (B.map (pkD (2 ^ W)))), .va (.int (pk (2 ^ W) l.1)), .va (.int l.2), s5, s6, s7], ⟨s5, s6, s7, by simp⟩, ?_, ?_⟩
  ·rintro c2 hcX2 hcR2 hcM2 j d ρ' hd ⟨s5, s6, s7, rfl⟩
   simp only [List.getElem?_map, Option.map_eq_some_iff] at hd
   obtain ⟨r, hrx, rfl⟩ := hd
   obtain ⟨hj, rfl⟩ := List.getElem?_eq_some_iff.mp hrx
   obtain ⟨hb, hm⟩ := hpi B[j] (List.getElem_mem hj)
   have e1 : ts ++ (B.take (j + 1)).map (cQ l) = (ts ++ (B.take j).map (cQ l)) ++ [cQ l B[j]] := by
    rw [List.take_succ_eq_append_getElem hj, List.map_append, List.append_assoc]; rfl
   have hprev2 : ∀ t ∈ ts ++ (B.take j).map (cQ l), Bd (2 ^ W) t.1 := fun t ht => by
    rcases List.mem_append.mp ht with z | z
    ·exact hprev t z
    ·obtain ⟨r, hr, rfl⟩ := List.mem_map.mp z
     exact (hpi r (List.mem_of_mem_take hr)).1
   have hlen2 : (ts ++ (B.take j).map (cQ l)).length < 990 := by
    rw [List.length_append, List.length_map, List.length_take]; omega
   have key := Bp (two_pos W) hprev2 (t := cQ l B[j]) hb
   rw [← e1] at key
   generalize ts ++ (B.take j).map (cQ l) = us at key hlen2 ⊢
   generalize B[j] = r at key hb hm ⊢
   show EvG c2 _ (.tup [.int (pk (2 ^ W) r.1), .int r.2]) _ _
   have ek : pk (2 ^ W) (cQ l r).1 = pk (2 ^ W) l.1 + pk (2 ^ W) r.1 := yM _ _ _
   rw [ek] at key
   have hC : (cI ((aH us).map (pkT (2 ^ W)))).length < sizeLine := bz (by
    have := di us
    simp only [cI, List.length_map]; omega)
   generalize (aH us).map (pkT (2 ^ W)) = C at key hC ⊢
   walk_at "ev"
   refine zw (by walk_at "at") (by walk_at "at") ?_
   walk_at "ev"
   refine ⟨_, .k rfl rfl, ?_⟩
   rw [fW]
   cases hv : bh C (pk (2 ^ W) l.1 + pk (2 ^ W) r.1) with
   | some m =>
    rw [hv] at key
    show If2 _ _ true
    walk_at "ev"
    refine ⟨m, by rw [← show bh (cI C) (.inl (pk (2 ^ W) l.1 + pk (2 ^ W) r.1)) = some (D.int m) by rw [fW, hv]; rfl]; exact .k rfl rfl, ?_⟩
    walk_at "ev"
    refine ⟨_, .k rfl rfl hC, ?_⟩
    walk_at "ev"
    refine ⟨.va (.int (pk (2 ^ W) r.1)), .va (.int r.2), .va (.int (pk (2 ^ W) l.1 + pk (2 ^ W) r.1)), ?_⟩
    show [Sl.aK q (putD (cI C) (.inl (pk (2 ^ W) l.1 + pk (2 ^ W) r.1)) (.int (m + l.2 * r.2))), _, _, _, _, _, _, _] = _
    rw [nG, show putD C (pk (2 ^ W) l.1 + pk (2 ^ W) r.1) (m + l.2 * r.2) = _ from key]
   | none =>
    rw [hv] at key
    show If2 _ _ false
    walk_at "ev"
    refine ⟨_, .k rfl rfl hC, ?_⟩
    walk_at "ev"
    refine ⟨.va (.int (pk (2 ^ W) r.1)), .va (.int r.2), .va (.int (pk (2 ^ W) l.1 + pk (2 ^ W) r.1)), ?_⟩
    show [Sl.aK q (putD (cI C) (.inl (pk (2 ^ W) l.1 + pk (2 ^ W) r.1)) (.int (l.2 * r.2))), _, _, _, _, _, _, _] = _
    rw [nG, ← Int.zero_add (l.2 * r.2), show putD C (pk (2 ^ W) l.1 + pk (2 ^ W) r.1) (0 + l.2 * r.2) = _ from key]
  ·rintro ρ' ⟨s5, s6, s7, rfl⟩
   rw [List.length_map, List.take_length, ← e0]
   walk_at "ev"
   exact ⟨_, _, _, _, _, rfl⟩
 ·rintro ρ' ⟨s3, s4, s5, s6, s7, rfl⟩
  rw [List.length_map, List.take_length]
  walk_at "ev"
  exact ⟨_, rfl⟩
end
def fzI (C : List (Int × Int)) : D := .fdK ((cI C).map (·.1)) ((cI C).map (·.2))
theorem wM (C : List (Int × Int)) : (cI C).map (·.1) = (C.map (·.1)).map Sum.inl := by unfold cI; rw [List.map_map, List.map_map]; rfl
def wN : Fn := fun ds r => ∃ (ts : List Trm) (W : Nat), W ≤ 10 ∧ ts.length ≤ 990 ∧ (∀ t ∈ ts, Bd (2 ^ W) t.1) ∧ ds = [fzI ((aH ts).map (pkT (2 ^ W))), .int (W : Nat)] ∧ r = .ok (.ow ((bf ts).map af))
theorem f_unp {ts : List Trm} {W : Nat} (h : W ≤ 10) (h1 : ts.length ≤ 990) (h2 : ∀ t ∈ ts, Bd (2 ^ W) t.1) : wN [fzI ((aH ts).map (pkT (2 ^ W))), .int (W : Nat)] (.ok (.ow ((bf ts).map af))) := ⟨ts, W, h, h1, h2, rfl, rfl⟩
theorem pR {L : List Int} (h : gW ltI true L) : L.Pairwise fun x y => y < x := by
 unfold gW at h
 exact h.imp fun {x y} q => by simpa using q
section
local macro_rules | `(tactic| walk_at "evIx") => `(tactic| with_reducible refine Br ?_)
local macro_rules | `(tactic| walk_at "evCa") => `(tactic| first | with_reducible refine bg (F := nW) (by assumption) (by decide) ?_)
theorem BF {f : Addr} {fd : FuncData} (Fu : Fun K "unpacked" "unpacked" dQ f fd) (T : Txt K mg) (h1 : Cal P w K mg base 2 (Str.ofString "powers_of") nW) : aX P w K mg base (CXE P w) 3 f fd ["total", "width"] (spF K wN) := by
 refine cN Fu nS nT (by rintro ds r ⟨ts, W, _, _, _, rfl, _⟩; rfl) (by rintro ds r ⟨ts, W, _, _, _, _, rfl⟩; exact ⟨_, rfl⟩) fun c hq ds sl hF => ?_
 obtain ⟨ts, W, hW, hl, hb, rfl, e⟩ := hF
 injection e with e
 subst e
 show bu c _ [.va (fzI ((aH ts).map (pkT (2 ^ W)))), .va (.int (W : Nat))] _ _
 conv in (aB _) => whnf
 refine cC (jU (cW hq (N' := ["key", "total", "width"]) (ρ0 := fun _ => [.un, .va (fzI ((aH ts).map (pkT (2 ^ W)))), .va (.int (W : Nat))]) (fun t => .un (.fr (by walk_at "at") (by walk_at "at") (by decide) rfl (.fr (by walk_at "at") (by walk_at "at") (by decide) rfl .nil))) (bN (e_x (pq (Txt.sorted T) ?_)))))
 walk_at "ev"
 have hk := fU ts
 have hg := lC hb
 have nd : (((aH ts).map (pkT (2 ^ W))).map (·.1)).Nodup := by
  rw [List.map_map]
  unfold List.Nodup at hk ⊢
  rw [List.pairwise_map] at hk ⊢
  exact List.Pairwise.imp_of_mem (fun {x y} hx hy q z => q (pD (two_pos W) (hg x hx).1 (hg y hy).1 (hg x hx).2 (hg y hy).2 z)) hk
 refine ⟨((aH ts).map (pkT (2 ^ W))).map (·.1), _, by rw [← wM]; rfl, nd, fun L' hp hs => ?_⟩
 have eL := vX (two_pos W) hb hp (pR hs)
 subst eL
 have hle := di ts
 have hpl := (bx (aH ts)).length_eq
 refine d8 (rowX rfl ⟨aF (by simp only [List.length_map]; omega), (fV (aH ts)).map nzO, by simp, ?_, ?_⟩)
 ·intro c' hc t i d o hd ho
  simp only [List.getElem?_map, Option.map_eq_some_iff] at hd ho
  obtain ⟨n, ⟨x, hx, rfl⟩, rfl⟩ := hd
  obtain ⟨x', hx', rfl⟩ := ho
  rw [hx] at hx'; cases hx'
  have hm : x ∈ aH ts := (bx (aH ts)).subset (List.mem_of_getElem? hx)
  have hv : bh (cI ((aH ts).map (pkT (2 ^ W)))) (.inl (pk (2 ^ W) x.1)) = some (.int x.2) := by
   rw [fW, pF (two_pos W) hg (hg x hm).1 (hg x hm).2, yL hk hm]; rfl
  refine dH (by walk_at "at") (nxt (by walk_at "sset") ⟨.un (.same (.same .nil)), ?_⟩)
  simp only [EvC]
  have h0 := (pk_bd (two_pos W) (hg x hm).1).1
  walk_at "ev"
  refine ⟨_, _, _, rfl, rfl, hv, ?_⟩
  walk_at "ev"
  ·unfold nzO; rw [if_neg fun h => h (by assumption)]
  refine aN (BD hW h0) ?_
  rw [Bl (two_pos W) (hg x hm).1, (hg x hm).2]
  walk_at "ev"
  refine ⟨_, _, _, rfl, rfl, hv, ?_⟩
  walk_at "ev"
  unfold nzO
  rw [if_pos (by assumption)]
 ·show Sl.ow _ = Sl.ow _
  rw [gc, vH (keys_nodup hk)]
  rfl
end
structure kB (A B : List Trm) : Prop where
 la : A.length ≤ 990
 lb : B.length ≤ 990
 lp : A.length * B.length ≤ 990
 pa : ∀ t ∈ A, t.1.length ≤ 6 ∧ ∀ x ∈ t.1, 0 ≤ x ∧ x ≤ 500
 pb : ∀ t ∈ B, t.1.length ≤ 6 ∧ ∀ x ∈ t.1, 0 ≤ x ∧ x ≤ 500
 mu : ∀ l ∈ A, ∀ r ∈ B, EV.MulOk l.2 r.2
theorem q9 {k : Nat} {m : Int} : ∀ {L : List Trm} (a : Int), a ≤ m → (∀ t ∈ L, at0 t.1 k ≤ m) → L.foldl (fun a t => if at0 t.1 k > a then at0 t.1 k else a) a ≤ m
 | [], _, h, _ => h
 | t :: L, a, h, q => by
  rw [List.foldl_cons]
  have := q t List.mem_cons_self
  exact q9 _ (by split <;> omega) fun u hu => q u (List.mem_cons_of_mem _ hu)
theorem nY {L : List Trm} {m : Int} (h0 : 0 ≤ m) (h : ∀ t ∈ L, ∀ x ∈ t.1, x ≤ m) : mxL (aS L) ≤ m := by
 refine pQ h0 fun n hn => ?_
 unfold aS at hn
 obtain ⟨k, _, rfl⟩ := List.mem_map.mp hn
 refine q9 0 h0 fun t ht => ?_
 by_cases z : k < t.1.length
 ·rw [cH z]; exact h t ht _ (List.getElem_mem _)
 ·rw [bZ (by omega)]; exact h0
theorem gj {L : List Trm} {t : Trm} (ht : t ∈ L) (hl : t.1.length ≤ 6) {x : Int} (hx : x ∈ t.1) : x ≤ mxL (aS L) := by
 obtain ⟨k, hk, rfl⟩ := List.getElem_of_mem hx
 refine Int.le_trans ?_ (wH (show gk L k ∈ aS L from List.mem_map.mpr ⟨k, by simp; omega, rfl⟩))
 unfold gk
 rw [← cH hk]
 suffices H : ∀ a : Int, at0 t.1 k ≤ L.foldl (fun a t => if at0 t.1 k > a then at0 t.1 k else a) a from H 0
 induction L with
 | nil => cases ht
 | cons u L ih =>
  intro a
  rw [List.foldl_cons]
  rcases List.mem_cons.mp ht with rfl | ht
  ·refine Int.le_trans ?_ (qZ L k _)
   split <;> omega
  ·exact ih ht _
theorem zc {x : Int} (h : 0 ≤ x) : x < 2 ^ Builtin.Int.intBits x := by
 unfold Builtin.Int.intBits
 by_cases z : x = 0
 ·subst z; decide
 ·have e : (x == 0) = false := by simpa using z
  rw [e, if_neg Bool.false_ne_true, dY]
  have := Nat.lt_log2_self (n := x.natAbs)
  omega
theorem bits_le {x : Int} (h : x.natAbs < 1024) : Builtin.Int.intBits x ≤ 10 := by
 unfold Builtin.Int.intBits
 by_cases z : x = 0
 ·subst z; decide
 ·have e : (x == 0) = false := by simpa using z
  rw [e, if_neg Bool.false_ne_true]
  have := (Nat.log2_lt (n := x.natAbs) (k := 10) (by omega)).mpr h
  omega
theorem BG {A B : List Trm} (h : kB A B) : wid A B ≤ 10 ∧ (∀ t ∈ A, Bd (2 ^ wid A B) t.1) ∧ (∀ t ∈ B, Bd (2 ^ wid A B) t.1) ∧ ∀ l ∈ A, ∀ r ∈ B, Bd (2 ^ wid A B) (fX l.1 r.1) := by
 have a0 := wI (aS A)
 have b0 := wI (aS B)
 have a1 := nY (L := A) (m := 500) (by decide) fun t ht x hx => ((h.pa t ht).2 x hx).2
 have b1 := nY (L := B) (m := 500) (by decide) fun t ht x hx => ((h.pb t ht).2 x hx).2
 have lt := zc (x := mxL (aS A) + mxL (aS B)) (by omega)
 have le := bits_le (x := mxL (aS A) + mxL (aS B)) (by omega)
 unfold wid
 refine ⟨le, fun t ht => ⟨(h.pa t ht).1, fun x hx => ⟨((h.pa t ht).2 x hx).1, ?_⟩⟩, fun t ht => ⟨(h.pb t ht).1, fun x hx => ⟨((h.pb t ht).2 x hx).1, ?_⟩⟩, fun l hl r hr => ⟨?_, fun x hx => ?_⟩⟩
 ·have := gj ht (h.pa t ht).1 hx; omega
 ·have := gj ht (h.pb t ht).1 hx; omega
 ·rw [dO]; have := (h.pa l hl).1; have := (h.pb r hr).1; omega
 ·unfold fX at hx
  obtain ⟨k, _, rfl⟩ := List.mem_map.mp hx
  have ga : 0 ≤ at0 l.1 k ∧ at0 l.1 k ≤ mxL (aS A) := by
   by_cases z : k < l.1.length
   ·rw [cH z]; exact ⟨((h.pa l hl).2 _ (List.getElem_mem _)).1, gj hl (h.pa l hl).1 (List.getElem_mem _)⟩
   ·rw [bZ (by omega)]; omega
  have gb : 0 ≤ at0 r.1 k ∧ at0 r.1 k ≤ mxL (aS B) := by
   by_cases z : k < r.1.length
   ·rw [cH z]; exact ⟨((h.pb r hr).2 _ (List.getElem_mem _)).1, gj hr (h.pb r hr).1 (List.getElem_mem _)⟩
   ·rw [bZ (by omega)]; omega
  omega
def pS : Fn := fun ds r => ∃ A B : List Trm, kB A B ∧ ds = [.lst (A.map af), .lst (B.map af)] ∧ r = .ok (.ow ((bf (aP A B)).map af))
theorem zE {A B : List Trm} (h : kB A B) : pS [.lst (A.map af), .lst (B.map af)] (.ok (.ow ((bf (aP A B)).map af))) := ⟨A, B, h, rfl, rfl⟩
section
local macro_rules | `(tactic| walk_at "evX") => `(tactic| first | ((with_reducible show EvX _ (Expr.Dict _ _ _) _ _); with_reducible refine xZ ?_))
local macro_rules | `(tactic| walk_at "evCa") => `(tactic| first | with_reducible refine bg (F := wJ) (by assumption) (by decide) ?_ | with_reducible refine bg (F := nX) (by assumption) (by decide) ?_)
local macro_rules | `(tactic| walk_at "evXp") => `(tactic| with_reducible refine yC (F := zb) (by assumption) (by decide) (by walk_at "at") (by walk_at "at") (by walk_at "own") ?_)
local macro_rules | `(tactic| walk_at "evXC") => `(tactic| first | ((with_reducible show EvX _ (Expr.Call (Expr.Name (Str.ofString "unpacked") _) _ _ _) _ _); refine oY 3 (by walk_at "at") rfl (by walk_at "sset") (x_call (F := wN) (by assumption) (by decide) ?_)))
theorem BH {f : Addr} {fd : FuncData} (Fu : Fun K "poly_times" "poly_times" cJ f fd) (T : Txt K mg) (h1 : Cal P w K mg base 2 (Str.ofString "width_for") wJ) (h2 : Cal P w K mg base 2 (Str.ofString "packed") nX)
 (h3 : yz P w K mg base 1 (Str.ofString "add_products") zb) (h4 : Cal P w K mg base 3 (Str.ofString "unpacked") wN) : aX P w K mg base (CXE P w) 4 f fd ["one", "other"] (spF K pS) := by
 refine cN Fu jG jH (by rintro ds r ⟨A, B, _, rfl, _⟩; rfl) (by rintro ds r ⟨A, B, _, _, rfl⟩; exact ⟨_, rfl⟩) fun c hq ds sl hF => ?_
 obtain ⟨A, B, h, rfl, e⟩ := hF
 injection e with e
 subst e
 show bu c _ [.va (.lst (A.map af)), .va (.lst (B.map af)), .un, .un] _ _
 conv in (aB _) => whnf
 obtain ⟨w1, w2, w3, w4⟩ := BG h
 walk_at "ev"
 refine aN (f_wid fun t ht => ?_) ?_
 ·rcases List.mem_append.mp ht with z | z
  ·exact (h.pa t z).1
  ·exact (h.pb t z).1
 walk_at "ev"
 refine aN (wL w1 h.la w2) ?_
 walk_at "ev"
 refine aN (wL w1 h.lb w3) ?_
 walk_at "ev"
 refine ⟨_, ⟨A, B, wid A B, w1, h.lp, h.la, h.lb, fun l hl r hr => ⟨w4 l hl r hr, h.mu l hl r hr⟩, rfl, rfl, rfl⟩, ?_⟩
 walk_at "ev"
 refine aN (f_unp (ts := aP A B) w1 (by rw [cR]; exact h.lp) fun t ht => ?_) ⟨dS fun x _ => lO x, rfl⟩
 obtain ⟨l, hl, r, hr, rfl⟩ := fY ht
 exact w4 l hl r hr
end
end
set_option Elab.async false
set_option linter.all false
set_option maxRecDepth 100000
set_option maxHeartbeats 0
section
variable {P : Program} {w : World} {K : PySem.W.Frag} {mg : Str → Option Value} {base : Heap}
theorem tD (L : List Trm) (t : Trm) : L.map af ++ [af t] = (L ++ [t]).map af := by rw [List.map_append]; rfl
def jv : Fn := fun ds r => ∃ A B : List Trm, kB A B ∧ ds = [.lst (A.map af), .lst (B.map af)] ∧ r = .ok (.ow ((bf (aP A B)).map af))
theorem zd {A B : List Trm} (h : kB A B) : jv [.lst (A.map af), .lst (B.map af)] (.ok (.ow ((bf (aP A B)).map af))) := ⟨A, B, h, rfl, rfl⟩
theorem tE (n : Nat) : (List.replicate n [D.int 0]).flatten = (List.replicate n (0 : Int)).map D.int := by
 induction n with
 | zero => rfl
 | succ n ih => rw [List.replicate_succ, List.flatten_cons, ih, List.replicate_succ]; rfl
theorem wO {p : List Int} {n k : Nat} (h : k < n) (hp : p.length ≤ n) : atI (p.map D.int ++ (List.replicate n [D.int 0]).flatten) (k : Int) = some (.int (at0 p k)) := by
 rw [tE, ← List.map_append, kW (by omega) (by simp; omega), Int.toNat_natCast, List.getElem?_map]
 by_cases z : k < p.length
 ·rw [List.getElem?_append_left z, List.getElem?_eq_getElem z, cH z]; rfl
 ·rw [List.getElem?_append_right (by omega), List.getElem?_replicate, if_pos (by omega), bZ (by omega)]; rfl
section
local macro_rules | `(tactic| walk_at "evBo") => `(tactic| first | ((with_reducible show EvE _ (Expr.BinOp (Expr.Tuple _ _ _) Operator.Mult _ _) _ _); with_reducible refine Bj ?_))
local macro_rules | `(tactic| walk_at "evCa") => `(tactic| first
 | ((with_reducible show EvE _ (Expr.Call (Expr.Name (Str.ofString "max") _) [_, _] _ _) _ _); with_reducible refine A8 (Txt.max (by assumption)) ?_))
theorem wQ {f : Addr} {fd : FuncData} (Fu : Fun K "_law_product" "_law_product" dD f fd) (T : Txt K mg) (h1 : Cal P w K mg base 2 (Str.ofString "_law_sum") fh) : aX P w K mg base (CXE P w) 3 f fd ["_law_one", "_law_other"] (spF K jv) := by
 refine cN Fu lM lN (by rintro ds r ⟨A, B, _, rfl, _⟩; rfl) (by rintro ds r ⟨A, B, _, _, rfl⟩; exact ⟨_, rfl⟩) fun c hq ds sl hF => ?_
 obtain ⟨A, B, h, rfl, e⟩ := hF
 injection e with e
 subst e
 show bu c _ [.va (.lst (A.map af)), .va (.lst (B.map af)), .un, .un, .un, .un, .un, .un, .un] _ _
 conv in (aB _) => whnf
 walk_at "ev"
 show EvS c _ [.va (.lst (A.map af)), .va (.lst (B.map af)), .ow ((aP (A.take 0) B).map af), .un, .un, .un, .un, .un, .un] _ _
 with_reducible refine cO hq (bN ?_)
 walk_at "ev"
 refine ⟨fun i ρ' => ∃ s3 s4 s5 s6 s7 s8 : Sl, ρ' = [.va (.lst (A.map af)), .va (.lst (B.map af)), .ow ((aP (A.take i) B).map af), s3, s4, s5, s6, s7, s8], ⟨_, _, _, _, _, _, rfl⟩, ?_, ?_⟩
 ·rintro c' hcX hcR hcM i d ρ' hd ⟨s3, s4, s5, s6, s7, s8, rfl⟩
  simp only [List.getElem?_map, Option.map_eq_some_iff] at hd
  obtain ⟨l, hlx, rfl⟩ := hd
  obtain ⟨hi, rfl⟩ := List.getElem?_eq_some_iff.mp hlx
  have hq' : c'.X.xe = fun _ _ => False := by rw [hcX]; exact hq
  show EvG c' _ (.tup [.tup (A[i].1.map .int), .int A[i].2]) _ _
  walk_at "ev"
  with_reducible refine cO hq' (bN ?_)
  walk_at "ev"
  have hm := h.mu A[i] (List.getElem_mem hi)
  have h6 := (h.pa A[i] (List.getElem_mem hi)).1
  have e0 : aP (A.take (i + 1)) B = aP (A.take i) B ++ B.map (cQ A[i]) := by
   rw [List.take_succ_eq_append_getElem hi, ko]
  have hlen : (aP (A.take i) B).length + B.length ≤ 990 := by
   rw [cR, List.length_take, Nat.min_eq_left (by omega), ← Nat.succ_mul]
   exact Nat.le_trans (Nat.mul_le_mul_right _ (by omega)) h.lp
  generalize A[i] = l at hm h6 e0 ⊢
  generalize aP (A.take i) B = ts at e0 hlen ⊢
  refine ⟨fun j ρ' => ∃ s5 s6 s7 s8 : Sl, ρ' = [.va (.lst (A.map af)), .va (.lst (B.map af)), .ow ((ts ++ (B.take j).map (cQ l)).map af), .va (.tup (l.1.map .int)), .va (.int l.2), s5, s6, s7, s8], ⟨s5, s6, s7, s8, by simp⟩, ?_, ?_⟩
  ·rintro c2 hcX2 hcR2 hcM2 j d ρ' hd ⟨s5, s6, s7, s8, rfl⟩
   simp only [List.getElem?_map, Option.map_eq_some_iff] at hd
   obtain ⟨r, hrx, rfl⟩ := hd
   obtain ⟨hj, rfl⟩ := List.getElem?_eq_some_iff.mp hrx
   have hmr := hm B[j] (List.getElem_mem hj)
   have h6r := (h.pb B[j] (List.getElem_mem hj)).1
   have hq2 : c2.X.xe = fun _ _ => False := by rw [hcX2]; exact hq'
   have e1 : ts ++ (B.take (j + 1)).map (cQ l) = (ts ++ (B.take j).map (cQ l)) ++ [cQ l B[j]] := by
    rw [List.take_succ_eq_append_getElem hj, List.map_append, List.append_assoc]; rfl
   have hlen2 : ((ts ++ (B.take j).map (cQ l)).map af).length < sizeLine := bz (by
    rw [List.length_map, List.length_append, List.length_map, List.length_take]; omega)
   generalize ts ++ (B.take j).map (cQ l) = us at e1 hlen2 ⊢
   generalize B[j] = r at hmr h6r e1 ⊢
   show EvG c2 _ (.tup [.tup (r.1.map .int), .int r.2]) _ _
   walk_at "ev"
   have ew : (if ((r.1.map D.int).length : Int) > ((l.1.map D.int).length : Int) then ((r.1.map D.int).length : Int) else ((l.1.map D.int).length : Int)) = ((max l.1.length r.1.length : Nat) : Int) := by simp only [List.length_map]; split <;> omega
   rw [ew]
   have hw6 : max l.1.length r.1.length ≤ 6 := by omega
   refine oV (by walk_at "at") hq2 (N' := ["_law_k", "_law_left", "_law_right", "_law_wide"]) (ρ0 := fun _ => [.un, .va (.tup (l.1.map .int)), .va (.tup (r.1.map .int)), .va (.int ((max l.1.length r.1.length : Nat) : Int))]) (fun t => .un (.fr (by walk_at "at") (by walk_at "at") (by decide) rfl (.fr (by walk_at "at") (by walk_at "at") (by decide) rfl (.fr (by walk_at "at") (by walk_at "at") (by decide) rfl .nil)))) (iO (Txt.range T) ?_)
   walk_at "ev"
   ·exact ⟨by omega, by omega⟩
   ·rw [iB]; exact aF (by omega)
   refine ⟨(List.range (max l.1.length r.1.length)).map fun k => some (.int (at0 l.1 k + at0 r.1 k)), by simp [iB], ?_, ?_⟩
   ·intro c3 hc3 t k d o hd ho
    rw [Int.toNat_natCast] at hd
    obtain ⟨hk, rfl⟩ := kX hd
    rw [List.getElem?_map, List.getElem?_range hk] at ho
    cases ho
    refine dH (by walk_at "at") (nxt (by walk_at "sset") ⟨.un (.same (.same (.same .nil))), ?_⟩)
    simp only [EvC]
    refine ⟨fun _ => ?_, fun h => by cases h⟩
    walk_at "ev"
    refine ⟨_, _, rfl, rfl, ⟨⟨by simp, by omega, by omega, ?_⟩, ?_⟩⟩
    ·exact aF (by simp; omega)
    rw [Int.toNat_natCast]
    walk_at "ev"
    ·exact aF (by simp; omega)
    refine qm (wO (p := l.1) hk (by omega)) ?_
    walk_at "ev"
    refine ⟨_, _, rfl, rfl, ⟨⟨by simp, by omega, by omega, ?_⟩, ?_⟩⟩
    ·exact aF (by simp; omega)
    rw [Int.toNat_natCast]
    walk_at "ev"
    ·exact aF (by simp; omega)
    refine qm (wO (p := r.1) hk (by omega)) ?_
    walk_at "ev"
    rfl
   ·rw [gi (fun k => D.int (at0 l.1 k + at0 r.1 k)), show (List.range (max l.1.length r.1.length)).map (fun k => D.int (at0 l.1 k + at0 r.1 k)) = (fX l.1 r.1).map D.int by unfold fX; rw [List.map_map]; rfl]
    walk_at "ev"
    ·exact ig _
    refine ⟨.va (.tup (r.1.map .int)), .va (.int r.2), .va (.int ((max l.1.length r.1.length : Nat) : Int)), .ow ((fX l.1 r.1).map .int), ?_⟩
    show [_, _, Sl.ow _, _, _, _, _, _, _] = _
    rw [e1, ← tD]
    rfl
  ·rintro ρ' ⟨s5, s6, s7, s8, rfl⟩
   rw [List.length_map, List.take_length, ← e0]
   walk_at "ev"
   exact ⟨_, _, _, _, _, _, rfl⟩
 ·rintro ρ' ⟨s3, s4, s5, s6, s7, s8, rfl⟩
  rw [List.length_map, List.take_length]
  refine cC (jU (x_bor 2 (by walk_at "at") rfl (by walk_at "sset") (x_call (F := fh) (by assumption) (by decide) ?_)))
  walk_at "ev"
  refine aN (fj (by rw [cR]; exact h.lp) fun t ht => ?_) ⟨dS fun x _ => lO x, rfl⟩
  obtain ⟨l, hl, r, hr, rfl⟩ := fY ht
  show (fX l.1 r.1).length ≤ 64
  have := (h.pa l hl).1
  have := (h.pb r hr).1
  rw [dO]; omega
end
end
set_option Elab.async false
set_option linter.all false
set_option maxRecDepth 100000
set_option maxHeartbeats 0
section
variable {P : Program} {w : World} {K : PySem.W.Frag} {mg : Str → Option Value} {base : Heap}
def Sm (L : List Trm) : Prop := L.length ≤ 31 ∧ ∀ t ∈ L, Pq t ∧ t.2.natAbs < 2 ^ 110
theorem jw {A B : List Trm} (hA : Sm A) (hB : Sm B) : kB A B where
 la := by have := hA.1; omega
 lb := by have := hB.1; omega
 lp := Nat.le_trans (Nat.mul_le_mul hA.1 hB.1) (by decide)
 pa := fun t ht => ⟨(hA.2 t ht).1.1, fun x hx => by have := (hA.2 t ht).1.2 x hx; omega⟩
 pb := fun t ht => ⟨(hB.2 t ht).1.1, fun x hx => by have := (hB.2 t ht).1.2 x hx; omega⟩
 mu := fun l hl r hr => v9 (hA.2 l hl).2 (hB.2 r hr).2
theorem pU {L : List Trm} (h : Sm L) : Sm (L.map gh) := ⟨by rw [List.length_map]; exact h.1, fun t ht => by
 obtain ⟨u, hu, rfl⟩ := List.mem_map.mp ht
 refine ⟨(h.2 u hu).1, ?_⟩
 show (-u.2).natAbs < _
 rw [Int.natAbs_neg]; exact (h.2 u hu).2⟩
theorem jx {A B : List Trm} (hA : Sm A) (hB : Sm B) : ∀ t ∈ A ++ B, t.1.length ≤ 64 := fun t ht => by
 rcases List.mem_append.mp ht with q | q
 ·have := (hA.2 t q).1.1; omega
 ·have := (hB.2 t q).1.1; omega
theorem dG {A B : List Trm} (hA : Sm A) (hB : Sm B) : A.length + B.length ≤ 990 := by have := hA.1; have := hB.1; omega
theorem nZ {A B : List Trm} (hA : Sm A) (hB : Sm B) : jq [.lst ((bf (A ++ B)).map af), .lst ((bf (A ++ B)).map af)] (.ok (.va (.bl true))) :=
 wA (Nat.le_trans (dM _) (by rw [List.length_append]; exact dG hA hB)) (ny (jx hA hB))
theorem tF {A B : List Trm} (hA : Sm A) (hB : Sm B) : jq [.lst ((bf (aP A B)).map af), .lst ((bf (aP A B)).map af)] (.ok (.va (.bl true))) :=
 wA (Nat.le_trans (dM _) (by rw [cR]; exact (jw hA hB).lp)) (ny fun t ht => by
  obtain ⟨l, hl, r, hr, rfl⟩ := fY ht
  show (fX l.1 r.1).length ≤ 64
  have := (hA.2 l hl).1.1
  have := (hB.2 r hr).1.1
  rw [dO]; omega)
def n5 : Fn := fun ds r => ∃ A B : List Trm, Sm A ∧ Sm B ∧ ds = [.lst (A.map af), .lst (B.map af)] ∧ r = .ok (.va (.bl true))
theorem BI {A B : List Trm} (hA : Sm A) (hB : Sm B) : n5 [.lst (A.map af), .lst (B.map af)] (.ok (.va (.bl true))) := ⟨A, B, hA, hB, rfl, rfl⟩
section
local macro_rules | `(tactic| walk_at "side") => `(tactic| exact nls_trms _)
local macro_rules | `(tactic| walk_at "evR") => `(tactic| first
 | with_reducible refine aN (wB (dG (by assumption) (by assumption)) (jx (by assumption) (by assumption))) ?_
 | with_reducible refine aN (qY (dG (by assumption) (by assumption)) (jx (by assumption) (by assumption))) ?_
 | with_reducible refine aN (zE (jw (by assumption) (by assumption))) ?_
 | with_reducible refine aN (zd (jw (by assumption) (by assumption))) ?_
 | with_reducible refine aN (fj ?_ ?_) ?_)
local macro_rules | `(tactic| walk_at "evCa") => `(tactic| first
 | with_reducible refine bg (F := jq) (by assumption) (by decide) ?_
 | with_reducible refine bg (F := jr) (by assumption) (by decide) ?_
 | with_reducible refine bg (F := fk) (by assumption) (by decide) ?_
 | with_reducible refine bg (F := pS) (by assumption) (by decide) ?_
 | with_reducible refine bg (F := jv) (by assumption) (by decide) ?_
 | with_reducible refine bg (F := fh) (by assumption) (by decide) ?_)
theorem ze {f : Addr} {fd : FuncData} (Fu : Fun K "_law_good" "_law_good" gF f fd) (T : Txt K mg) (h1 : Cal P w K mg base 3 (Str.ofString "poly_sum") jr) (h2 : Cal P w K mg base 3 (Str.ofString "poly_less") fk) (h3 : Cal P w K mg base 4 (Str.ofString "poly_times") pS)
 (h4 : Cal P w K mg base 2 (Str.ofString "_law_sum") fh) (h5 : Cal P w K mg base 2 (Str.ofString "_law_same") jq) (h6 : Cal P w K mg base 3 (Str.ofString "_law_product") jv) : aX P w K mg base (CXE P w) 5 f fd ["_law_one", "_law_other"] (spF K n5) := by
 refine cN Fu sY sZ (by rintro ds r ⟨A, B, _, _, rfl, _⟩; rfl) (by rintro ds r ⟨A, B, _, _, _, rfl⟩; exact ⟨_, rfl⟩) fun c hq ds sl hF => ?_
 obtain ⟨A, B, hA, hB, rfl, e⟩ := hF
 injection e with e
 subst e
 show bu c _ [.va (.lst (A.map af)), .va (.lst (B.map af)), .un] _ _
 conv in (aB _) => whnf
 refine cC (oV (by walk_at "at") hq (N' := ["_law_powers", "_law_number"]) (ρ0 := fun _ => [.un, .un]) (fun t => .un (.un .nil)) (bN ?_))
 walk_at "ev"
 ·exact aF (by rw [List.length_map]; have := hB.1; omega)
 refine ⟨B.map fun t => some (af (gh t)), by simp, ?_, ?_⟩
 ·intro c' hc t i d o hd ho
  simp only [List.getElem?_map, Option.map_eq_some_iff] at hd ho
  obtain ⟨x, hx, rfl⟩ := hd
  obtain ⟨x', hx', rfl⟩ := ho
  rw [hx] at hx'; cases hx'
  show EvG c' _ (.tup [.tup (x.1.map .int), .int x.2]) _ _
  walk_at "ev"
  refine ⟨.un (.un .nil), ?_⟩
  simp only [EvC]
  refine ⟨fun _ => ?_, fun h => by cases h⟩
  walk_at "ev"
  show some (af (gh x)) = some (D.tup [.tup (x.1.map .int), .int (0 - x.2)])
  rw [Int.zero_sub]; rfl
 ·have e1 : (B.map fun t => some (af (gh t))).filterMap id = (B.map gh).map af := by
   rw [List.map_map, List.filterMap_map]
   clear hB
   induction B with
   | nil => rfl
   | cons b B ih => simpa using ih
  rw [e1]
  refine nxt (by walk_at "sset") (u0 2 (by walk_at "at") rfl (by walk_at "sset") ?_)
  have hN := pU hB
  walk_at "ev"
  walk_at "ev"
  ·rw [List.length_map, List.length_map]; have := dG hA hB; exact aF (by omega)
  walk_at "ev"
  rw [← List.map_append]
  walk_at "ev"
  ·rw [List.length_append]; exact dG hA hB
  ·exact jx hA hB
  refine aN (nZ hA hB) ?_
  walk_at "ev"
  ·rw [List.length_map, List.length_map]; have := dG hA hN; exact aF (by omega)
  walk_at "ev"
  rw [← List.map_append]
  walk_at "ev"
  ·rw [List.length_append]; exact dG hA hN
  ·exact jx hA hN
  refine aN (nZ hA hN) ?_
  walk_at "ev"
  refine aN (tF hA hB) ?_
  walk_at "ev"
  rfl
end
end
set_option Elab.async false
set_option linter.all false
set_option maxRecDepth 100000
set_option maxHeartbeats 0
section
variable {P : Program} {w : World} {K : PySem.W.Frag} {mg : Str → Option Value} {base : Heap}
theorem wR {k n : Nat} {N : List Str} {sc : Scope} {bk : Bool} {c : EV.Ctx P w K mg base n N sc bk} {x : Bool} {X : Prop} {st : List Stmt} {nx : List Sl → Prop} {p : Pt} (ρ : List Trm → List Sl) (B : List Trm) (hB : Sm B) (h2 : ∀ B, Sm B → bu c st (ρ B) nx p) (h1 : (∀ B, Sm B → bu c st (ρ B) nx p) → X) : If2 X (bu c st (ρ B) nx p) x := ⟨fun _ => h1 h2, fun _ => h2 B hB⟩
theorem wU (r : Int) : ∀ (i : Nat), ∀ x ∈ (goB i r).1, 0 ≤ x ∧ x ≤ 12
 | 0, x, h => by simp [goB] at h
 | i + 1, x, h => by
  simp only [goB, List.mem_append, List.mem_singleton] at h
  rcases h with h | rfl
  ·exact wU r i x h
  ·omega
theorem wV (n : Int) : Pq (bD n) ∧ (bD n).2.natAbs ≤ 10 ^ 28 := by
 refine ⟨⟨ku n, ?_⟩, ?_⟩
 ·unfold bD
  split
  ·exact wU _ _
  ·intro x hx
   obtain ⟨i, _, rfl⟩ := List.mem_map.mp hx
   have := fZ (n / 2) (1 + (i : Int)) (m := 3) (by decide)
   omega
 ·unfold bD
  split
  ·show ((goB (n / 2 % 7).toNat (n / 2)).2 / 7 % (2 * (10 ^ Int.toNat 28) + 1) - (10 ^ Int.toNat 28)).natAbs ≤ 10 ^ 28
   generalize (goB (n / 2 % 7).toNat (n / 2)).2 / 7 = y
   rw [show (10 : Int) ^ Int.toNat 28 = 10000000000000000000000000000 by decide, show (10 : Nat) ^ 28 = 10000000000000000000000000000 by decide]
   omega
  ·show (thing (n / 2) 9 19 - 9).natAbs ≤ 10 ^ 28
   have := fZ (n / 2) 9 (m := 19) (by decide)
   rw [show (10 : Nat) ^ 28 = 10000000000000000000000000000 by decide]
   omega
theorem n6 {l : List Int} (h : l.length ≤ 31) : Sm (bf (l.map bD)) := by
 have h1 : ∀ t ∈ l.map bD, Pq t ∧ t.2.natAbs ≤ 10 ^ 28 := fun t ht => by
  obtain ⟨n, _, rfl⟩ := List.mem_map.mp ht
  exact wV n
 refine ⟨Nat.le_trans (dM _) (by rw [List.length_map]; exact h), fun t ht => ⟨Bv (fun t ht => (h1 t ht).1) t (jg ht).1, ?_⟩⟩
 have := Bu (m := 10 ^ 28) (fun t ht => (h1 t ht).2) t (jg ht).1
 rw [List.length_map] at this
 refine Nat.lt_of_le_of_lt (Nat.le_trans this (Nat.mul_le_mul_right _ h)) (by decide)
theorem wW {A B : List Trm} (hA : Sm A) (hB : Sm B) : ((bf (A ++ B)).map af).length < sizeLine := bz (by
 rw [List.length_map]; have := dM (A ++ B); rw [List.length_append] at this; have := hA.1; have := hB.1; omega)
theorem zf {A B : List Trm} (hA : Sm A) (hB : Sm B) : ((bf (aP A B)).map af).length < sizeLine := bz (by
 rw [List.length_map]; have := dM (aP A B); rw [cR] at this; have := (jw hA hB).lp; omega)
theorem wX : Sm [] := ⟨by decide, fun t ht => by cases ht⟩
theorem zg : Sm [([], 1)] := ⟨by decide, fun t ht => by
 simp only [List.mem_singleton] at ht; subst ht; exact ⟨⟨by decide, fun x hx => by cases hx⟩, by decide⟩⟩
section
local macro_rules | `(tactic| walk_at "side") => `(tactic| first | exact nls_trms _ | exact wW (by assumption) (by assumption) | exact wW (by assumption) (pU (by assumption)) | exact zf (by assumption) (by assumption))
local macro_rules | `(tactic| walk_at "evXp") => `(tactic| with_reducible refine Bk ?_)
local macro_rules | `(tactic| walk_at "evXC") => `(tactic| first
 | with_reducible refine x_call (F := jr) (by assumption) (by decide) ?_
 | with_reducible refine x_call (F := fk) (by assumption) (by decide) ?_
 | with_reducible refine x_call (F := pS) (by assumption) (by decide) ?_)
local macro_rules | `(tactic| walk_at "evR") => `(tactic| first
 | with_reducible refine aN (wB (dG (by assumption) (by assumption)) (jx (by assumption) (by assumption))) ?_
 | with_reducible refine aN (qY (dG (by assumption) (by assumption)) (jx (by assumption) (by assumption))) ?_
 | with_reducible refine aN (zE (jw (by assumption) (by assumption))) ?_)
local macro_rules | `(tactic| walk_at "evL") => `(tactic| ((with_reducible show ∃ ds, Sl.ow _ = Sl.ow ds ∧ _); refine ⟨_, rfl, ?_⟩))
local macro_rules | `(tactic| walk_at "evCa") => `(tactic| first
 | ((with_reducible show EvE _ (Expr.Call (Expr.Name (Str.ofString "list") _) _ _ _) _ _); with_reducible refine e_x (uI (Txt.list (by assumption)) ?_))
 | with_reducible refine bg (F := nU) (by assumption) (by decide) ?_
 | with_reducible refine bg (F := n5) (by assumption) (by decide) ?_
 | ((with_reducible show EvE _ (Expr.Call (Expr.Name (Str.ofString "min") _) [_, _] _ _) _ _); with_reducible refine A9 (Txt.min (by assumption)) ?_)
 | ((with_reducible show EvE _ (Expr.Call (Expr.Name (Str.ofString "sum") _) _ _ _) _ _); with_reducible refine Be (Txt.sum (by assumption)) ?_))
local macro_rules | `(tactic| walk_at "evR") => `(tactic| first
 | with_reducible refine aN (BA _) ?_
 | with_reducible refine aN (BI (by assumption) (by assumption)) ?_)
theorem BJ {f : Addr} {fd : FuncData} (Fu : Fun K "law" "law" pP f fd) (T : Txt K mg) (h1 : Cal P w K mg base 3 (Str.ofString "poly_sum") jr) (h2 : Cal P w K mg base 3 (Str.ofString "poly_less") fk) (h3 : Cal P w K mg base 4 (Str.ofString "poly_times") pS)
 (h4 : Cal P w K mg base 2 (Str.ofString "_law_sum") fh) (h5 : Cal P w K mg base 2 (Str.ofString "_law_term") nU) (h6 : Cal P w K mg base 5 (Str.ofString "_law_good") n5) : aX P w K mg base (CXE P w) 6 f fd ["_law_script"] (spF K u7) := by
 refine cN Fu Bw Bx (by rintro ds r ⟨ns, _, rfl, _⟩; rfl) (by rintro ds r ⟨ns, _, _, rfl⟩; exact ⟨_, rfl⟩) fun c hq ds sl hF => ?_
 obtain ⟨ns, hl, rfl, e⟩ := hF
 injection e with e
 subst e
 show bu c _ [.va (.lst (ns.map D.int)), .un, .un, .un, .un, .un, .un, .un] _ _
 conv in (aB _) => whnf
 walk_at "ev"
 obtain ⟨h, hh, eh⟩ : ∃ h : Nat, h ≤ 31 ∧ (if ((ns.map D.int).length : Int) / 2 < 31 then ((ns.map D.int).length : Int) / 2 else 31) = (h : Int) := by
  rw [List.length_map]
  refine ⟨min (ns.length / 2) 31, by omega, ?_⟩
  split <;> omega
 rw [eh]
 have cells : ∀ l : List Int, (l.map fun n => some (af (bD n))).filterMap id = (l.map bD).map af := fun l => by
  induction l with
  | nil => rfl
  | cons a l ih => simpa using ih
 have cells64 : ∀ l : List Int, ∀ t ∈ l.map bD, t.1.length ≤ 64 := fun l t ht => by
  obtain ⟨n, _, rfl⟩ := List.mem_map.mp ht
  exact Nat.le_trans (ku n) (by decide)
 refine bg (F := fh) h4 (by decide) (bR (e_x (cW hq (N' := ["_law_cell"]) (ρ0 := fun _ => [.un]) (fun t => .un .nil) (bN ?_))))
 walk_at "ev"
 ·rw [cz, List.length_map]; have := nO ns h; exact aF (by omega)
 rw [cz]
 have hl1 := nO ns h
 generalize EV.cutD ns none (some (h : Int)) = l1 at hl1 ⊢
 refine ⟨l1.map fun n => some (af (bD n)), by simp, ?_, ?_⟩
 ·intro c' hc t i d o hd ho
  simp only [List.getElem?_map, Option.map_eq_some_iff] at hd ho
  obtain ⟨x, hx, rfl⟩ := hd
  obtain ⟨x', hx', rfl⟩ := ho
  rw [hx] at hx'; cases hx'
  refine dH (by walk_at "at") (nxt (by walk_at "sset") ⟨.un .nil, ?_⟩)
  simp only [EvC]
  refine ⟨fun _ => ?_, fun h => by cases h⟩
  walk_at "ev"
  ·exact ⟨by decide, by decide, by decide +kernel⟩
  rfl
 rw [cells]
 walk_at "ev"
 refine aN (fj (by rw [List.length_map]; omega) (cells64 l1)) ?_
 have hm1 := n6 (l := l1) (by omega)
 change FzP _ (Sl.ow ((bf (l1.map bD)).map af))
 generalize bf (l1.map bD) = A at hm1 ⊢
 walk_at "ev"
 refine bg (F := fh) h4 (by decide) (bR (e_x (cW hq (N' := ["_law_cell"]) (ρ0 := fun _ => [.un]) (fun t => .un .nil) (bN ?_))))
 walk_at "ev"
 ·exact mF (by decide)
 ·have hc2 : (EV.cutD ns (some (h : Int)) (some (2 * (h : Int)))).length ≤ h := by
   have := nP ns h (2 * h)
   rw [Int.natCast_mul] at this
   exact Nat.le_trans this (by omega)
  rw [cz, List.length_map]; exact aF (by omega)
 rw [cz]
 have hl2 : (EV.cutD ns (some (h : Int)) (some (2 * (h : Int)))).length ≤ h := by
  have := nP ns h (2 * h)
  rw [Int.natCast_mul] at this
  exact Nat.le_trans this (by omega)
 generalize EV.cutD ns (some (h : Int)) (some (2 * (h : Int))) = l2 at hl2 ⊢
 refine ⟨l2.map fun n => some (af (bD n)), by simp, ?_, ?_⟩
 ·intro c' hc t i d o hd ho
  simp only [List.getElem?_map, Option.map_eq_some_iff] at hd ho
  obtain ⟨x, hx, rfl⟩ := hd
  obtain ⟨x', hx', rfl⟩ := ho
  rw [hx] at hx'; cases hx'
  refine dH (by walk_at "at") (nxt (by walk_at "sset") ⟨.un .nil, ?_⟩)
  simp only [EvC]
  refine ⟨fun _ => ?_, fun h => by cases h⟩
  walk_at "ev"
  ·exact ⟨by decide, by decide, by decide +kernel⟩
  rfl
 rw [cells]
 walk_at "ev"
 refine aN (fj (by rw [List.length_map]; omega) (cells64 l2)) ?_
 have hm2 := n6 (l := l2) (by omega)
 change FzP _ (Sl.ow ((bf (l2.map bD)).map af))
 generalize bf (l2.map bD) = B at hm2 ⊢
 walk_at "ev"
 rw [cz]
 refine ⟨_, rfl, ?_⟩
 repeat ((fail_if_success (with_reducible show If2 _ _ _)); walk_at "ev1")
 refine wR (k := 0) (fun B => [.va (.lst (ns.map .int)), .va (.int (h : Int)), .va (.lst (A.map af)), .va (.lst (B.map af)), .un, .un, .un, .un]) B hm2 ?_ ?_
 rotate_left
 ·intro rest
  refine cC (oV (by walk_at "at") hq (N' := ["_law_powers", "_law_number"]) (ρ0 := fun _ => [.un, .un]) (fun t => .un (.un .nil)) (bN ?_))
  walk_at "ev"
  ·exact aF (by rw [List.length_map]; have := hm1.1; omega)
  refine ⟨A.map fun t => some (af (gh t)), by simp, ?_, ?_⟩
  ·intro c' hc t i d o hd ho
   simp only [List.getElem?_map, Option.map_eq_some_iff] at hd ho
   obtain ⟨x, hx, rfl⟩ := hd
   obtain ⟨x', hx', rfl⟩ := ho
   rw [hx] at hx'; cases hx'
   show EvG c' _ (.tup [.tup (x.1.map .int), .int x.2]) _ _
   walk_at "ev"
   refine ⟨.un (.un .nil), ?_⟩
   simp only [EvC]
   refine ⟨fun _ => ?_, fun h => by cases h⟩
   walk_at "ev"
   show some (af (gh x)) = some (D.tup [.tup (x.1.map .int), .int (0 - x.2)])
   rw [Int.zero_sub]; rfl
  ·have e1 : (A.map fun t => some (af (gh t))).filterMap id = (A.map gh).map af := by
    rw [List.map_map, List.filterMap_map]
    clear hm1 rest
    induction A with
    | nil => rfl
    | cons b B ih => simpa using ih
   rw [e1]
   refine nxt (by walk_at "sset") (u0 3 (by walk_at "at") rfl (by walk_at "sset") ?_)
   exact rest _ (pU hm1)
 clear hm2 B hl2 l2 hl1 l1
 intro B hm2
 walk_at "ev"
 with_reducible refine u5 4 (by walk_at "at") rfl (by walk_at "sset") ?_
 with_reducible refine u5 5 (by walk_at "at") rfl (by walk_at "sset") ?_
 with_reducible refine u5 6 (by walk_at "at") rfl (by walk_at "sset") ?_
 show EvS c _ [.va (.lst (ns.map .int)), .va (.int (h : Int)), .va (.lst (A.map af)), .va (.lst (B.map af)), .va (.lst [.lst (A.map af), .lst (B.map af)]), .va (.lst (([] : List Trm).map af)), .va (.lst (([([], 1)] : List Trm).map af)), .un] _ _
 with_reducible refine cO hq (bN ?_)
 walk_at "ev"
 have hnil := wX
 have hun := zg
 refine ⟨fun _ ρ' => ∃ s7 : Sl, ρ' = [.va (.lst (ns.map .int)), .va (.int (h : Int)), .va (.lst (A.map af)), .va (.lst (B.map af)), .va (.lst [.lst (A.map af), .lst (B.map af)]), .va (.lst (([] : List Trm).map af)), .va (.lst (([([], 1)] : List Trm).map af)), s7], ⟨.un, rfl⟩, ?_, ?_⟩
 ·rintro c' hcX hcR hcM i d ρ' hd ⟨s7, rfl⟩
  obtain ⟨M, hM, rfl⟩ : ∃ M : List Trm, Sm M ∧ d = .lst (M.map af) := by
   rcases i with _ | _ | i
   ·simp only [List.getElem?_cons_zero, Option.some.injEq] at hd; exact ⟨[], wX, hd.symm⟩
   ·simp only [List.getElem?_cons_succ, List.getElem?_cons_zero, Option.some.injEq] at hd; exact ⟨B, hm2, hd.symm⟩
   ·simp at hd
  walk_at "ev"
  exact ⟨_, rfl⟩
 ·rintro ρ' ⟨s7, rfl⟩
  walk_at "ev"
  refine jl (nN _) ?_
  walk_at "ev"
  refine jl (sO _ _) ?_
  walk_at "ev"
  refine jl (kr (nM _ _) (kr (nM _ _) (nN _))) ?_
  walk_at "ev"
  all_goals rfl
end
end
set_option Elab.async false
set_option linter.all false
set_option maxRecDepth 100000
set_option maxHeartbeats 0
section
variable {P : Program} {w : World} {K : PySem.W.Frag} {mg : Str → Option Value} {base h : Heap}
theorem zh {fa : Addr} (hfa : mg (Str.ofString "law") = some (.ref fa)) (T : Txt K mg) (xPLACES : ∃ tk : Tok, mg (Str.ofString "PLACES") = some (.int 6 tk))
 (D2 : aE K mg (Str.ofString "trimmed") (top 2))
 (D3 : aE K mg (Str.ofString "poly_of") (top 3))
 (D4 : aE K mg (Str.ofString "poly_sum") (top 4))
 (D5 : aE K mg (Str.ofString "poly_less") (top 5))
 (D6 : aE K mg (Str.ofString "greatest_powers") (top 6))
 (D7 : aE K mg (Str.ofString "width_for") (top 7))
 (D8 : aE K mg (Str.ofString "key_of") (top 8))
 (D9 : aE K mg (Str.ofString "powers_of") (top 9))
 (D10 : aE K mg (Str.ofString "packed") (top 10))
 (D11 : aE K mg (Str.ofString "unpacked") (top 11))
 (D12 : aE K mg (Str.ofString "add_products") (top 12))
 (D13 : aE K mg (Str.ofString "poly_times") (top 13))
 (D15 : aE K mg (Str.ofString "_law_whole") (top 15))
 (D16 : aE K mg (Str.ofString "_law_thing") (top 16))
 (D17 : aE K mg (Str.ofString "_law_term") (top 17))
 (D18 : aE K mg (Str.ofString "_law_trimmed") (top 18))
 (D19 : aE K mg (Str.ofString "_law_sum") (top 19))
 (D20 : aE K mg (Str.ofString "_law_product") (top 20))
 (D21 : aE K mg (Str.ofString "_law_same") (top 21))
 (D22 : aE K mg (Str.ofString "_law_good") (top 22))
 (D23 : aE K mg (Str.ofString "law") (top 23))
 : ∃ fd : FuncData, (∀ (s : Shared) (u : Value), BindsTo s fd ⟨[u], []⟩ [("_law_script", u)]) ∧ ∀ base : Heap, K.In base → base.Ns mainGlobals mg → aX P w K mg base (CXE P w) 20 fa fd ["_law_script"] (spF K u7) := by
 obtain ⟨f2, fd2, m2, Fu2⟩ := D2
 obtain ⟨f3, fd3, m3, Fu3⟩ := D3
 obtain ⟨f4, fd4, m4, Fu4⟩ := D4
 obtain ⟨f5, fd5, m5, Fu5⟩ := D5
 obtain ⟨f6, fd6, m6, Fu6⟩ := D6
 obtain ⟨f7, fd7, m7, Fu7⟩ := D7
 obtain ⟨f8, fd8, m8, Fu8⟩ := D8
 obtain ⟨f9, fd9, m9, Fu9⟩ := D9
 obtain ⟨f10, fd10, m10, Fu10⟩ := D10
 obtain ⟨f11, fd11, m11, Fu11⟩ := D11
 obtain ⟨f12, fd12, m12, Fu12⟩ := D12
 obtain ⟨f13, fd13, m13, Fu13⟩ := D13
 obtain ⟨f15, fd15, m15, Fu15⟩ := D15
 obtain ⟨f16, fd16, m16, Fu16⟩ := D16
 obtain ⟨f17, fd17, m17, Fu17⟩ := D17
 obtain ⟨f18, fd18, m18, Fu18⟩ := D18
 obtain ⟨f19, fd19, m19, Fu19⟩ := D19
 obtain ⟨f20, fd20, m20, Fu20⟩ := D20
 obtain ⟨f21, fd21, m21, Fu21⟩ := D21
 obtain ⟨f22, fd22, m22, Fu22⟩ := D22
 obtain ⟨f23, fd23, m23, Fu23⟩ := D23
 have e := hfa.symm.trans m23
 cases e
 refine ⟨fd23, ?_, fun base _ _ => ?_⟩
 ·obtain ⟨oc, od, kV, doc, pm, an, cdv, ct, osl, rfl, lk, hcd⟩ := Fu23.ex
  exact fun s u => .of_eq rfl
 have C2 : Cal P w K mg base 1 (Str.ofString "trimmed") (eB) := aZ (ps := ["powers"]) m2 Fu2 (yP Fu2 T) (fun _ _ _ _ _ _ us hl => by obtain ⟨a, rfl⟩ := rS us hl; rfl)
 have C3 : Cal P w K mg base 2 (Str.ofString "poly_of") (fh) := aZ (ps := ["terms"]) m3 Fu3 (yS Fu3 T C2) (fun _ _ _ _ _ _ us hl => by obtain ⟨a, rfl⟩ := rS us hl; rfl)
 have C4 : Cal P w K mg base 3 (Str.ofString "poly_sum") (jr) := aZ (ps := ["one", "other"]) m4 Fu4 (yW Fu4 T C3) (fun _ _ _ _ _ _ us hl => by obtain ⟨a, b, rfl⟩ := gU us hl; rfl)
 have C5 : Cal P w K mg base 3 (Str.ofString "poly_less") (fk) := aZ (ps := ["one", "other"]) m5 Fu5 (wC Fu5 T C3) (fun _ _ _ _ _ _ us hl => by obtain ⟨a, b, rfl⟩ := gU us hl; rfl)
 have C6 : Cal P w K mg base 1 (Str.ofString "greatest_powers") (ju) := aZ (ps := ["some"]) m6 Fu6 (wG Fu6 T xPLACES) (fun _ _ _ _ _ _ us hl => by obtain ⟨a, rfl⟩ := rS us hl; rfl)
 have C7 : Cal P w K mg base 2 (Str.ofString "width_for") (wJ) := aZ (ps := ["one", "other"]) m7 Fu7 (BB Fu7 T C6) (fun _ _ _ _ _ _ us hl => by obtain ⟨a, b, rfl⟩ := gU us hl; rfl)
 have C8 : Cal P w K mg base 1 (Str.ofString "key_of") (wK) := aZ (ps := ["powers", "width"]) m8 Fu8 (BC Fu8 T xPLACES) (fun _ _ _ _ _ _ us hl => by obtain ⟨a, b, rfl⟩ := gU us hl; rfl)
 have C9 : Cal P w K mg base 2 (Str.ofString "powers_of") (nW) := aZ (ps := ["key", "width"]) m9 Fu9 (y9 Fu9 T xPLACES C2) (fun _ _ _ _ _ _ us hl => by obtain ⟨a, b, rfl⟩ := gU us hl; rfl)
 have C10 : Cal P w K mg base 2 (Str.ofString "packed") (nX) := aZ (ps := ["some", "width"]) m10 Fu10 (za Fu10 T C8) (fun _ _ _ _ _ _ us hl => by obtain ⟨a, b, rfl⟩ := gU us hl; rfl)
 have C11 : Cal P w K mg base 3 (Str.ofString "unpacked") (wN) := aZ (ps := ["total", "width"]) m11 Fu11 (BF Fu11 T C9) (fun _ _ _ _ _ _ us hl => by obtain ⟨a, b, rfl⟩ := gU us hl; rfl)
 have C12 : yz P w K mg base 1 (Str.ofString "add_products") (zb) := yN (ps := ["total", "left", "right"]) m12 Fu12 (BE Fu12 T) (fun _ _ _ _ _ _ us hl => by obtain ⟨a, b, c, rfl⟩ := len3 us hl; rfl)
 have C13 : Cal P w K mg base 4 (Str.ofString "poly_times") (pS) := aZ (ps := ["one", "other"]) m13 Fu13 (BH Fu13 T C7 C10 C12 C11) (fun _ _ _ _ _ _ us hl => by obtain ⟨a, b, rfl⟩ := gU us hl; rfl)
 have C15 : Cal P w K mg base 1 (Str.ofString "_law_whole") (jn) := aZ (ps := ["_law_found"]) m15 Fu15 (wg Fu15 T) (fun _ _ _ _ _ _ us hl => by obtain ⟨a, rfl⟩ := rS us hl; rfl)
 have C16 : Cal P w K mg base 1 (Str.ofString "_law_thing") (jo) := aZ (ps := ["_law_cell", "_law_k", "_law_many"]) m16 Fu16 (wo Fu16 T) (fun _ _ _ _ _ _ us hl => by obtain ⟨a, b, c, rfl⟩ := len3 us hl; rfl)
 have C17 : Cal P w K mg base 2 (Str.ofString "_law_term") (nU) := aZ (ps := ["_law_cell", "_law_size"]) m17 Fu17 (yR Fu17 T C16) (fun _ _ _ _ _ _ us hl => by obtain ⟨a, b, rfl⟩ := gU us hl; rfl)
 have C18 : Cal P w K mg base 1 (Str.ofString "_law_trimmed") (eB) := aZ (ps := ["_law_powers"]) m18 Fu18 (wu Fu18 T) (fun _ _ _ _ _ _ us hl => by obtain ⟨a, rfl⟩ := rS us hl; rfl)
 have C19 : Cal P w K mg base 2 (Str.ofString "_law_sum") (fh) := aZ (ps := ["_law_terms"]) m19 Fu19 (yT Fu19 T C18) (fun _ _ _ _ _ _ us hl => by obtain ⟨a, rfl⟩ := rS us hl; rfl)
 have C20 : Cal P w K mg base 3 (Str.ofString "_law_product") (jv) := aZ (ps := ["_law_one", "_law_other"]) m20 Fu20 (wQ Fu20 T C19) (fun _ _ _ _ _ _ us hl => by obtain ⟨a, b, rfl⟩ := gU us hl; rfl)
 have C21 : Cal P w K mg base 2 (Str.ofString "_law_same") (jq) := aZ (ps := ["_law_found", "_law_due"]) m21 Fu21 (yV Fu21 T C15) (fun _ _ _ _ _ _ us hl => by obtain ⟨a, b, rfl⟩ := gU us hl; rfl)
 have C22 : Cal P w K mg base 5 (Str.ofString "_law_good") (n5) := aZ (ps := ["_law_one", "_law_other"]) m22 Fu22 (ze Fu22 T C4 C5 C13 C19 C21 C20) (fun _ _ _ _ _ _ us hl => by obtain ⟨a, b, rfl⟩ := gU us hl; rfl)
 exact (BJ Fu23 T C4 C5 C13 C19 C17 C22).mono (by decide)
end
end My
open PySem PySem.W PyProof.Rows
set_option maxRecDepth 100000 in
set_option maxHeartbeats 0 in
theorem PySem.Challenge.cw_everydraw_k06_polynomials_reckoned_holds : PySem.Challenge.rw_everydraw_k06_polynomials_reckoned.Holds := by
 w_on; o_law; k_head; (case hw => w_witness2)
 k_fill
 refine EV.walk (k := 20) (l := PySem.Challenge.rw_everydraw_k06_polynomials_reckoned) (by decide) rfl rfl (fun w h Y => PySem.W.kIn_of Y) ?F
 case F =>
  intro w mg fa h KX G hmg
  have D2 : EV.aE (L2.KOf KX) mg (Str.ofString "trimmed") (My.top 2) := by
   dsimp only [L2.KOf]
   refine' EV.aU KX G ?a ?l ?c ?k
   (case a => k_is); (case l => k_is); (case c => k_is); (case k => k_is)
  have D3 : EV.aE (L2.KOf KX) mg (Str.ofString "poly_of") (My.top 3) := by
   dsimp only [L2.KOf]
   refine' EV.aU KX G ?a ?l ?c ?k
   (case a => k_is); (case l => k_is); (case c => k_is); (case k => k_is)
  have D4 : EV.aE (L2.KOf KX) mg (Str.ofString "poly_sum") (My.top 4) := by
   dsimp only [L2.KOf]
   refine' EV.aU KX G ?a ?l ?c ?k
   (case a => k_is); (case l => k_is); (case c => k_is); (case k => k_is)
  have D5 : EV.aE (L2.KOf KX) mg (Str.ofString "poly_less") (My.top 5) := by
   dsimp only [L2.KOf]
   refine' EV.aU KX G ?a ?l ?c ?k
   (case a => k_is); (case l => k_is); (case c => k_is); (case k => k_is)
  have D6 : EV.aE (L2.KOf KX) mg (Str.ofString "greatest_powers") (My.top 6) := by
   dsimp only [L2.KOf]
   refine' EV.aU KX G ?a ?l ?c ?k
   (case a => k_is); (case l => k_is); (case c => k_is); (case k => k_is)
  have D7 : EV.aE (L2.KOf KX) mg (Str.ofString "width_for") (My.top 7) := by
   dsimp only [L2.KOf]
   refine' EV.aU KX G ?a ?l ?c ?k
   (case a => k_is); (case l => k_is); (case c => k_is); (case k => k_is)
  have D8 : EV.aE (L2.KOf KX) mg (Str.ofString "key_of") (My.top 8) := by
   dsimp only [L2.KOf]
   refine' EV.aU KX G ?a ?l ?c ?k
   (case a => k_is); (case l => k_is); (case c => k_is); (case k => k_is)
  have D9 : EV.aE (L2.KOf KX) mg (Str.ofString "powers_of") (My.top 9) := by
   dsimp only [L2.KOf]
   refine' EV.aU KX G ?a ?l ?c ?k
   (case a => k_is); (case l => k_is); (case c => k_is); (case k => k_is)
  have D10 : EV.aE (L2.KOf KX) mg (Str.ofString "packed") (My.top 10) := by
   dsimp only [L2.KOf]
   refine' EV.aU KX G ?a ?l ?c ?k
   (case a => k_is); (case l => k_is); (case c => k_is); (case k => k_is)
  have D11 : EV.aE (L2.KOf KX) mg (Str.ofString "unpacked") (My.top 11) := by
   dsimp only [L2.KOf]
   refine' EV.aU KX G ?a ?l ?c ?k
   (case a => k_is); (case l => k_is); (case c => k_is); (case k => k_is)
  have D12 : EV.aE (L2.KOf KX) mg (Str.ofString "add_products") (My.top 12) := by
   dsimp only [L2.KOf]
   refine' EV.aU KX G ?a ?l ?c ?k
   (case a => k_is); (case l => k_is); (case c => k_is); (case k => k_is)
  have D13 : EV.aE (L2.KOf KX) mg (Str.ofString "poly_times") (My.top 13) := by
   dsimp only [L2.KOf]
   refine' EV.aU KX G ?a ?l ?c ?k
   (case a => k_is); (case l => k_is); (case c => k_is); (case k => k_is)
  have D15 : EV.aE (L2.KOf KX) mg (Str.ofString "_law_whole") (My.top 15) := by
   dsimp only [L2.KOf]
   refine' EV.aU KX G ?a ?l ?c ?k
   (case a => k_is); (case l => k_is); (case c => k_is); (case k => k_is)
  have D16 : EV.aE (L2.KOf KX) mg (Str.ofString "_law_thing") (My.top 16) := by
   dsimp only [L2.KOf]
   refine' EV.aU KX G ?a ?l ?c ?k
   (case a => k_is); (case l => k_is); (case c => k_is); (case k => k_is)
  have D17 : EV.aE (L2.KOf KX) mg (Str.ofString "_law_term") (My.top 17) := by
   dsimp only [L2.KOf]
   refine' EV.aU KX G ?a ?l ?c ?k
   (case a => k_is); (case l => k_is); (case c => k_is); (case k => k_is)
  have D18 : EV.aE (L2.KOf KX) mg (Str.ofString "_law_trimmed") (My.top 18) := by
   dsimp only [L2.KOf]
   refine' EV.aU KX G ?a ?l ?c ?k
   (case a => k_is); (case l => k_is); (case c => k_is); (case k => k_is)
  have D19 : EV.aE (L2.KOf KX) mg (Str.ofString "_law_sum") (My.top 19) := by
   dsimp only [L2.KOf]
   refine' EV.aU KX G ?a ?l ?c ?k
   (case a => k_is); (case l => k_is); (case c => k_is); (case k => k_is)
  have D20 : EV.aE (L2.KOf KX) mg (Str.ofString "_law_product") (My.top 20) := by
   dsimp only [L2.KOf]
   refine' EV.aU KX G ?a ?l ?c ?k
   (case a => k_is); (case l => k_is); (case c => k_is); (case k => k_is)
  have D21 : EV.aE (L2.KOf KX) mg (Str.ofString "_law_same") (My.top 21) := by
   dsimp only [L2.KOf]
   refine' EV.aU KX G ?a ?l ?c ?k
   (case a => k_is); (case l => k_is); (case c => k_is); (case k => k_is)
  have D22 : EV.aE (L2.KOf KX) mg (Str.ofString "_law_good") (My.top 22) := by
   dsimp only [L2.KOf]
   refine' EV.aU KX G ?a ?l ?c ?k
   (case a => k_is); (case l => k_is); (case c => k_is); (case k => k_is)
  have D23 : EV.aE (L2.KOf KX) mg (Str.ofString "law") (My.top 23) := by
   dsimp only [L2.KOf]
   refine' EV.aU KX G ?a ?l ?c ?k
   (case a => k_is); (case l => k_is); (case c => k_is); (case k => k_is)
  have T : EV.Txt (L2.KOf KX) mg := by
   dsimp only [L2.KOf]
   refine' EV.AZ KX G ?z1 ?z2 ?z3 ?z4 ?z5 ?z6 ?z7 ?z8 ?z9 ?z10 ?z11 ?z12 ?z13 ?z14 ?z15 ?z16 ?z17 ?sib
   (case z1 => k_is)
   (case z2 => k_is)
   (case z3 => k_is)
   (case z4 => k_is)
   (case z5 => k_is)
   (case z6 => k_is)
   (case z7 => k_is)
   (case z8 => k_is)
   (case z9 => k_is)
   (case z10 => k_is)
   (case z11 => k_is)
   (case z12 => k_is)
   (case z13 => k_is)
   (case z14 => k_is)
   (case z15 => k_is)
   (case z16 => k_is)
   (case z17 => k_is)
   (case sib => k_is)
  have xPLACES : ∃ tk : Tok, mg (Str.ofString "PLACES") = some (.int 6 tk) := by
   refine' EV.int_mk KX G ?a
   (case a => k_is)
  exact My.zh hmg T xPLACES D2 D3 D4 D5 D6 D7 D8 D9 D10 D11 D12 D13 D15 D16 D17 D18 D19 D20 D21 D22 D23
#print axioms PySem.Challenge.cw_everydraw_k06_polynomials_reckoned_holds
