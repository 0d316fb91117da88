import PyProof.Rows.All
import Wide.All
import OpenK.AllK
import Wide.FinOn
import PyProof.EqAt
import PyProof.EqKinds
import PyProof.TupleCall
import OpenK.KCls
import PyProof.ExcClass2
import PyProof.ExcBaseAll.ValueError
import PyProof.ExcArgs
import PyProof.Rows.Exc
import KE.KIsAll
import PyProof.StationsW
import PyProof.EnumFor
import PyProof.EnumStmt
import PyProof.EnumMake
import PyProof.NeKinds
import PyProof.Rows.SumAny
import KE.KDictSum
import PyProof.Rows.SortWalk
import PyProof.Rows.Range3
import PySem.Challenge.RW_stillheap_k61_boxes
section
set_option Elab.async false
set_option linter.all false
set_option maxRecDepth 100000
/-! THE HAND LAYER, for ints, bools, texts, own classes, LISTS and tuples (index, slices, in, append, pop ..), calls, loops. Paste it whole ahead of your own text; what your proof does not reach may be deleted. -/
namespace L2
open PySem PySem.Spec PyProof.Rows

/-- a key: an int or a str -/
abbrev Key := Sum Int Str
def keyIs : Key → Value → Bool
  | .inl k, v => Value.isInt k v
  | .inr x, v => Value.isStrOf x v
def keyH (w : World) : Key → Int
  | .inl k => hashInt k
  | .inr x => hashStr w x
theorem keyIs_shape : ∀ {k : Key} {v : Value}, keyIs k v = true → (∃ i t, k = Sum.inl i ∧ v = Value.int i t) ∨ (∃ x t, k = Sum.inr x ∧ v = Value.str x t)
  | .inl i, v, h => by
    obtain ⟨t, e⟩ := Value.isInt_shape (k := i) (v := v) h
    exact .inl ⟨i, t, rfl, e⟩
  | .inr x, v, h => by
    obtain ⟨t, e⟩ := Value.isStrOf_shape (x := x) (v := v) h
    exact .inr ⟨x, t, rfl, e⟩
theorem keyIs_int (i : Int) (t : Tok) : keyIs (.inl i) (.int i t) = true := by simp [keyIs, Value.isInt]
theorem keyIs_str (x : Str) (t : Tok) : keyIs (.inr x) (.str x t) = true := by simp [keyIs, Value.isStrOf]
theorem key_ll (a b : Int) : decide ((Sum.inl a : Key) = Sum.inl b) = (a == b) := by
  by_cases e : a = b
  · subst e; simp
  · have h : ¬ (Sum.inl a : Key) = Sum.inl b := fun q => e (Sum.inl.inj q)
    rw [decide_eq_false h]
    exact (beq_eq_false_iff_ne.mpr e).symm
theorem key_rr (a b : Str) : decide ((Sum.inr a : Key) = Sum.inr b) = decide (a = b) := by
  by_cases e : a = b
  · subst e; simp
  · have h : ¬ (Sum.inr a : Key) = Sum.inr b := fun q => e (Sum.inr.inj q)
    rw [decide_eq_false h, decide_eq_false e]
theorem key_lr (a : Int) (b : Str) : decide ((Sum.inl a : Key) = Sum.inr b) = false := decide_eq_false (fun q => nomatch q)
theorem key_rl (a : Str) (b : Int) : decide ((Sum.inr a : Key) = Sum.inl b) = false := decide_eq_false (fun q => nomatch q)

def mixKind (prog : Program) (w : World) : PySem.KeyKind prog w Key where
  is := keyIs
  hash := keyH w
  inj := fun v a b ha hb => by
    rcases keyIs_shape ha with ⟨i, t, rfl, rfl⟩ | ⟨x, t, rfl, rfl⟩
    · rcases keyIs_shape hb with ⟨j, u, rfl, e⟩ | ⟨y, u, rfl, e⟩
      · injection e with e1 _; rw [e1]
      · exact nomatch e
    · rcases keyIs_shape hb with ⟨j, u, rfl, e⟩ | ⟨y, u, rfl, e⟩
      · exact nomatch e
      · injection e with e1 _; rw [e1]
  byValue := fun k v h => by
    rcases keyIs_shape h with ⟨i, t, rfl, rfl⟩ | ⟨x, t, rfl, rfl⟩ <;> rfl
  pyHash := fun hv h => by
    rcases keyIs_shape hv with ⟨i, t, rfl, rfl⟩ | ⟨x, t, rfl, rfl⟩
    · exact wpAny_pyHash_int h
    · exact wpAny_pyHash_str h
  eqBool := fun hu hv h => by
    rcases keyIs_shape hu with ⟨i, t, rfl, rfl⟩ | ⟨x, t, rfl, rfl⟩
    · rcases keyIs_shape hv with ⟨j, u, rfl, rfl⟩ | ⟨y, u, rfl, rfl⟩
      · rw [key_ll] at h; exact wpAny_eqBool_int h
      · rw [key_lr] at h; exact SeqAt.EqAt.int_str i t y u _ _ _ _ h
    · rcases keyIs_shape hv with ⟨j, u, rfl, rfl⟩ | ⟨y, u, rfl, rfl⟩
      · rw [key_rl] at h; exact SeqAt.EqAt.str_int x t j u _ _ _ _ h
      · rw [key_rr] at h; exact wpAny_eqBool_str h
  «strs» := fun k x t v h => by
    rcases keyIs_shape h with ⟨i, u, rfl, e⟩ | ⟨y, u, rfl, e⟩
    · exact nomatch e
    · injection e with e1 _
      subst e1
      cases v <;> rfl

theorem mixKind_int (prog : Program) (w : World) (i : Int) (t : Tok) : (mixKind prog w).is (.inl i) (.int i t) = true := keyIs_int i t
theorem mixKind_str (prog : Program) (w : World) (x : Str) (t : Tok) : (mixKind prog w).is (.inr x) (.str x t) = true := keyIs_str x t
end L2

namespace L2
open PySem PySem.Spec PyProof.Rows

/-- a value, without the heap -/
inductive V where
  | non | bl (b : Bool) | int (i : Int) | str (x : Str) | byt (b : Array UInt8) | flt (b : UInt64) | ref (a : Addr) | ty (n : String)
  deriving DecidableEq

def RelV : V → Value → Prop
  | .non, u => u = Value.none
  | .bl b, u => u = Value.bool b
  | .int i, u => ∃ t, u = Value.int i t
  | .str x, u => ∃ t, u = Value.str x t
  | .byt b, u => ∃ t, u = Value.bytes b t
  | .flt b, u => ∃ t, u = Value.float b t
  | .ref a, u => u = Value.ref a
  | .ty n, u => u = Value.type n

abbrev Vals : List V → List Value → Prop := Paired RelV
theorem Vals.length {xs : List V} {us : List Value} (r : Vals xs us) : xs.length = us.length := Paired.length r
theorem Vals.get : ∀ {xs : List V} {us : List Value} {i : Nat} {x : V}, Vals xs us → xs[i]? = some x → ∃ u, us[i]? = some u ∧ RelV x u
  | _, _, _, _, .nil, e => by simp at e
  | _, _, 0, _, .cons r _, e => by simp at e; subst e; exact ⟨_, rfl, r⟩
  | _, _, i + 1, x, .cons _ t, e => by
    obtain ⟨u, h1, h2⟩ := Vals.get (i := i) (x := x) t (by simpa using e)
    exact ⟨u, by simpa using h1, h2⟩
theorem Vals.set {x : V} {u : Value} (r : RelV x u) : ∀ {xs : List V} {us : List Value} (i : Nat), Vals xs us → Vals (xs.set i x) (us.set i u)
  | _, _, _, .nil => .nil
  | _, _, 0, .cons _ t => .cons r t
  | _, _, i + 1, .cons q t => .cons q (Vals.set r i t)
theorem Vals.append : ∀ {xs ys : List V} {us ws : List Value}, Vals xs us → Vals ys ws → Vals (xs ++ ys) (us ++ ws)
  | _, _, _, _, .nil, s => s
  | _, _, _, _, .cons r t, s => .cons r (Vals.append t s)

def RelO : Option V → Option Value → Prop
  | some v, some u => RelV v u
  | none, none => True
  | _, _ => False
def KV {κ : Type} : List (κ × V) → List (κ × Value) → Prop := Paired fun (p : κ × V) (q : κ × Value) => p.1 = q.1 ∧ RelV p.2 q.2

/-- a key of a dict (00_mix): an int or a text -/
def kV : Key → V
  | .inl i => .int i
  | .inr x => .str x

/-- what stands at a tracked address -/
inductive HO where
  /-- a list -/
  | lst (xs : List V)
  /-- a tuple (never changes) -/
  | tup (xs : List V)
  /-- a dict whose keys are ints and texts; one whose keys are tuples of ints and texts (the empty one is both) -/
  | dK (kvs : List (Key × V)) | dT (kvs : List (List Key × V))
  /-- a set of ints: its members, its size -/
  | set (S : Int → Bool) (n : Nat)
  /-- an instance of the class at C, its dict at dx, its attributes -/
  | ins (C dx : Addr) (fs : List (Str × V))
  /-- the dict of the instance at x -/
  | own (x : Addr)
  /-- the dict of an exception -/
  | xd (fs : List (Str × V))
  /-- a bound method, f of x -/
  | met (f x : Addr)
  /-- a range object lo, lo + 1, .. below hi -/
  | rng (lo hi : Int)
  /-- a thing that is known to the object (the script; a dict while a loop walks it): read, never written while it is so -/
  | frz (o : Obj) (u : HO)
  /-- a code object's table -/
  | tbl (ps : Array Value)
  /-- any other thing, by what is true of its one object (a def of one's own: SetO a S n := HO.ext fun h => ..) -/
  | ext (φ : Heap → Prop)

abbrev Hp := Addr → Option HO
def upd (H : Hp) (a : Addr) (o : HO) : Hp := fun b => if b = a then some o else H b
theorem upd_same {H : Hp} {a : Addr} {o : HO} : upd H a o a = some o := by unfold upd; rw [if_pos rfl]
theorem upd_ne {H : Hp} {a b : Addr} {o : HO} (h : b ≠ a) : upd H a o b = H b := by unfold upd; rw [if_neg h]
theorem upd_upd {H : Hp} {a : Addr} {o u : HO} : upd (upd H a o) a u = upd H a u := by
  funext b; unfold upd; split <;> rfl
/-- two objects of different content stand apart -/
theorem ne_of {H : Hp} {a b : Addr} {o u : HO} (h : H a = some o) (h' : H b = some u) (d : o ≠ u) : a ≠ b := by
  intro e; subst e; rw [h] at h'; exact d (Option.some.inj h')
theorem ne_of_none {H : Hp} {a b : Addr} {o : HO} (h : H a = some o) (h' : H b = none) : a ≠ b := by
  intro e; subst e; rw [h] at h'; cases h'

section
variable (P : Program) (w : World)
def ObjOk (H : Hp) (h : Heap) (a : Addr) : HO → Prop
  | .lst xs => xs.length ≤ sizeLine ∧ ∃ (its : List Value) (n : Nat), Vals xs its ∧ h.get? a = some { cls := .type "list", data := .seq its.toArray n }
  | .tup xs => xs.length ≤ sizeLine ∧ ∃ its : List Value, Vals xs its ∧ IsTup h a its.toArray
  | .dK kvs => kvs.length ≤ sizeLine ∧ (a == sysModules) = false ∧ ∃ vs, KV kvs vs ∧ h.DictOf (mixKind P w) a vs
  | .dT kvs => kvs.length ≤ sizeLine ∧ (a == sysModules) = false ∧ ∃ xs : List (List Key × Addr × Value),
      Paired (fun (p : List Key × V) (q : List Key × Addr × Value) => p.1 = q.1 ∧ H q.2.1 = some (.tup (p.1.map kV)) ∧ RelV p.2 q.2.2) kvs xs ∧
      ∃ o es ep, h.get? a = some o ∧ o.ExactDict ∧ o.data = .dict es ep ∧ es.toList = xs.map (entryOfKey (tupleKind (mixKind P w))) ∧ (xs.map (·.1)).Nodup
  | .set S n => h.SetOf (intKind P w) a S n
  | .ins C dx fs => H dx = some (.own a) ∧ fs.length ≤ 1000 ∧ dx ≠ a ∧ h.get? a = some (PySem.W.instObj C dx) ∧
      ∃ mA, h.Ns1 dx mA ∧ (∀ f, RelO (fs.lookup f) (mA f)) ∧ PySem.Within mA (fs.map (·.1))
  | .own _ => ∃ o, h.get? a = some o
  | .xd fs => ∃ mA, h.Ns1 a mA ∧ ∀ f, RelO (fs.lookup f) (mA f)
  | .rng lo hi => ∃ t u v, h.get? a = some { cls := .type "range", data := .fields #[.int lo t, .int hi u, .int 1 v] }
  | .frz o u => h.get? a = some o ∧ ObjOk H h a u
  | .tbl ps => h.get? a = some { cls := .none, data := .fields ps }
  | .met f x => h.get? a = some (PySem.W.methodObj (.ref f) (.ref x))
  | .ext φ => φ h ∧ (∃ o, h.get? a = some o) ∧ ∀ h1 h2 : Heap, φ h1 → (∀ o, h1.get? a = some o → h2.get? a = some o) → φ h2
/-- the abstract heap is held -/
def HOk (H : Hp) (h : Heap) : Prop := ∀ a o, H a = some o → ObjOk P w H h a o
end

section
variable {P : Program} {w : World} {H H' : Hp} {h h' : Heap} {a : Addr} {o : HO}
theorem ObjOk.lt (x : ObjOk P w H h a o) : a < h.objs.size := by
  cases o with
  | lst xs => obtain ⟨_, _, _, _, e⟩ := x; exact Heap.lt_size e
  | tup xs => obtain ⟨_, _, _, p⟩ := x; exact p.lt
  | dK kvs => obtain ⟨_, _, _, _, o, _, _, e, _⟩ := x; exact Heap.lt_size e
  | dT kvs => obtain ⟨_, _, _, _, o, _, _, e, _⟩ := x; exact Heap.lt_size e
  | set S n => obtain ⟨o, _, _, _, e, _⟩ := x; exact Heap.lt_size e
  | ins C dx fs => obtain ⟨_, _, _, e, _⟩ := x; exact Heap.lt_size e
  | own y => obtain ⟨_, e⟩ := x; exact Heap.lt_size e
  | xd fs => obtain ⟨_, ⟨_, _, _, e, _⟩, _⟩ := x; exact Heap.lt_size e
  | rng lo hi => obtain ⟨_, _, _, e⟩ := x; exact Heap.lt_size e
  | frz ob u => obtain ⟨e, _⟩ := x; exact Heap.lt_size e
  | tbl ps => exact Heap.lt_size (show h.get? a = some _ from x)
  | met f y => exact Heap.lt_size (show h.get? a = some _ from x)
  | ext φ => obtain ⟨_, ⟨_, e⟩, _⟩ := x; exact Heap.lt_size e
theorem Paired.mapP {α β : Type} {F G : α → β → Prop} : ∀ {l₁ : List α} {l₂ : List β}, Paired F l₁ l₂ → (∀ a b, F a b → G a b) → Paired G l₁ l₂
  | _, _, .nil, _ => .nil
  | _, _, .cons r t, f => .cons (f _ _ r) (Paired.mapP t f)
/-- what an object's description leans on: its own object, its own dict, the tuples -/
theorem ObjOk.stay (x : ObjOk P w H h a o) (k : ∀ b u, (b = a ∨ H b = some (.own a)) → h.get? b = some u → h'.get? b = some u)
    (ho : ∀ b, H b = some (.own a) → H' b = some (.own a)) (ht : ∀ b xs, H b = some (.tup xs) → H' b = some (.tup xs)) : ObjOk P w H' h' a o := by
  induction o with
  | lst xs => obtain ⟨z, its, n, r, e⟩ := x; exact ⟨z, its, n, r, k _ _ (.inl rfl) e⟩
  | tup xs => obtain ⟨z, its, r, ob, e, c⟩ := x; exact ⟨z, its, r, ob, k _ _ (.inl rfl) e, c⟩
  | dK kvs => obtain ⟨z, y, vs, r, ob, es, ep, e, c⟩ := x; exact ⟨z, y, vs, r, ob, es, ep, k _ _ (.inl rfl) e, c⟩
  | dT kvs =>
    obtain ⟨z, y, xs, r, ob, es, ep, e, c⟩ := x
    exact ⟨z, y, xs, Paired.mapP r fun p q z => ⟨z.1, ht _ _ z.2.1, z.2.2⟩, ob, es, ep, k _ _ (.inl rfl) e, c⟩
  | set S n => obtain ⟨ob, es, ep, t, e, c⟩ := x; exact ⟨ob, es, ep, t, k _ _ (.inl rfl) e, c⟩
  | ins C dx fs =>
    obtain ⟨d, z, ne, e, mA, ⟨od, es, ep, e2, c⟩, r⟩ := x
    exact ⟨ho _ d, z, ne, k _ _ (.inl rfl) e, mA, ⟨od, es, ep, k _ _ (.inr d) e2, c⟩, r⟩
  | own y => obtain ⟨ob, e⟩ := x; exact ⟨ob, k _ _ (.inl rfl) e⟩
  | xd fs => obtain ⟨mA, ⟨od, es, ep, e, c⟩, r⟩ := x; exact ⟨mA, ⟨od, es, ep, k _ _ (.inl rfl) e, c⟩, r⟩
  | rng lo hi => obtain ⟨t, u, v, e⟩ := x; exact ⟨t, u, v, k _ _ (.inl rfl) e⟩
  | frz ob u ih => obtain ⟨e, q⟩ := x; exact ⟨k _ _ (.inl rfl) e, ih q⟩
  | tbl ps =>
    have e : h.get? a = some { cls := .none, data := .fields ps } := x
    show h'.get? a = some { cls := .none, data := .fields ps }
    exact k a _ (.inl rfl) e
  | met f y =>
    have e : h.get? a = some (PySem.W.methodObj (.ref f) (.ref y)) := x
    show h'.get? a = some (PySem.W.methodObj (.ref f) (.ref y))
    exact k a _ (.inl rfl) e
  | ext φ => obtain ⟨p, ⟨o, e⟩, st⟩ := x; exact ⟨st _ _ p fun o q => k _ _ (.inl rfl) q, ⟨o, k _ _ (.inl rfl) e⟩, st⟩
theorem HOk.lt (x : HOk P w H h) (e : H a = some o) : a < h.objs.size := (x a o e).lt
theorem HOk.fresh (x : HOk P w H h) (e : h.objs.size ≤ a) : H a = none := by
  cases q : H a with
  | none => rfl
  | some u => exact absurd (Nat.lt_of_lt_of_le (x.lt q) e) (Nat.lt_irrefl _)
/-- every object of the heap is kept -/
theorem HOk.kept (x : HOk P w H h) (k : ∀ b u, h.get? b = some u → h'.get? b = some u) : HOk P w H h' := fun a o e =>
  (x a o e).stay (fun b u _ q => k b u q) (fun _ q => q) fun _ _ q => q
/-- a new object is laid and tracked -/
theorem HOk.laid (x : HOk P w H h) (k : ∀ b u, h.get? b = some u → h'.get? b = some u) (hp : h.objs.size ≤ a) (new : ObjOk P w (upd H a o) h' a o) : HOk P w (upd H a o) h' := fun b u e => by
  have hn := x.fresh hp
  by_cases hb : b = a
  · subst hb; rw [upd_same] at e; cases e; exact new
  · rw [upd_ne hb] at e
    exact (x b u e).stay (fun c v _ q => k c v q) (fun c q => by rw [upd_ne (ne_of_none q hn)]; exact q) fun c xs q => by rw [upd_ne (ne_of_none q hn)]; exact q
end

/-- what may be read as u: it is u, or a known u -/
def Rd (H : Hp) (a : Addr) (u : HO) : Prop := H a = some u ∨ ∃ o, H a = some (.frz o u)
theorem Rd.ok {P : Program} {w : World} {H : Hp} {h : Heap} {a : Addr} {u : HO} (r : Rd H a u) (x : HOk P w H h) : ObjOk P w H h a u := by
  rcases r with r | ⟨o, r⟩
  · exact x a u r
  · obtain ⟨_, q⟩ := x a _ r
    exact q
/-- what may be written -/
def Mut : Option HO → Prop
  | some (.lst _) => True
  | some (.dK _) => True
  | some (.dT _) => True
  | some (.set _ _) => True
  | some (.ins _ _ _) => True
  | some (.ext _) => True
  | _ => False
section
variable {P : Program} {w : World} {H : Hp} {h h' : Heap} {x e : Addr} {o' : HO}
/-- the object at e is changed: x itself, or the dict of the instance x -/
theorem HOk.write (ok : HOk P w H h) (mu : Mut (H x)) (he : e = x ∨ H e = some (.own x)) (k : ∀ b u, b ≠ e → h.get? b = some u → h'.get? b = some u) (heo : ∃ u, h'.get? e = some u)
    (new : ObjOk P w (upd H x o') h' x o') : HOk P w (upd H x o') h' := fun b u q => by
  have nown : ∀ c y, H c = some (.own y) → c ≠ x := fun c y r z => by subst z; rw [r] at mu; exact mu
  have ntup : ∀ c xs, H c = some (.tup xs) → c ≠ x := fun c xs r z => by subst z; rw [r] at mu; exact mu
  by_cases hb : b = x
  · subst hb; rw [upd_same] at q; cases q; exact new
  · rw [upd_ne hb] at q
    by_cases hbe : b = e
    · have q' : H b = some (.own x) := by
        rcases he with z | z
        · exact absurd (hbe.trans z) hb
        · rw [hbe]; exact z
      rw [q] at q'; cases q'
      obtain ⟨v, hv⟩ := heo
      exact ⟨v, by rw [hbe]; exact hv⟩
    · refine (ok b u q).stay (fun c v hc r => k c v ?_ r) (fun c r => by rw [upd_ne (nown c b r)]; exact r) fun c xs r => by rw [upd_ne (ntup c xs r)]; exact r
      rcases hc with rfl | hc
      · exact hbe
      · rintro rfl
        rcases he with z | z
        · exact nown c b hc z
        · rw [hc] at z; cases z; exact hb rfl
end

/-! ### kept unless tracked; of the frames at fs (the callers') the slots may change (an exception that passes writes there); of the records at ex (iterators) nothing is said -/
structure Un (fs ex : List Addr) (H H' : Hp) (h h' : Heap) : Prop where
  keep : ∀ b o, h.get? b = some o → H b = none → b ∉ fs → b ∉ ex → h'.get? b = some o
  slot : ∀ b o, h.get? b = some o → H b = none → b ∈ fs → b ∉ ex → ∃ sl, h'.get? b = some { o with slots := sl }
  free : ∀ b o, h.get? b = some o → H b = none → b ∉ ex → H' b = none
  there : ∀ b o, h.get? b = some o → b ∉ ex → ∃ o', h'.get? b = some o'
  tups : ∀ b xs, H b = some (.tup xs) → H' b = some (.tup xs)
  frzs : ∀ b o u, H b = some (.frz o u) → H' b = some (.frz o u)
  tbls : ∀ b ps, H b = some (.tbl ps) → ∃ more, H' b = some (.tbl (ps ++ more))
section
variable {fs fs' ex ex' : List Addr} {H H1 H2 : Hp} {h h1 h2 h' : Heap} {a x e : Addr} {o : HO}
theorem Un.any (u : Un fs ex H H1 h h1) {b : Addr} {ob : Obj} (q : h.get? b = some ob) (n : H b = none) (hx : b ∉ ex) : ∃ sl, h1.get? b = some { ob with slots := sl } := by
  by_cases hb : b ∈ fs
  · exact u.slot b ob q n hb hx
  · exact ⟨ob.slots, u.keep b ob q n hb hx⟩
theorem Un.kept (k : ∀ b u, h.get? b = some u → h'.get? b = some u) : Un fs ex H H h h' :=
  ⟨fun b ob q _ _ _ => k b ob q, fun b ob q _ _ _ => ⟨ob.slots, k b ob q⟩, fun _ _ _ n _ => n, fun b ob q _ => ⟨ob, k b ob q⟩, fun _ _ q => q, fun _ _ _ q => q, fun _ ps q => ⟨#[], by rw [q]; simp⟩⟩
theorem Un.refl : Un fs ex H H h h := Un.kept fun _ _ q => q
theorem Un.laid (k : ∀ b u, h.get? b = some u → h'.get? b = some u) (hp : h.objs.size ≤ a) (hn : H a = none) : Un fs ex H (upd H a o) h h' where
  keep := fun b u q _ _ _ => k b u q
  slot := fun b u q _ _ _ => ⟨u.slots, k b u q⟩
  free := fun b u q n _ => by rw [upd_ne (Nat.ne_of_lt (Nat.lt_of_lt_of_le (Heap.lt_size q) hp))]; exact n
  there := fun b u q _ => ⟨u, k b u q⟩
  tups := fun b xs q => by rw [upd_ne (ne_of_none q hn)]; exact q
  frzs := fun b u xs q => by rw [upd_ne (ne_of_none q hn)]; exact q
  tbls := fun b ps q => ⟨#[], by rw [upd_ne (ne_of_none q hn), q]; simp⟩
theorem Un.write (mu : Mut (H x)) (he : e = x ∨ H e = some (.own x)) (k : ∀ b u, b ≠ e → h.get? b = some u → h'.get? b = some u) (heo : ∃ u, h'.get? e = some u) : Un fs ex H (upd H x o) h h' := by
  have hx : ∀ b, H b = none → b ≠ x := fun b n z => by subst z; rw [n] at mu; exact mu
  have hb : ∀ b, H b = none → b ≠ e := fun b n z => by
    subst z
    rcases he with r | r
    · exact hx b n r
    · rw [n] at r; cases r
  have hm : ∀ b u, H b = some u → ¬ Mut (some u) → b ≠ x := fun b u q nm z => by subst z; rw [q] at mu; exact nm mu
  refine ⟨fun b u q n _ _ => k b u (hb b n) q, fun b u q n _ _ => ⟨u.slots, k b u (hb b n) q⟩, fun b u q n _ => by rw [upd_ne (hx b n)]; exact n, fun b u q _ => ?_,
    fun b xs q => by rw [upd_ne (hm b _ q fun z => z)]; exact q, fun b u xs q => by rw [upd_ne (hm b _ q fun z => z)]; exact q, fun b ps q => ⟨#[], by rw [upd_ne (hm b _ q fun z => z), q]; simp⟩⟩
  by_cases hbe : b = e
  · subst hbe; exact heo
  · exact ⟨u, k b u hbe q⟩
end

/-! ### the heap without what is tracked -/
def trk (h : Heap) (H : Hp) : List Addr := (List.range h.objs.size).filter fun a => (H a).isSome
def hidT (h : Heap) (H : Hp) : Heap := PySem.W.hideAll h (trk h H)
theorem hidT_size (h : Heap) (H : Hp) : (hidT h H).objs.size = h.objs.size := PySem.W.hideAll_size _ _
theorem hidT_get {h : Heap} {H : Hp} {b : Addr} {o : Obj} (e : h.get? b = some o) (n : H b = none) : (hidT h H).get? b = some o :=
  PySem.W.hideAll_get _ e fun hm => by
    have q : (H b).isSome = true := (List.mem_filter.mp hm).2
    rw [n] at q; simp at q
theorem of_hidT {h : Heap} {H : Hp} {b : Addr} {o : Obj} (e : (hidT h H).get? b = some o) : h.get? b = some o ∧ H b = none := by
  have e' : h.get? b = some o := PySem.W.of_hideAll (trk h H) e
  refine ⟨e', ?_⟩
  cases q : H b with
  | none => rfl
  | some x =>
    have hm : b ∈ trk h H := List.mem_filter.mpr ⟨List.mem_range.mpr (Heap.lt_size e'), by simp [q]⟩
    have z : (hidT h H).get? b = none := PySem.W.hideAll_none (trk h H) hm
    rw [z] at e; cases e

/-! ### OpenK's ledger, filled with every new object but one -/
end L2

namespace L2
open PySem PySem.Spec PyProof.Rows

/-- the module's facts, over the base: the heap at the law's entry without what is tracked there -/
structure Mod (K : PySem.W.Frag) (mg : Str → Option Value) (base : Heap) : Prop where
  kin : K.In base
  glob : base.Ns mainGlobals mg
  blt : ∃ mb, base.Ns builtinsNs mb ∧ ∀ x : Str, x ≠ "__name__" → mb x = bootBuiltins x
  nolimit : base.NoLimit

/-- the context: a def's body (or a comprehension's block) running. base: fixed through the whole law; s₀, H₀: the entry; outer: the frames whose slots others may change (a def's callers); stack: all frames that run;
   ex: iterators that were made ahead of the entry and are walked here (a comprehension's); fn: the names whose cells were made at the entry (a def: all; a comprehension's block: its own); calm: not within an except suite; pn: pins that every state bears; xe: what is wanted of an exception that leaves the code -/
structure Cx where
  prog : Program
  w : World
  K : PySem.W.Frag
  mg : Str → Option Value
  base : Heap
  A : Around
  N : List Str
  s₀ : Shared
  H₀ : Hp
  env : Env
  outer : List Env
  stack : List Env
  ex : List Addr
  fn : Str → Bool
  calm : Bool
  pn : List (Addr × Obj)
  xe : Value → Shared → Prop
/-- the callers' frames -/
def frs (l : List Env) : List Addr := l.filterMap (·.frame)
abbrev Cx.fs (X : Cx) : List Addr := frs X.outer

def Vis (sc : Scope) (x : Str) : Prop := sc.names.lookup x = some .local ∨ sc.names.lookup x = some .cell ∨ sc.names.lookup x = some .free
def Loc (sc : Scope) (x : Str) : Prop := sc.names.lookup x = some .local ∨ sc.names.lookup x = some .cell
def Look (env : Env) (h : Heap) (m : Str → Option Value) (x : Str) (u : Value) : Prop :=
  (env.kindOf x = some .local ∧ m x = some u) ∨ ((env.kindOf x = some .cell ∨ env.kindOf x = some .free) ∧ ∃ c, env.cells.lookup x = some c ∧ h.IsCell c (some u))

structure Cx.Ok (X : Cx) : Prop where
  mod : Mod X.K X.mg X.base
  kind : X.env.scope.kind = .function
  glob : X.env.globals = mainGlobals
  blt : X.env.builtins = builtinsNs
  above : X.s₀.heap.objs.size ≤ X.env.locals
  inj : ∀ x y c, X.env.cells.lookup x = some c → X.env.cells.lookup y = some c → x = y
  has : ∀ x, (X.env.kindOf x = some .cell ∨ X.env.kindOf x = some .free) → ∃ c, X.env.cells.lookup x = some c
  cab : ∀ x c, X.fn x = true → X.env.cells.lookup x = some c → X.s₀.heap.objs.size ≤ c
  hd : X.calm = true → X.A.handled = none
  frames : X.A.frames = some X.stack
  stk : X.stack = X.outer ∨ (X.stack = X.env :: X.outer ∧ X.env.frame = some X.env.locals)
  exf : ∀ b ∈ X.ex, b ≠ X.env.locals ∧ ∀ x c, X.env.cells.lookup x = some c → c ≠ b
  bs : ∀ b o, X.base.get? b = some o → X.s₀.heap.get? b = some o ∧ X.H₀ b = none
  bsz : X.base.objs.size ≤ X.s₀.heap.objs.size
  noex : ∀ b o, X.base.get? b = some o → b ∉ X.ex
  exfs : ∀ b ∈ X.ex, b ∉ X.fs
  funs : X.s₀.heap.FunFrames X.base X.outer
  frf : ∀ b ∈ X.fs, X.H₀ b = none

structure Inv (X : Cx) (pins : List (Addr × Obj)) (σ : List (Option V)) (H : Hp) (s : Shared) : Prop where
  ok : X.Ok
  os : s.os = X.s₀.os
  bare : AllBare s.gens
  base : Un X.fs X.ex X.H₀ H X.s₀.heap s.heap
  loc : ∃ m, s.heap.Ns X.env.locals m ∧ ∀ (i : Nat) (x : Str) (v : V), X.N[i]? = some x → σ[i]? = some (some v) → Vis X.env.scope x → ∃ u, RelV v u ∧ Look X.env s.heap m x u
  cell : ∀ x c, X.env.cells.lookup x = some c → ∃ v, s.heap.IsCell c v
  free : H X.env.locals = none
  freeC : ∀ x c, X.env.cells.lookup x = some c → H c = none
  pin : ∀ p ∈ X.pn ++ pins, s.heap.get? p.1 = some p.2 ∧ H p.1 = none ∧ p.1 ≠ X.env.locals ∧ p.1 ∉ X.fs ∧ ∀ v, p.2.data ≠ .cell v
  hok : HOk X.prog X.w H s.heap
  len : σ.length = X.N.length

section
variable {X : Cx} {pins : List (Addr × Obj)} {σ : List (Option V)} {H H' : Hp} {s : Shared} {h' : Heap}

theorem Cx.Ok.nofr (ok : X.Ok) {b : Addr} {o : Obj} (e : X.base.get? b = some o) : b ∉ X.fs := fun hb => by
  have := (ok.funs.mem hb).1
  rw [e] at this; cases this
theorem Inv.bs (I : Inv X pins σ H s) : ∀ b o, X.base.get? b = some o → s.heap.get? b = some o ∧ H b = none := fun b o e =>
  ⟨I.base.keep b o (I.ok.bs b o e).1 (I.ok.bs b o e).2 (I.ok.nofr e) (I.ok.noex b o e), I.base.free b o (I.ok.bs b o e).1 (I.ok.bs b o e).2 (I.ok.noex b o e)⟩
theorem Inv.bk (I : Inv X pins σ H s) : ∀ b o, X.base.get? b = some o → s.heap.get? b = some o := fun b o e => (I.bs b o e).1
theorem Inv.mod (I : Inv X pins σ H s) : Mod X.K X.mg X.base := I.ok.mod
theorem Inv.kIn (I : Inv X pins σ H s) : X.K.In s.heap := I.ok.mod.kin.keeps I.bk
theorem Inv.lt (I : Inv X pins σ H s) : X.env.locals < s.heap.objs.size := let ⟨_, hn, _⟩ := I.loc; hn.lt
theorem Inv.sz (I : Inv X pins σ H s) : X.s₀.heap.objs.size ≤ s.heap.objs.size := Nat.le_trans I.ok.above (Nat.le_of_lt I.lt)
theorem Inv.nofs (I : Inv X pins σ H s) {a : Addr} (h : s.heap.objs.size ≤ a) : a ∉ X.fs := fun hb => by
  obtain ⟨_, o, ho, _⟩ := I.ok.funs.mem hb
  exact absurd (Nat.lt_of_lt_of_le (Heap.lt_size ho) (Nat.le_trans I.sz h)) (Nat.lt_irrefl _)
theorem Inv.cne (I : Inv X pins σ H s) : ∀ x c, X.env.cells.lookup x = some c → c ≠ X.env.locals := fun x c e z => by
  obtain ⟨v, o, ho, hd⟩ := I.cell x c e
  obtain ⟨m, ⟨o', es, ep, ho', hd', _⟩, _⟩ := I.loc
  rw [z, ho'] at ho; cases ho; rw [hd'] at hd; cases hd
theorem Inv.funs (I : Inv X pins σ H s) : s.heap.FunFrames X.base X.outer := by
  have all : ∀ (l : List Env), (∀ b ∈ frs l, b ∈ X.fs) → X.s₀.heap.FunFrames X.base l → s.heap.FunFrames X.base l := by
    intro l
    induction l with
    | nil => intro _ _; trivial
    | cons env r ih =>
      intro hs hl
      obtain ⟨hk, ⟨L, o, hf, hn, ho, hd⟩, hr⟩ := hl
      have hL : L ∈ X.fs := hs L (by unfold frs; rw [List.filterMap_cons, hf]; exact List.mem_cons_self)
      obtain ⟨sl, e⟩ := I.base.slot L o ho (I.ok.frf L hL) hL fun z => I.ok.exfs L z hL
      exact ⟨hk, ⟨L, _, hf, hn, e, hd⟩, ih (fun b hb => hs b (by unfold frs; rw [List.filterMap_cons, hf]; exact List.mem_cons_of_mem _ hb)) hr⟩
  exact all X.outer (fun _ hb => hb) I.ok.funs

/-- the frames that run, for a call -/
theorem Inv.stack (I : Inv X pins σ H s) : s.heap.FunFrames X.base X.stack := by
  rcases I.ok.stk with e | ⟨e, hf⟩
  · rw [e]; exact I.funs
  · rw [e]
    obtain ⟨m, hn, _⟩ := I.loc
    refine .cons (by rw [I.ok.kind]; decide) hf hn ?_ I.funs
    exact Heap.get?_none_of_le (Nat.le_trans I.ok.bsz I.ok.above)
theorem Inv.stkSub (I : Inv X pins σ H s) : ∀ b ∈ frs X.stack, b ∈ X.env.locals :: X.fs := fun b hb => by
  rcases I.ok.stk with e | ⟨e, hf⟩
  · rw [e] at hb; exact List.mem_cons_of_mem _ hb
  · rw [e] at hb
    unfold frs at hb
    rw [List.filterMap_cons, hf] at hb
    exact hb
theorem Inv.stkFree (I : Inv X pins σ H s) : ∀ b ∈ frs X.stack, H b = none := fun b hb => by
  rcases List.mem_cons.mp (I.stkSub b hb) with e | hb
  · rw [e]; exact I.free
  · obtain ⟨_, o, ho, _⟩ := I.ok.funs.mem hb
    exact I.base.free b o ho (I.ok.frf b hb) fun z => I.ok.exfs b z hb

/-- THE STEP: the untracked objects but the frame and the records at ch are kept (the callers' frames up to slots), the frame's map is kept, the new abstract heap is held -/
theorem Inv.step {g' : Array GenState} {t' : Nat} {d' : Drawn} {ch : List Addr} (I : Inv X pins σ H s)
    (hch : ∀ b ∈ ch, (b ∈ X.ex ∨ X.s₀.heap.objs.size ≤ b) ∧ b ≠ X.env.locals ∧ (∀ x c, X.env.cells.lookup x = some c → c ≠ b) ∧ ∀ p ∈ X.pn ++ pins, p.1 ≠ b)
    (keep : ∀ b o, b ≠ X.env.locals → b ∉ X.fs → b ∉ ch → s.heap.get? b = some o → H b = none → h'.get? b = some o)
    (slot : ∀ b o, b ≠ X.env.locals → b ∈ X.fs → b ∉ ch → s.heap.get? b = some o → H b = none → ∃ sl, h'.get? b = some { o with slots := sl }) (free : ∀ b o, b ∉ ch → s.heap.get? b = some o → H b = none → H' b = none)
    (there : ∀ b o, b ∉ ch → s.heap.get? b = some o → ∃ o', h'.get? b = some o')
    (tups : ∀ b xs, H b = some (.tup xs) → H' b = some (.tup xs)) (frzs : ∀ b o u, H b = some (.frz o u) → H' b = some (.frz o u)) (tbls : ∀ b ps, H b = some (.tbl ps) → ∃ more, H' b = some (.tbl (ps ++ more)))
    (ns : ∀ m, s.heap.Ns X.env.locals m → h'.Ns X.env.locals m) (hok : HOk X.prog X.w H' h') (hg : AllBare g') :
    Inv X pins σ H' { s with heap := h', gens := g', drawn := d', toks := t' } := by
  have neL : ∀ b o, X.s₀.heap.get? b = some o → b ≠ X.env.locals := fun b o e => Nat.ne_of_lt (Nat.lt_of_lt_of_le (Heap.lt_size e) I.ok.above)
  have neC : ∀ b o, X.s₀.heap.get? b = some o → b ∉ X.ex → b ∉ ch := fun b o e hx hb => by
    rcases (hch b hb).1 with z | z
    · exact hx z
    · exact absurd (Nat.lt_of_lt_of_le (Heap.lt_size e) z) (Nat.lt_irrefl _)
  have cellK : ∀ x c, X.env.cells.lookup x = some c → ∀ v, s.heap.IsCell c v → h'.IsCell c v := fun x c e v ⟨o, ho, hd⟩ => by
    have nch : c ∉ ch := fun z => (hch c z).2.2.1 x c e rfl
    by_cases hc : c ∈ X.fs
    · obtain ⟨sl, q⟩ := slot c o (I.cne x c e) hc nch ho (I.freeC x c e)
      exact ⟨_, q, hd⟩
    · exact ⟨o, keep c o (I.cne x c e) hc nch ho (I.freeC x c e), hd⟩
  refine ⟨I.ok, I.os, hg, ⟨fun b o e n hb hx => ?_, fun b o e n hb hx => ?_, fun b o e n hx => ?_, fun b o e hx => ?_, fun b xs e => tups b xs (I.base.tups b xs e), fun b o xs e => frzs b o xs (I.base.frzs b o xs e), fun b ps e => ?_⟩, ?_, fun x c e => ?_, ?_, fun x c e => ?_, fun p hp => ?_, hok, I.len⟩
  · exact keep b o (neL b o e) hb (neC b o e hx) (I.base.keep b o e n hb hx) (I.base.free b o e n hx)
  · obtain ⟨sl, e1⟩ := I.base.slot b o e n hb hx
    obtain ⟨sl', e2⟩ := slot b _ (neL b o e) hb (neC b o e hx) e1 (I.base.free b o e n hx)
    exact ⟨sl', e2⟩
  · obtain ⟨o', e1⟩ := I.base.there b o e hx
    exact free b o' (neC b o e hx) e1 (I.base.free b o e n hx)
  · obtain ⟨o', e1⟩ := I.base.there b o e hx
    exact there b o' (neC b o e hx) e1
  · obtain ⟨m1, e1⟩ := I.base.tbls b ps e
    obtain ⟨m2, e2⟩ := tbls b _ e1
    exact ⟨m1 ++ m2, by rw [e2, Array.append_assoc]⟩
  · obtain ⟨m, hn, hl⟩ := I.loc
    refine ⟨m, ns m hn, fun i x v e1 e2 e3 => ?_⟩
    obtain ⟨u, r, l⟩ := hl i x v e1 e2 e3
    refine ⟨u, r, ?_⟩
    rcases l with l | ⟨k, c, e, z⟩
    · exact .inl l
    · exact .inr ⟨k, c, e, cellK x c e _ z⟩
  · obtain ⟨v, z⟩ := I.cell x c e
    exact ⟨v, cellK x c e v z⟩
  · obtain ⟨m, ⟨o, _, _, ho, _⟩, _⟩ := I.loc
    exact free _ o (fun z => (hch _ z).2.1 rfl) ho I.free
  · obtain ⟨v, o, ho, hd⟩ := I.cell x c e
    exact free c o (fun z => (hch c z).2.2.1 x c e rfl) ho (I.freeC x c e)
  · obtain ⟨e, n, ne, nf, d⟩ := I.pin p hp
    have nch : p.1 ∉ ch := fun z => (hch p.1 z).2.2.2 p hp rfl
    exact ⟨keep p.1 p.2 ne nf nch e n, free p.1 p.2 nch e n, ne, nf, d⟩
/-- .. where the frame's own object is kept too -/
theorem Inv.un {t' : Nat} (I : Inv X pins σ H s) (u : Un X.fs [] H H' s.heap h') (hok : HOk X.prog X.w H' h') : Inv X pins σ H' { s with heap := h', toks := t' } := by
  obtain ⟨m, ⟨o, es, ep, ho, r⟩, _⟩ := id I.loc
  obtain ⟨sl, hL⟩ := u.any ho I.free (by simp)
  exact I.step (g' := s.gens) (d' := s.drawn) (ch := []) (fun _ z => nomatch z) (fun b o _ hb _ e n => u.keep b o e n hb (by simp)) (fun b o _ hb _ e n => u.slot b o e n hb (by simp)) (fun b o _ e n => u.free b o e n (by simp)) (fun b o _ e => u.there b o e (by simp)) u.tups u.frzs u.tbls (fun m' hm => by
    obtain ⟨o', es', ep', ho', r'⟩ := hm
    rw [ho] at ho'; cases ho'
    exact ⟨_, es', ep', hL, r'⟩) hok I.bare
/-- behind a call (or a comprehension's block): the slots of this frame may have changed too, the records at ch may have turned -/
theorem Inv.call {g' : Array GenState} {t' : Nat} {d' : Drawn} {ch : List Addr} (I : Inv X pins σ H s) (u : Un (frs X.stack) ch H H' s.heap h') (hok : HOk X.prog X.w H' h') (hg : AllBare g')
    (hch : ∀ b ∈ ch, (b ∈ X.ex ∨ X.s₀.heap.objs.size ≤ b) ∧ b ≠ X.env.locals ∧ (∀ x c, X.env.cells.lookup x = some c → c ≠ b) ∧ ∀ p ∈ X.pn ++ pins, p.1 ≠ b) :
    Inv X pins σ H' { s with heap := h', gens := g', drawn := d', toks := t' } := by
  obtain ⟨m, ⟨o, es, ep, ho, r⟩, _⟩ := id I.loc
  obtain ⟨sl, hL⟩ := u.any ho I.free fun z => (hch _ z).2.1 rfl
  exact I.step (ch := ch) hch (fun b o hL hb hc e n => u.keep b o e n (fun z => (List.mem_cons.mp (I.stkSub b z)).elim hL hb) hc) (fun b o _ _ hc e n => u.any e n hc) (fun b o hc e n => u.free b o e n hc) (fun b o hc e => u.there b o e hc) u.tups u.frzs u.tbls (fun m' hm => by
    obtain ⟨o', es', ep', ho', r'⟩ := hm
    rw [ho] at ho'; cases ho'
    exact ⟨_, es', ep', hL, r'⟩) hok hg
/-- an untracked record of ours (an iterator) has turned -/
theorem Inv.turned {t' : Nat} {it : Addr} (I : Inv X pins σ H s) (k : ∀ b o, b ≠ it → s.heap.get? b = some o → h'.get? b = some o) (hn : H it = none) (hL : it ≠ X.env.locals)
    (h1 : it ∈ X.ex ∨ X.s₀.heap.objs.size ≤ it) (h2 : ∀ x c, X.env.cells.lookup x = some c → c ≠ it) (h3 : ∀ p ∈ X.pn ++ pins, p.1 ≠ it) : Inv X pins σ H { s with heap := h', toks := t' } := by
  have nit : ∀ b u, H b = some u → b ≠ it := fun b u e z => by rw [z, hn] at e; cases e
  refine I.step (g' := s.gens) (d' := s.drawn) (ch := [it]) (fun b hb => ?_) (fun b o _ _ hc e _ => k b o (fun z => hc (by simp [z])) e) (fun b o _ _ hc e _ => ⟨o.slots, k b o (fun z => hc (by simp [z])) e⟩) (fun _ _ _ _ n => n)
    (fun b o hc e => ⟨o, k b o (fun z => hc (by simp [z])) e⟩) (fun _ _ e => e) (fun _ _ _ e => e) (fun b ps e => ⟨#[], by rw [e]; simp⟩) (fun m hm => ?_) (fun b u e => ?_) I.bare
  · have e : b = it := by simpa using hb
    subst e
    exact ⟨h1, hL, h2, h3⟩
  · obtain ⟨o, es, ep, ho, r⟩ := hm
    exact ⟨o, es, ep, k _ o (Ne.symm hL) ho, r⟩
  · refine (I.hok b u e).stay (fun c v hc q => k c v ?_ q) (fun _ q => q) fun _ _ q => q
    rcases hc with z | z
    · rw [z]; exact nit b u e
    · exact nit c _ z
theorem Inv.tok (I : Inv X pins σ H s) (t : Nat) : Inv X pins σ H { s with toks := t } := I.un (h' := s.heap) (t' := t) Un.refl I.hok
/-- all objects kept -/
theorem Inv.kept {t' : Nat} (I : Inv X pins σ H s) (k : ∀ b u, s.heap.get? b = some u → h'.get? b = some u) : Inv X pins σ H { s with heap := h', toks := t' } := I.un (Un.kept k) (I.hok.kept k)
/-- a new object laid and tracked -/
theorem Inv.laid {a : Addr} {o : HO} {t' : Nat} (I : Inv X pins σ H s) (k : ∀ b u, s.heap.get? b = some u → h'.get? b = some u) (hp : s.heap.objs.size ≤ a) (new : ObjOk X.prog X.w (upd H a o) h' a o) :
    Inv X pins σ (upd H a o) { s with heap := h', toks := t' } := I.un (Un.laid k hp (I.hok.fresh hp)) (I.hok.laid k hp new)
/-- an object written -/
theorem Inv.write {x e : Addr} {o : HO} {t' : Nat} (I : Inv X pins σ H s) (mu : Mut (H x)) (he : e = x ∨ H e = some (.own x)) (k : ∀ b u, b ≠ e → s.heap.get? b = some u → h'.get? b = some u) (heo : ∃ u, h'.get? e = some u)
    (new : ObjOk X.prog X.w (upd H x o) h' x o) : Inv X pins σ (upd H x o) { s with heap := h', toks := t' } := I.un (Un.write mu he k heo) (I.hok.write mu he k heo new)
theorem Inv.pins_of {pins' : List (Addr × Obj)} (I : Inv X pins σ H s) (h : ∀ p ∈ pins', s.heap.get? p.1 = some p.2 ∧ H p.1 = none ∧ p.1 ≠ X.env.locals ∧ p.1 ∉ X.fs ∧ ∀ v, p.2.data ≠ .cell v) : Inv X pins' σ H s :=
  ⟨I.ok, I.os, I.bare, I.base, I.loc, I.cell, I.free, I.freeC, fun p hp => (List.mem_append.mp hp).elim (fun z => I.pin p (List.mem_append_left _ z)) (h p), I.hok, I.len⟩

theorem nodup_ix {N : List Str} (hN : N.Nodup) {i j : Nat} {x : Str} (a : N[i]? = some x) (b : N[j]? = some x) : i = j := by
  obtain ⟨h1, e1⟩ := List.getElem?_eq_some_iff.mp a
  obtain ⟨h2, e2⟩ := List.getElem?_eq_some_iff.mp b
  exact (List.getElem_inj hN).mp (e1.trans e2.symm)

/-- a name is stored; what changed -/
theorem store_ok2 {M : Model} {A : Around} {E : Value → Shared → Prop} {i : Nat} {x : Str} {v : V} {u : Value} {Q : Unit → Shared → Prop} (I : Inv X pins σ H s) (hN : X.N.Nodup) (hi : X.N[i]? = some x) (hx : Loc X.env.scope x) (r : RelV v u)
    (h : ∀ s', Inv X pins (σ.set i (some v)) H s' → (∃ a, Heap.SameBut a s.heap s'.heap ∧ (a = X.env.locals ∨ X.env.cells.lookup x = some a)) → Q () s') (hf : X.fn x = true ∨ X.env.scope.names.lookup x = some .local := by first | exact .inl rfl | exact .inr rfl | assumption) : wpAny M A (storeName X.env x u) Q E s := by
  obtain ⟨m, hn, hl⟩ := id I.loc
  have hcls : (X.env.scope.kind == .class || (X.env.scope.kind == .module && X.env.locals != X.env.globals)) = false := by rw [I.ok.kind]; rfl
  have hiσ : i < σ.length := by rw [I.len]; exact (List.getElem?_eq_some_iff.mp hi).1
  have cne := I.cne
  have tracked : ∀ {a : Addr} {h' : Heap}, (∃ o, s.heap.get? a = some o ∧ H a = none) → Heap.SameBut a s.heap h' → HOk X.prog X.w H h' := fun {a h'} ha hs b ob e => by
    obtain ⟨_, _, hfree⟩ := ha
    refine (I.hok b ob e).stay (fun c w' hc q => (hs.2 c ?_).trans q) (fun _ q => q) fun _ _ q => q
    rintro rfl
    rcases hc with rfl | hc
    · rw [hfree] at e; cases e
    · rw [hfree] at hc; cases hc
  rcases hx with hk | hk
  · refine wpAny_storeName_local hk hn (fun h' hn' hs => ?_) hcls
    obtain ⟨oL, _, _, hoL, _⟩ := id hn
    refine h _ ⟨I.ok, I.os, I.bare, ⟨fun b o e n hb hx => ?_, fun b o e n hb hx => ?_, I.base.free, fun b o e hx => ?_, I.base.tups, I.base.frzs, I.base.tbls⟩, ⟨_, hn', fun j y v' e1 e2 e3 => ?_⟩, fun y c e => ?_, I.free, I.freeC, fun p hp => ?_, tracked ⟨oL, hoL, I.free⟩ hs, by simpa using I.len⟩ ⟨_, hs, .inl rfl⟩
    · exact (hs.2 b (Nat.ne_of_lt (Nat.lt_of_lt_of_le (Heap.lt_size e) I.ok.above))).trans (I.base.keep b o e n hb hx)
    · obtain ⟨sl, e1⟩ := I.base.slot b o e n hb hx
      exact ⟨sl, (hs.2 b (Nat.ne_of_lt (Nat.lt_of_lt_of_le (Heap.lt_size e) I.ok.above))).trans e1⟩
    · obtain ⟨o', e1⟩ := I.base.there b o e hx
      exact ⟨o', (hs.2 b (Nat.ne_of_lt (Nat.lt_of_lt_of_le (Heap.lt_size e) I.ok.above))).trans e1⟩
    · by_cases hj : j = i
      · subst hj
        rw [hi] at e1; cases e1
        rw [List.getElem?_set_self hiσ] at e2
        cases e2
        exact ⟨u, r, .inl ⟨hk, by simp⟩⟩
      · rw [List.getElem?_set_ne (Ne.symm hj)] at e2
        obtain ⟨u', r', q⟩ := hl j y v' e1 e2 e3
        refine ⟨u', r', ?_⟩
        rcases q with ⟨k, e⟩ | ⟨k, c, e, z⟩
        · refine .inl ⟨k, ?_⟩
          have : y ≠ x := fun e => hj (nodup_ix hN e1 (e ▸ hi))
          simp [this, e]
        · exact .inr ⟨k, c, e, z.sameBut hs (cne y c e)⟩
    · obtain ⟨w', z⟩ := I.cell y c e
      exact ⟨w', z.sameBut hs (cne y c e)⟩
    · obtain ⟨e, n, ne, nf, d⟩ := I.pin p hp
      exact ⟨(hs.2 p.1 ne).trans e, n, ne, nf, d⟩
  · have hfn : X.fn x = true := by
      rcases hf with z | z
      · exact z
      · rw [z] at hk; cases hk
    obtain ⟨c, hc⟩ := I.ok.has x (.inl hk)
    obtain ⟨w', z⟩ := I.cell x c hc
    refine wpAny_storeName_cell I.ok.kind hk hc z (fun h' hc' hs => ?_)
    obtain ⟨oc, hoc, hocd⟩ := id z
    refine h { s with heap := h' } ⟨I.ok, I.os, I.bare, ⟨fun b o e n hb hx => ?_, fun b o e n hb hx => ?_, I.base.free, fun b o e hx => ?_, I.base.tups, I.base.frzs, I.base.tbls⟩, ⟨m, hn.sameBut hs (Ne.symm (cne x c hc)), fun j y v' e1 e2 e3 => ?_⟩, fun y c' e => ?_, I.free, I.freeC, fun p hp => ?_, tracked ⟨oc, hoc, I.freeC x c hc⟩ hs, by simpa using I.len⟩ ⟨c, hs, .inr hc⟩
    · exact (hs.2 b (Nat.ne_of_lt (Nat.lt_of_lt_of_le (Heap.lt_size e) (I.ok.cab x c hfn hc)))).trans (I.base.keep b o e n hb hx)
    · obtain ⟨sl, e1⟩ := I.base.slot b o e n hb hx
      exact ⟨sl, (hs.2 b (Nat.ne_of_lt (Nat.lt_of_lt_of_le (Heap.lt_size e) (I.ok.cab x c hfn hc)))).trans e1⟩
    · obtain ⟨o', e1⟩ := I.base.there b o e hx
      exact ⟨o', (hs.2 b (Nat.ne_of_lt (Nat.lt_of_lt_of_le (Heap.lt_size e) (I.ok.cab x c hfn hc)))).trans e1⟩
    · by_cases hj : j = i
      · subst hj
        rw [hi] at e1; cases e1
        rw [List.getElem?_set_self hiσ] at e2
        cases e2
        exact ⟨u, r, .inr ⟨.inl hk, c, hc, hc'⟩⟩
      · rw [List.getElem?_set_ne (Ne.symm hj)] at e2
        obtain ⟨u', r', q⟩ := hl j y v' e1 e2 e3
        refine ⟨u', r', ?_⟩
        rcases q with q | ⟨k, c', e, z'⟩
        · exact .inl q
        · refine .inr ⟨k, c', e, z'.sameBut hs ?_⟩
          rintro rfl
          exact hj (nodup_ix hN e1 (I.ok.inj _ _ _ e hc ▸ hi))
    · by_cases hcc : c' = c
      · subst hcc; exact ⟨_, hc'⟩
      · obtain ⟨w2, z2⟩ := I.cell y c' e
        exact ⟨w2, z2.sameBut hs hcc⟩
    · obtain ⟨e, n, ne, nf, d⟩ := I.pin p hp
      refine ⟨(hs.2 p.1 ?_).trans e, n, ne, nf, d⟩
      intro q
      rw [q, hoc] at e
      have q' : oc = p.2 := Option.some.inj e
      exact d w' (by rw [← q']; exact hocd)
theorem store_ok {M : Model} {A : Around} {E : Value → Shared → Prop} {i : Nat} {x : Str} {v : V} {u : Value} {Q : Unit → Shared → Prop} (I : Inv X pins σ H s) (hN : X.N.Nodup) (hi : X.N[i]? = some x) (hx : Loc X.env.scope x) (r : RelV v u)
    (h : ∀ s', Inv X pins (σ.set i (some v)) H s' → Q () s') (hf : X.fn x = true ∨ X.env.scope.names.lookup x = some .local := by first | exact .inl rfl | exact .inr rfl | assumption) : wpAny M A (storeName X.env x u) Q E s :=
  store_ok2 I hN hi hx r (fun s' I' _ => h s' I') hf
/-- behind a call or a block, the state as it is -/
theorem Inv.call' {s' : Shared} {ch : List Addr} (I : Inv X pins σ H s) (ho : s'.os = s.os) (u : Un (frs X.stack) ch H H' s.heap s'.heap) (hok : HOk X.prog X.w H' s'.heap) (hg : AllBare s'.gens)
    (hch : ∀ b ∈ ch, (b ∈ X.ex ∨ X.s₀.heap.objs.size ≤ b) ∧ b ≠ X.env.locals ∧ (∀ x c, X.env.cells.lookup x = some c → c ≠ b) ∧ ∀ p ∈ X.pn ++ pins, p.1 ≠ b) : Inv X pins σ H' s' := by
  obtain ⟨h', g', d', t', o'⟩ := s'
  have e : o' = s.os := ho
  subst e
  exact I.call (g' := g') (t' := t') (d' := d') u hok hg hch
end

/-! ### the judgements -/
/-- an exception: its class, its own dict's address (where it has one), the abstract heap behind it -/
abbrev XK := Value → Option Addr → Hp → Prop
abbrev St := List (Option V)
abbrev VK := V → Hp → Prop
/-- an expression's reading; a test's; an argument list's -/
abbrev TE := St → Hp → VK → Prop
abbrev TT := St → Hp → (Bool → Hp → Prop) → Prop
abbrev TA := St → Hp → (List V → Hp → Prop) → Prop
/-- what is wanted behind a statement -/
structure Ends where
  nx : St → Hp → Prop
  rt : VK
  bk : St → Hp → Prop := fun _ _ => False
  ct : St → Hp → Prop := fun _ _ => False
abbrev TS := Ends → St → Hp → Prop

def EP (X : Cx) (pins : List (Addr × Obj)) (σ : St) (Q : VK) (u : Value) (s' : Shared) : Prop := ∃ v H', Inv X pins σ H' s' ∧ RelV v u ∧ Q v H'
def TP (X : Cx) (pins : List (Addr × Obj)) (σ : St) (Q : Bool → Hp → Prop) (b : Bool) (s' : Shared) : Prop := ∃ H', Inv X pins σ H' s' ∧ Q b H'
def AP (X : Cx) (pins : List (Addr × Obj)) (σ : St) (Q : List V → Hp → Prop) (us : List Value) (s' : Shared) : Prop := ∃ vs H', Inv X pins σ H' s' ∧ Vals vs us ∧ Q vs H'
def SP (X : Cx) (pins : List (Addr × Obj)) (D : Ends) (f : Flow) (s' : Shared) : Prop :=
  match f with
  | .next => ∃ σ' H', Inv X pins σ' H' s' ∧ D.nx σ' H'
  | .brk => ∃ σ' H', Inv X pins σ' H' s' ∧ D.bk σ' H'
  | .cont => ∃ σ' H', Inv X pins σ' H' s' ∧ D.ct σ' H'
  | .ret u => ∃ v σ' H', Inv X pins σ' H' s' ∧ RelV v u ∧ D.rt v H'

def PE (X : Cx) (e : Expr) (t : TE) : Prop :=
  ∀ (pins : List (Addr × Obj)) (s : Shared) (σ : St) (H : Hp) (Q : VK), Inv X pins σ H s → t σ H Q → wpAny (model X.prog X.w) X.A (eval e X.env) (EP X pins σ Q) X.xe s
def PT (X : Cx) (e : Expr) (t : TT) : Prop :=
  ∀ (pins : List (Addr × Obj)) (s : Shared) (σ : St) (H : Hp) (Q : Bool → Hp → Prop), Inv X pins σ H s → t σ H Q → wpAny (model X.prog X.w) X.A (isTrue e X.env (eval e X.env)) (TP X pins σ Q) X.xe s
/-- a test whatever its 'whole' is (and, or) -/
def PW (X : Cx) (e : Expr) (t : TT) : Prop :=
  ∀ (whole : Sem Value) (pins : List (Addr × Obj)) (s : Shared) (σ : St) (H : Hp) (Q : Bool → Hp → Prop), Inv X pins σ H s → t σ H Q → wpAny (model X.prog X.w) X.A (isTrue e X.env whole) (TP X pins σ Q) X.xe s
theorem PW.pt {X : Cx} {e : Expr} {t : TT} (h : PW X e t) : PT X e t := h _
/-- an argument list (no star), from the left -/
def PA (X : Cx) (es : List Expr) (t : TA) : Prop :=
  ∀ (pos : Pos) (pins : List (Addr × Obj)) (s : Shared) (σ : St) (H : Hp) (Q : List V → Hp → Prop), Inv X pins σ H s → t σ H Q → wpAny (model X.prog X.w) X.A (spliced (backTo pos (starEach es X.env))) (AP X pins σ Q) X.xe s
def PS (X : Cx) (st : Stmt) (t : TS) : Prop :=
  ∀ (pins : List (Addr × Obj)) (s : Shared) (σ : St) (H : Hp) (D : Ends), Inv X pins σ H s → t D σ H → wpAny (model X.prog X.w) X.A (exec st X.env) (SP X pins D) X.xe s
def PSs (X : Cx) (st : List Stmt) (t : TS) : Prop :=
  ∀ (pins : List (Addr × Obj)) (s : Shared) (σ : St) (H : Hp) (D : Ends), Inv X pins σ H s → t D σ H → wpAny (model X.prog X.w) X.A (execs st X.env) (SP X pins D) X.xe s
/-- weaken the end -/
theorem thn {α : Type} {t : Sem α} {Q Q' : α → Shared → Prop} {M : Model} {A : Around} {E : Value → Shared → Prop} {s : Shared} (h : wpAny M A t Q E s) (hQ : ∀ a s, Q a s → Q' a s) : wpAny M A t Q' E s := wpAny_mono h hQ fun _ _ x => x
end L2

namespace L2
open PySem PySem.Spec PyProof.Rows
section
variable {X : Cx}


/-! ### names and constants -/
def tVar (i : Nat) : TE := fun σ H Q => ∃ v, σ[i]? = some (some v) ∧ Q v H
def tC (v : V) : TE := fun _ H Q => Q v H
theorem pe_var {i : Nat} {x : Str} {pos : Pos} (hN : X.N[i]? = some x) (hv : Vis X.env.scope x) (hd : (x == ("__debug__" : Str)) = false := by decide) (hcd : (x == ("__classdict__" : Str)) = false := by decide) : PE X (.Name x pos) (tVar i) := by
  intro pins s σ H Q I h
  obtain ⟨v, e, h⟩ := h
  obtain ⟨m, hn, hl⟩ := I.loc
  obtain ⟨u, r, l⟩ := hl i x v hN e hv
  have fin : EP X pins σ Q u s := ⟨v, H, I, r, h⟩
  rcases l with ⟨hk, hm⟩ | ⟨hk, c, hc, hcell⟩
  · exact wpAny_Name (wpAny_loadName_local I.ok.kind hk hn hm fin) hd
  · rcases hk with hk | hk
    · exact wpAny_Name (wpAny_loadName_cell I.ok.kind hk hc hcell fin) hd
    · exact wpAny_Name (wpAny_loadName_free I.ok.kind hk hc hcell fin hcd) hd
theorem pe_int {i j pos} : PE X (.Constant (.int i) j pos) (tC (.int i)) := fun _ _ _ H _ I h => wpAny_Constant_int ⟨.int i, H, I.tok _, ⟨_, rfl⟩, h⟩
theorem pe_bl {b j pos} : PE X (.Constant (.bool b) j pos) (tC (.bl b)) := fun _ _ _ H _ I h => Constant_bool ⟨.bl b, H, I, rfl, h⟩
theorem pe_non {j pos} : PE X (.Constant .none j pos) (tC .non) := fun _ _ _ H _ I h => Constant_none ⟨.non, H, I, rfl, h⟩
theorem pe_str {x j pos} : PE X (.Constant (.str x) j pos) (tC (.str x)) := fun _ _ _ H _ I h => Calls.Constant_str ⟨.str x, H, I.tok _, ⟨_, rfl⟩, h⟩

/-- a global name of the def -/
def Gl (X : Cx) (x : Str) : Prop := X.env.kindOf x = some .globalImplicit
theorem ld_glob {E : Value → Shared → Prop} {pins : List (Addr × Obj)} {s : Shared} {σ : St} {H : Hp} {x : Str} {u : Value} {pos : Pos} {Q : Value → Shared → Prop} (I : Inv X pins σ H s) (hg : Gl X x) (hm : X.mg x = some u) (h : Q u s)
    (hd : (x == ("__debug__" : Str)) = false := by decide) : wpAny (model X.prog X.w) X.A (eval (.Name x pos) X.env) Q E s :=
  Calls.Name_function_global I.ok.kind hg (Calls.loadGlobal_global (by rw [I.ok.glob]; exact I.mod.glob.keeps I.bk) hm h) hd
theorem ld_blt {E : Value → Shared → Prop} {pins : List (Addr × Obj)} {s : Shared} {σ : St} {H : Hp} {x : Str} {u : Value} {pos : Pos} {Q : Value → Shared → Prop} (I : Inv X pins σ H s) (hg : Gl X x) (hm : X.mg x = none) (hv : bootBuiltins x = some u) (h : Q u s)
    (hn : x ≠ "__name__" := by decide) (hd : (x == ("__debug__" : Str)) = false := by decide) : wpAny (model X.prog X.w) X.A (eval (.Name x pos) X.env) Q E s := by
  obtain ⟨mb, h1, h2⟩ := I.mod.blt
  exact Calls.Name_function_global I.ok.kind hg (Calls.loadGlobal_builtin (by rw [I.ok.glob]; exact I.mod.glob.keeps I.bk) hm (by rw [I.ok.blt]; exact h1.keeps I.bk) ((h2 x hn).trans hv) h) hd
/-- a module's constant, a class, a function, as a value -/
theorem pe_glob {x : Str} {v : V} {u : Value} {pos : Pos} (hg : Gl X x) (hm : X.mg x = some u) (r : RelV v u) (hd : (x == ("__debug__" : Str)) = false := by decide) : PE X (.Name x pos) (tC v) :=
  fun _ _ _ H _ I h => ld_glob I hg hm ⟨v, H, I, r, h⟩ hd

/-! ### arithmetic -/
variable {a b : Expr} {ta tb : TE} {pos : Pos}

/-! ### comparisons -/
def PC (X : Cx) (op : CmpOp) (a b : Expr) (t : TE) : Prop :=
  ∀ (pins : List (Addr × Obj)) (s : Shared) (σ : St) (H : Hp) (Q : VK), Inv X pins σ H s → t σ H Q →
    wpAny (model X.prog X.w) X.A (eval a X.env) (fun v s₁ => wpAny (model X.prog X.w) X.A (eval b X.env) (fun u s₂ => wpAny (model X.prog X.w) X.A (compareOp op v u) (EP X pins σ Q) X.xe s₂) X.xe s₁) X.xe s
theorem nobehind (b : Expr) {op : CmpOp} (h : op ≠ .In) (h2 : op ≠ .NotIn) : behindInMarks op b = false := by
  have e1 : (op == CmpOp.In) = false := by cases op <;> first | rfl | exact absurd rfl h
  have e2 : (op == CmpOp.NotIn) = false := by cases op <;> first | rfl | exact absurd rfl h2
  cases b <;> simp [behindInMarks, e1, e2]
/-- is None -/
def tIsN (ta : TE) : TE := fun σ H Q => ta σ H fun x H1 => Q (.bl (decide (x = .non))) H1
def tNotN (ta : TE) : TE := fun σ H Q => ta σ H fun x H1 => Q (.bl (!decide (x = .non))) H1
theorem RelV.none_iff {x : V} {v : Value} (r : RelV x v) : (v == Value.none) = decide (x = .non) := by
  cases x with
  | non => cases r; rfl
  | bl _ => cases r; rfl
  | int _ => obtain ⟨t, rfl⟩ := r; rfl
  | str _ => obtain ⟨t, rfl⟩ := r; rfl
  | byt _ => obtain ⟨t, rfl⟩ := r; rfl
  | flt _ => obtain ⟨t, rfl⟩ := r; rfl
  | ref _ => cases r; rfl
  | ty _ => cases r; rfl
theorem pc_isN {j pos'} (ha : PE X a ta) : PC X .Is a (.Constant .none j pos') (tIsN ta) := by
  intro pins s σ H Q I h
  refine thn (ha pins s σ H _ I h) fun v s1 ⟨x, H1, I1, r1, q1⟩ => ?_
  exact Constant_none (is_none_gen ⟨.bl _, H1, I1, by rw [r1.none_iff]; rfl, q1⟩)
theorem pc_notN {j pos'} (ha : PE X a ta) : PC X .IsNot a (.Constant .none j pos') (tNotN ta) := by
  intro pins s σ H Q I h
  refine thn (ha pins s σ H _ I h) fun v s1 ⟨x, H1, I1, r1, q1⟩ => ?_
  exact Constant_none (isnot_none_gen ⟨.bl _, H1, I1, by rw [r1.none_iff]; rfl, q1⟩)
/-- a comparison as a value, as a test -/
def tB (t : TE) : TT := fun σ H Q => t σ H fun x H1 => ∃ c, x = .bl c ∧ Q c H1
theorem pe_cmp {op : CmpOp} {t : TE} (h : PC X op a b t) (h1 : behindInMarks op b = false := by first | exact nobehind _ (by decide) (by decide) | rfl) : PE X (.Compare a [op] [b] pos) t := fun pins s σ H Q I hw => wpAny_Compare1 (h pins s σ H Q I hw) h1
theorem pt_cmp {op : CmpOp} {t : TE} (h : PC X op a b t) (h1 : behindInMarks op b = false := by first | exact nobehind _ (by decide) (by decide) | rfl) : PT X (.Compare a [op] [b] pos) (tB t) := by
  intro pins s σ H Q I hw
  refine wpAny_isTrue_Compare1 (thn (h pins s σ H _ I hw) fun v s1 h1 => thn h1 fun u s2 h2 => thn h2 fun c s3 ⟨x, H1, I1, r1, q1⟩ => ?_) h1
  obtain ⟨d, rfl, q⟩ := q1
  cases r1
  exact wpAny_truthy_bool ⟨H1, I1, q⟩
/-- an expression whose value is a bool, as a test -/
theorem pt_val {e : Expr} {t : TE} (h : PE X e t) (he : ∀ whole, isTrue e X.env whole = (do let v ← whole; standAt e.pos; holding [v] (truthy v)) := by intro _; rfl) : PT X e (tB t) := by
  intro pins s σ H Q I hw
  refine isTrue_plain (thn (h pins s σ H _ I hw) fun v s1 ⟨x, H1, I1, r1, q1⟩ => ?_) (he _)
  obtain ⟨d, rfl, q⟩ := q1
  cases r1
  exact wpAny_truthy_bool ⟨H1, I1, q⟩

/-! ### and, or, not -/
variable {tA tB' : TT} {rest : List Expr}
def tAnd (t u : TT) : TT := fun σ H Q => t σ H fun c H1 => if c = true then u σ H1 Q else Q false H1
def tOr (t u : TT) : TT := fun σ H Q => t σ H fun c H1 => if c = true then Q true H1 else u σ H1 Q
def tNot (t : TT) : TT := fun σ H Q => t σ H fun c H1 => Q (!c) H1
theorem pw_and1 (ha : PT X a tA) : PW X (.BoolOp .And [a] pos) tA := by
  intro wh pins s σ H Q I h
  refine isTrue_and (thn (ha pins s σ H Q I h) fun c s1 e => ?_)
  cases c with
  | true => exact isTrue_and_nil e
  | false => exact e
theorem pw_or1 (ha : PT X a tA) : PW X (.BoolOp .Or [a] pos) tA := by
  intro wh pins s σ H Q I h
  refine isTrue_or (thn (ha pins s σ H Q I h) fun c s1 e => ?_)
  cases c with
  | false => exact isTrue_or_nil e
  | true => exact e
theorem pw_and (ha : PT X a tA) (hb : PW X (.BoolOp .And (b :: rest) pos) tB') : PW X (.BoolOp .And (a :: b :: rest) pos) (tAnd tA tB') := by
  intro wh pins s σ H Q I h
  refine isTrue_and (thn (ha pins s σ H _ I h) fun c s1 ⟨H1, I1, q1⟩ => ?_)
  cases c with
  | true => exact hb wh pins s1 σ H1 Q I1 q1
  | false => exact ⟨H1, I1, q1⟩
theorem pw_or (ha : PT X a tA) (hb : PW X (.BoolOp .Or (b :: rest) pos) tB') : PW X (.BoolOp .Or (a :: b :: rest) pos) (tOr tA tB') := by
  intro wh pins s σ H Q I h
  refine isTrue_or (thn (ha pins s σ H _ I h) fun c s1 ⟨H1, I1, q1⟩ => ?_)
  cases c with
  | true => exact ⟨H1, I1, q1⟩
  | false => exact hb wh pins s1 σ H1 Q I1 q1
theorem pt_not (ha : PT X a tA) : PT X (.UnaryOp .Not a pos) (tNot tA) := by
  intro pins s σ H Q I h
  exact isTrue_not (ha pins s σ H (fun c H1 => Q (!c) H1) I h)
/-- .. as values (bools) -/
def tAndV (ta tb : TE) : TE := fun σ H Q => ta σ H fun x H1 => ∃ c, x = .bl c ∧ if c = true then tb σ H1 Q else Q (.bl false) H1
def tNotV (ta : TE) : TE := fun σ H Q => ta σ H fun x H1 => ∃ c, x = .bl c ∧ Q (.bl (!c)) H1
theorem pe_one {op} {t : TE} (h : PE X a t) : PE X (.BoolOp op [a] pos) t := fun pins s σ H Q I hw => BoolOp_one (h pins s σ H Q I hw)
theorem pe_and (ha : PE X a ta) (hb : PE X (.BoolOp .And (b :: rest) pos) tb) : PE X (.BoolOp .And (a :: b :: rest) pos) (tAndV ta tb) := by
  intro pins s σ H Q I h
  refine BoolOp_and (thn (ha pins s σ H _ I h) fun v s1 ⟨x, H1, I1, r1, q1⟩ => ?_)
  obtain ⟨c, rfl, q1⟩ := q1
  cases r1
  refine wpAny_truthy_bool ?_
  cases c with
  | true => exact hb pins s1 σ H1 Q I1 q1
  | false => exact ⟨.bl false, H1, I1, rfl, q1⟩
theorem pe_not (ha : PE X a ta) : PE X (.UnaryOp .Not a pos) (tNotV ta) := by
  intro pins s σ H Q I h
  refine UnaryOp_ (thn (ha pins s σ H _ I h) fun v s1 ⟨x, H1, I1, r1, q1⟩ => ?_)
  obtain ⟨c, rfl, q1⟩ := q1
  cases r1
  exact not_of (wpAny_truthy_bool ⟨.bl (!c), H1, I1, rfl, q1⟩)
/-- a if t else b -/
def tIf (t : TT) (ta tb : TE) : TE := fun σ H Q => t σ H fun c H1 => if c = true then ta σ H1 Q else tb σ H1 Q
theorem pe_ifExp {c : Expr} (hc : PT X c tA) (ha : PE X a ta) (hb : PE X b tb) : PE X (.IfExp c a b pos) (tIf tA ta tb) := by
  intro pins s σ H Q I h
  refine wpAny_IfExp (thn (hc pins s σ H _ I h) fun d s1 ⟨H1, I1, q1⟩ => ?_)
  cases d with
  | true => exact ha pins s1 σ H1 Q I1 q1
  | false => exact hb pins s1 σ H1 Q I1 q1
end
end L2

namespace L2
open PySem PySem.Spec PyProof.Rows

/-! ### a list, a tuple that is read: tracked, frozen, or an object of the module -/
def SqL (K : PySem.W.Frag) (H : Hp) (a : Addr) (xs : List V) : Prop :=
  Rd H a (.lst xs) ∨
    ∃ (o : Obj) (its : Array Value) (n : Nat), K.lookup a = some o ∧ o.cls = .type "list" ∧ o.dict = none ∧ o.data = .seq its n ∧ its.size ≤ sizeLine ∧ Vals xs its.toList
def SqT (K : PySem.W.Frag) (H : Hp) (a : Addr) (xs : List V) : Prop :=
  Rd H a (.tup xs) ∨
    ∃ (o : Obj) (its : Array Value) (n : Nat), K.lookup a = some o ∧ o.cls = .type "tuple" ∧ o.data = .seq its n ∧ its.size ≤ sizeLine ∧ Vals xs its.toList
def absV : Value → Option V
  | .none => some .non
  | .bool b => some (.bl b)
  | .int i _ => some (.int i)
  | .str x _ => some (.str x)
  | .bytes b _ => some (.byt b)
  | .float b _ => some (.flt b)
  | .ref a => some (.ref a)
  | .type n => some (.ty n)
  | _ => none
theorem RelV.abs {x : V} {u : Value} (r : RelV x u) : absV u = some x := by
  cases x with
  | non => cases r; rfl
  | bl _ => cases r; rfl
  | int _ => obtain ⟨t, rfl⟩ := r; rfl
  | str _ => obtain ⟨t, rfl⟩ := r; rfl
  | byt _ => obtain ⟨t, rfl⟩ := r; rfl
  | flt _ => obtain ⟨t, rfl⟩ := r; rfl
  | ref _ => cases r; rfl
  | ty _ => cases r; rfl
theorem RelV.inj {x y : V} {u : Value} (r : RelV x u) (q : RelV y u) : x = y := Option.some.inj (r.abs.symm.trans q.abs)
theorem Vals.inj : ∀ {xs ys : List V} {us : List Value}, Vals xs us → Vals ys us → xs = ys
  | _, _, _, .nil, .nil => rfl
  | _, _, _, .cons r t, .cons r' t' => by rw [r.inj r', Vals.inj t t']
section
variable {X : Cx} {pins : List (Addr × Obj)} {σ : St} {H : Hp} {s : Shared} {a : Addr} {xs ys : List V}
theorem SqL.of {K : PySem.W.Frag} (h : H a = some (.lst xs)) : SqL K H a xs := .inl (.inl h)
theorem SqT.of {K : PySem.W.Frag} (h : H a = some (.tup xs)) : SqT K H a xs := .inl (.inl h)
theorem Inv.list (I : Inv X pins σ H s) (h : SqL X.K H a xs) : ∃ its : List Value, Vals xs its ∧ PlainL s.heap a its.toArray ∧ xs.length ≤ sizeLine := by
  rcases h with h | ⟨o, its, n, hk, hc, hd, hs, hz, r⟩
  · obtain ⟨z, its, n, r, e⟩ := h.ok I.hok
    exact ⟨its, r, ⟨_, n, e, rfl, rfl, rfl⟩, z⟩
  · refine ⟨its.toList, r, ⟨o, n, I.kIn a o hk, hc, hd, by simpa using hs⟩, ?_⟩
    have e := r.length
    simp only [Array.length_toList] at e
    omega
theorem Inv.tuple (I : Inv X pins σ H s) (h : SqT X.K H a xs) : ∃ its : List Value, Vals xs its ∧ IsTup s.heap a its.toArray ∧ xs.length ≤ sizeLine := by
  rcases h with h | ⟨o, its, n, hk, hc, hs, hz, r⟩
  · obtain ⟨z, its, r, p⟩ := h.ok I.hok
    exact ⟨its, r, p, z⟩
  · refine ⟨its.toList, r, ⟨o, I.kIn a o hk, hc, n, by simpa using hs⟩, ?_⟩
    have e := r.length
    simp only [Array.length_toList] at e
    omega
theorem Inv.list_inj (I : Inv X pins σ H s) (h : SqL X.K H a xs) (h' : SqL X.K H a ys) : xs = ys := by
  obtain ⟨its, r, ⟨o, n, e, _, _, d⟩, _⟩ := I.list h
  obtain ⟨its', r', ⟨o', n', e', _, _, d'⟩, _⟩ := I.list h'
  rw [e] at e'; cases e'
  rw [d] at d'
  injection d' with d1 _
  have : its = its' := by simpa using congrArg Array.toList d1
  subst this
  exact r.inj r'
end

/-! ### another wish about exceptions -/
abbrev Cx.wish (X : Cx) (E : Value → Shared → Prop) : Cx := { X with xe := E }
/-- no exception leaves -/
abbrev Cx.nox (X : Cx) : Cx := X.wish fun _ _ => False
theorem Cx.Ok.wish {X : Cx} (ok : X.Ok) (E : Value → Shared → Prop) : (X.wish E).Ok :=
  ⟨ok.mod, ok.kind, ok.glob, ok.blt, ok.above, ok.inj, ok.has, ok.cab, ok.hd, ok.frames, ok.stk, ok.exf, ok.bs, ok.bsz, ok.noex, ok.exfs, ok.funs, ok.frf⟩
theorem Cx.Ok.unwish {X : Cx} {E : Value → Shared → Prop} (ok : (X.wish E).Ok) : X.Ok :=
  ⟨ok.mod, ok.kind, ok.glob, ok.blt, ok.above, ok.inj, ok.has, ok.cab, ok.hd, ok.frames, ok.stk, ok.exf, ok.bs, ok.bsz, ok.noex, ok.exfs, ok.funs, ok.frf⟩
section
variable {X : Cx} {pins : List (Addr × Obj)} {σ : St} {H : Hp} {s : Shared} {E : Value → Shared → Prop}
theorem Inv.wish (I : Inv X pins σ H s) (E : Value → Shared → Prop) : Inv (X.wish E) pins σ H s := ⟨I.ok.wish E, I.os, I.bare, I.base, I.loc, I.cell, I.free, I.freeC, I.pin, I.hok, I.len⟩
theorem Inv.unwish (I : Inv (X.wish E) pins σ H s) : Inv X pins σ H s := ⟨I.ok.unwish, I.os, I.bare, I.base, I.loc, I.cell, I.free, I.freeC, I.pin, I.hok, I.len⟩
theorem SP.unwish {D : Ends} {f : Flow} {s' : Shared} (h : SP (X.wish E) pins D f s') : SP X pins D f s' := by
  cases f with
  | next => obtain ⟨σ', H', I, q⟩ := h; exact ⟨σ', H', I.unwish, q⟩
  | brk => obtain ⟨σ', H', I, q⟩ := h; exact ⟨σ', H', I.unwish, q⟩
  | cont => obtain ⟨σ', H', I, q⟩ := h; exact ⟨σ', H', I.unwish, q⟩
  | ret u => obtain ⟨v, σ', H', I, r, q⟩ := h; exact ⟨v, σ', H', I.unwish, r, q⟩
theorem PSs.nox {st : List Stmt} {t : TS} (h : PSs X.nox st t) : PSs X st t := fun pins s σ H D I hw =>
  wpAny_mono (h pins s σ H D (I.wish _) hw) (fun _ _ q => q.unwish) fun _ _ z => False.elim z
end

/-! ### blocks and small statements -/
section
variable {X : Cx} {st : Stmt} {rest : List Stmt} {t u : TS} {e : Expr} {te : TE} {pos : Pos}
def tNext : TS := fun D σ H => D.nx σ H
def tSeq (t u : TS) : TS := fun D σ H => t { D with nx := u D } σ H
theorem pss_nil : PSs X [] tNext := fun _ _ σ H _ I h => wpAny_execs_nil ⟨σ, H, I, h⟩
theorem pss_cons (h1 : PS X st t) (h2 : PSs X rest u) : PSs X (st :: rest) (tSeq t u) := by
  intro pins s σ H D I h
  refine wpAny_execs_cons (thn (h1 pins s σ H { D with nx := u D } I h) fun f s1 q => ?_)
  cases f with
  | next =>
    obtain ⟨σ', H', I', q⟩ := q
    exact h2 pins s1 σ' H' D I' q
  | ret v => exact q
  | brk => exact q
  | cont => exact q
theorem pss_one (h1 : PS X st t) : PSs X [st] t := by
  intro pins s σ H D I h
  refine wpAny_execs_cons (thn (h1 pins s σ H D I h) fun f s1 q => ?_)
  cases f with
  | next => exact wpAny_execs_nil q
  | ret v => exact q
  | brk => exact q
  | cont => exact q
/-- in a def's body nothing is shown -/
theorem Inv.quiet {pins : List (Addr × Obj)} {σ : St} {H : Hp} {s : Shared} (I : Inv X pins σ H s) : interactive X.env = false := by simp [interactive, I.ok.kind]
/-- an expression whose value is dropped -/
def tDrop (te : TE) : TS := fun D σ H => te σ H fun _ H1 => D.nx σ H1
theorem ps_expr (he : PE X e te) (hs : swapsWith e none pos.line X.env = pure false := by rfl) : PS X (.Expr e pos) (tDrop te) := by
  intro pins s σ H D I h
  exact wpAny_Expr_any (thn (he pins s σ H _ I h) fun v s1 ⟨x, H1, I1, r1, q1⟩ => ⟨σ, H1, I1, q1⟩) I.quiet hs
def tRet (te : TE) : TS := fun D σ H => te σ H D.rt
theorem ps_ret (he : PE X e te) : PS X (.Return (some e) pos) (tRet te) := by
  intro pins s σ H D I h
  exact wpAny_Return_some (thn (he pins s σ H _ I h) fun v s1 ⟨x, H1, I1, r1, q1⟩ => ⟨x, σ, H1, I1, r1, q1⟩)
def tIfS (c : TT) (t u : TS) : TS := fun D σ H => c σ H fun b H1 => if b = true then t D σ H1 else u D σ H1
theorem ps_if {c : Expr} {a b : List Stmt} {tc : TT} (hc : PT X c tc) (ha : PSs X a t) (hb : PSs X b u) : PS X (.If c a b pos) (tIfS tc t u) := by
  intro pins s σ H D I h
  refine wpAny_If (thn (hc pins s σ H _ I h) fun d s1 ⟨H1, I1, q1⟩ => ?_)
  cases d with
  | true => exact ha pins s1 σ H1 D I1 q1
  | false => exact hb pins s1 σ H1 D I1 q1
end

/-! ### targets -/
abbrev TG := V → St → Hp → (St → Hp → Prop) → Prop
abbrev TGs := List V → St → Hp → (St → Hp → Prop) → Prop
def PG (X : Cx) (target : Expr) (t : TG) : Prop :=
  ∀ (pins : List (Addr × Obj)) (s : Shared) (σ : St) (H : Hp) (v : V) (u : Value) (Q : St → Hp → Prop), Inv X pins σ H s → RelV v u → t v σ H Q →
    wpAny (model X.prog X.w) X.A (assign target X.env u) (fun _ s' => ∃ σ' H', Inv X pins σ' H' s' ∧ Q σ' H') X.xe s
/-- several targets, one after another -/
def PGs (X : Cx) (ts : List Expr) (t : TGs) : Prop :=
  ∀ (pins : List (Addr × Obj)) (s : Shared) (σ : St) (H : Hp) (vs : List V) (us : List Value) (Q : St → Hp → Prop), Inv X pins σ H s → Vals vs us → t vs σ H Q →
    wpAny (model X.prog X.w) X.A (assignInOrder ((assignEach ts X.env).map (·.2)) us) (fun _ s' => ∃ σ' H', Inv X pins σ' H' s' ∧ Q σ' H') X.xe s
/-- o[i] = v, by values -/
abbrev TSet := V → V → V → Hp → (Hp → Prop) → Prop
def PSet (X : Cx) (t : TSet) : Prop :=
  ∀ (pins : List (Addr × Obj)) (s : Shared) (σ : St) (H : Hp) (o i v : V) (ov iv u : Value) (Q : Hp → Prop), Inv X pins σ H s → RelV o ov → RelV i iv → RelV v u → t o i v H Q →
    wpAny (model X.prog X.w) X.A (setItem ov iv u) (fun _ s' => ∃ H', Inv X pins σ H' s' ∧ Q H') X.xe s
section
variable {X : Cx} {pos : Pos}
def gName (i : Nat) : TG := fun v σ H Q => Q (σ.set i (some v)) H
theorem pg_name {i : Nat} {x : Str} (hN : X.N.Nodup) (hi : X.N[i]? = some x) (hx : Loc X.env.scope x) (hf : X.fn x = true ∨ X.env.scope.names.lookup x = some .local := by first | exact .inl rfl | exact .inr rfl | assumption) : PG X (.Name x pos) (gName i) := by
  intro pins s σ H v u Q I r h
  exact wpAny_assign_Name (store_ok I hN hi hx r (fun s' I' => ⟨_, H, I', h⟩) hf)
def gNil : TGs := fun vs σ H Q => vs = [] ∧ Q σ H
def gCons (t : TG) (u : TGs) : TGs := fun vs σ H Q => ∃ v r, vs = v :: r ∧ t v σ H fun σ' H' => u r σ' H' Q
theorem pgs_nil : PGs X [] gNil := by
  intro pins s σ H vs us Q I r h
  obtain ⟨e, h⟩ := h
  subst e
  cases r
  exact assignInOrder_nil ⟨σ, H, I, h⟩
theorem pgs_cons {e : Expr} {es : List Expr} {t : TG} {u : TGs} (h1 : PG X e t) (h2 : PGs X es u)
    (hs : (assignEach (e :: es) X.env).map (·.2) = assign e X.env :: (assignEach es X.env).map (·.2) := by rfl) : PGs X (e :: es) (gCons t u) := by
  intro pins s σ H vs us Q I r h
  obtain ⟨v, vr, e1, h⟩ := h
  subst e1
  cases r with
  | cons r rr =>
    rw [hs]
    refine assignInOrder_cons (thn (h1 pins s σ H _ _ _ I r h) fun _ s1 ⟨σ1, H1, I1, q1⟩ => ?_)
    exact h2 pins s1 σ1 H1 _ _ Q I1 rr q1
/-- (a, b, ..) = a tuple of that length -/
def gTup (K : PySem.W.Frag) (n : Nat) (t : TGs) : TG := fun v σ H Q => ∃ a xs, v = .ref a ∧ SqT K H a xs ∧ xs.length = n ∧ t xs σ H Q
theorem pg_tup {es : List Expr} {k : Nat} {t : TGs} {n : Nat} (hc : X.calm = true) (h : PGs X es t)
    (hn : (assignEach es X.env).length = n := by rfl) (hst : (assignEach es X.env).findIdx? (·.1) = none := by rfl) : PG X (.Tuple es k pos) (gTup X.K n t) := by
  intro pins s σ H v u Q I r hw
  obtain ⟨a, xs, e1, hq, hl, hw⟩ := hw
  subst e1
  cases r
  obtain ⟨its, rv, ht, hz⟩ := I.tuple hq
  refine assign_Tuple_tuple (I.ok.hd hc) ht (by simp [hn, ← hl, rv.length]) hst fun h' hx => ?_
  have I1 : Inv X pins σ H { s with heap := h' } := I.kept (t' := s.toks) fun b o e => hx b o (Nat.ne_of_lt (Heap.lt_size e)) e
  exact h pins _ σ H xs _ Q I1 (by simpa using rv) hw
/-- o[i] = .. -/
def gSub (to ti : TE) (t : TSet) : TG := fun v σ H Q => to σ H fun o H1 => ti σ H1 fun i H2 => t o i v H2 fun H3 => Q σ H3
theorem pg_sub {o i : Expr} {to ti : TE} {t : TSet} (ho : PE X o to) (hi : PE X i ti) (hs : PSet X t)
    (ha : ∀ v, assign (.Subscript o i pos) X.env v = (do
      let ov ← holding [v] (eval o X.env)
      let iv ← holding [v, ov] (eval i X.env)
      standAt pos
      holding [v, ov, iv] (setItem ov iv v)
      release [v, ov, iv] []) := by intro _; rfl) : PG X (.Subscript o i pos) (gSub to ti t) := by
  intro pins s σ H v u Q I r h
  rw [ha]
  refine wpAny_bind (wpAny_holding (thn (ho pins s σ H _ I h) fun ov s1 ⟨x, H1, I1, r1, q1⟩ => ?_))
  refine wpAny_bind (wpAny_holding (thn (hi pins s1 σ H1 _ I1 q1) fun iv s2 ⟨y, H2, I2, r2, q2⟩ => ?_))
  refine wpAny_bind (wpAny_standAt (wpAny_bind (wpAny_holding (thn (hs pins s2 σ H2 x y v ov iv u _ I2 r1 r2 r q2) fun _ s3 ⟨H3, I3, q3⟩ => ?_))))
  exact wpAny_release ⟨σ, H3, I3, q3⟩
/-- target = value -/
def tAsg (te : TE) (g : TG) : TS := fun D σ H => te σ H fun x H1 => g x σ H1 D.nx
theorem ps_asg {tg e : Expr} {te : TE} {g : TG} (he : PE X e te) (hg : PG X tg g) (hs : swapsWithSole [tg] e pos.line X.env = pure false := by rfl) (hw : swappedStores [tg] e X.env = pure none := by rfl)
    (h1 : (assignEach [tg] X.env).map (·.2) = [assign tg X.env] := by rfl) : PS X (.Assign [tg] e pos) (tAsg te g) := by
  intro pins s σ H D I h
  refine wpAny_Assign_stores (thn (he pins s σ H _ I h) fun v s1 ⟨x, H1, I1, r1, q1⟩ => ?_) hs hw
  rw [h1]
  exact thn (hg pins s1 σ H1 x v _ I1 r1 q1) fun _ s2 q => q
/-- name = value -/
theorem ps_set {i : Nat} {x : Str} {e : Expr} {te : TE} {pos' : Pos} (hN : X.N.Nodup) (hi : X.N[i]? = some x) (hx : Loc X.env.scope x) (he : PE X e te) (hs : swapsWith e (some (.Name x pos')) pos.line X.env = pure false := by rfl) (hf : X.fn x = true ∨ X.env.scope.names.lookup x = some .local := by first | exact .inl rfl | exact .inr rfl | assumption) :
    PS X (.Assign [.Name x pos'] e pos) (tAsg te (gName i)) := by
  intro pins s σ H D I h
  refine wpAny_Assign_Name (thn (he pins s σ H _ I h) fun v s1 ⟨y, H1, I1, r1, q1⟩ => ?_) hs
  exact store_ok I1 hN hi hx r1 (fun s2 I2 => ⟨_, H1, I2, q1⟩) hf
end

/-! ### while -/
section
variable {X : Cx} {pos : Pos}
end

/-! ### what a loop or a comprehension walks -/
/-- at turn i: it yields x (the heap may grow), or it stops -/
structure It where
  go : Nat → Hp → Prop
  yld : Nat → Hp → V → Hp → Prop
  stop : Nat → Hp → Prop
/-- the iterator's own objects may turn: they are not the frame's, not pinned, younger than the entry (or a comprehension's own) -/
def FpOk (X : Cx) (pins : List (Addr × Obj)) (H : Hp) (b : Addr) : Prop :=
  H b = none ∧ b ≠ X.env.locals ∧ b ∉ X.fs ∧ (b ∈ X.ex ∨ X.s₀.heap.objs.size ≤ b) ∧ (∀ x c, X.env.cells.lookup x = some c → c ≠ b) ∧ ∀ p ∈ X.pn ++ pins, p.1 ≠ b
theorem Inv.fpOk {X : Cx} {pins : List (Addr × Obj)} {σ : St} {H H' : Hp} {s : Shared} {b : Addr} (I : Inv X pins σ H s) (hb : s.heap.objs.size ≤ b) (hn : H' b = none) : FpOk X pins H' b := by
  refine ⟨hn, Nat.ne_of_gt (Nat.lt_of_lt_of_le I.lt hb), I.nofs hb, .inr (Nat.le_trans I.sz hb), fun x c e z => ?_, fun p hp z => ?_⟩
  · obtain ⟨v, q⟩ := I.cell x c e
    exact absurd (Nat.lt_of_lt_of_le q.lt (by rw [z]; exact hb)) (Nat.lt_irrefl _)
  · exact absurd (Nat.lt_of_lt_of_le (Heap.lt_size (I.pin p hp).1) (by rw [z]; exact hb)) (Nat.lt_irrefl _)
structure Turn (P : Program) (w : World) (K : PySem.W.Frag) (tg : Expr) (J : It) (fp : List Addr) (it : Addr) (tn : Nat → Heap → Prop) : Prop where
  mem : it ∈ fp
  obj : ∀ i h, tn i h → ∀ b ∈ fp, ∃ o, h.get? b = some o ∧ ∀ v, o.data ≠ .cell v
  keep : ∀ i h h', tn i h → (∀ b ∈ fp, ∀ o, h.get? b = some o → h'.get? b = some o) → tn i h'
  item : ∀ (X : Cx), X.prog = P → X.w = w → X.K = K → X.calm = true → ∀ (i : Nat) (pins : List (Addr × Obj)) (s : Shared) (σ : St) (H : Hp) (E : Value → Shared → Prop), Inv X pins σ H s → (∀ b ∈ fp, FpOk X pins H b) → tn i s.heap → J.go i H →
    wpAny (model P w) X.A (pyNext (.ref it)) (fun r s1 => ∃ u, r = some u ∧
      wpAny (model P w) X.A (letOwnedTupleGo tg (.ref it) u) (fun _ s2 => ∃ x H', Inv X pins σ H' s2 ∧ RelV x u ∧ J.yld i H x H' ∧ tn (i + 1) s2.heap ∧ ∀ b ∈ fp, H' b = none) E s1) E s
  done : ∀ (X : Cx), X.prog = P → X.w = w → X.K = K → X.calm = true → ∀ (i : Nat) (pins : List (Addr × Obj)) (s : Shared) (σ : St) (H : Hp) (E : Value → Shared → Prop), Inv X pins σ H s → (∀ b ∈ fp, FpOk X pins H b) → tn i s.heap → J.stop i H →
    wpAny (model P w) X.A (pyNext (.ref it)) (fun r s1 => r = none ∧ Inv X pins σ H s1) E s
  self : ∀ (A : Around) (i : Nat) (s : Shared) (Q : Value → Shared → Prop) (E : Value → Shared → Prop), tn i s.heap → Q (.ref it) s → wpAny (model P w) A (pyIter (.ref it)) Q E s
abbrev TI := St → Hp → (It → Hp → Prop) → Prop
/-- an iterator has come -/
def PIE (X : Cx) (pins : List (Addr × Obj)) (σ : St) (tg : Expr) (R : It → Hp → Prop) (itv : Value) (s2 : Shared) : Prop :=
  ∃ (it : Addr) (fp : List Addr) (tn : Nat → Heap → Prop) (J : It) (H' : Hp), itv = .ref it ∧ Inv X pins σ H' s2 ∧ Turn X.prog X.w X.K tg J fp it tn ∧ tn 0 s2.heap ∧ (∀ b ∈ fp, FpOk X pins H' b) ∧ R J H'
def PI (X : Cx) (tg iter : Expr) (wi : TI) : Prop :=
  ∀ (pins : List (Addr × Obj)) (s : Shared) (σ : St) (H : Hp) (R : It → Hp → Prop), Inv X pins σ H s → wi σ H R →
    wpAny (model X.prog X.w) X.A (eval iter X.env) (fun v s1 => wpAny (model X.prog X.w) X.A (pyIter v) (PIE X pins σ tg R) X.xe s1) X.xe s

/-- the step ahead of the store is nothing for an iterator that keeps no tuple -/
theorem go_of {M : Model} {A : Around} {E : Value → Shared → Prop} {s : Shared} {tg : Expr} {it : Addr} {u : Value} {o : Obj} {n : String} {vs : Array Value} {Q : Unit → Shared → Prop} (ho : s.heap.get? it = some o) (hc : o.cls = .type n) (hd : o.data = .fields vs)
    (hn : ["enumerate", "zip", "dict_itemiterator", "dict_reverseitemiterator", "odict_iterator", "itertools.zip_longest", "itertools.pairwise"].contains n = false) (hQ : Q () s) : wpAny M A (letOwnedTupleGo tg (.ref it) u) Q E s := by
  unfold letOwnedTupleGo
  cases tg <;> first
    | exact wpAny_pure hQ
    | (cases u <;> first
        | exact wpAny_pure hQ
        | (refine wpAny_bind (wpAny_load ho ?_)
           rw [hc, hd]
           show wpAny M A (if (["enumerate", "zip", "dict_itemiterator", "dict_reverseitemiterator", "odict_iterator", "itertools.zip_longest", "itertools.pairwise"].contains n && vs[0]? == some (rawInt _)) = true then _ else _) Q E s
           rw [if_neg (by intro h; rw [hn, Bool.false_and] at h; cases h)]
           exact wpAny_pure hQ))

/-- the list at a, as it stands at each turn (a loop may append to it) -/
def Itl (K : PySem.W.Frag) (a : Addr) : It :=
  ⟨fun i H => ∃ xs x, SqL K H a xs ∧ xs[i]? = some x, fun i H x H' => H' = H ∧ ∀ xs, SqL K H a xs → xs[i]? = some x, fun i H => ∃ xs, SqL K H a xs ∧ xs.length ≤ i⟩
/-- lo, lo + 1, .. (n of them) -/
def Itr (lo : Int) (n : Nat) : It := ⟨fun i _ => i < n, fun i H x H' => H' = H ∧ x = .int (lo + i), fun i _ => n ≤ i⟩
theorem turn_list {P : Program} {w : World} {K : PySem.W.Frag} {tg : Expr} (a it : Addr) : Turn P w K tg (Itl K a) [it] it (fun i h => h.IsListIter it a i) where
  mem := by simp
  obj := fun i h st b hb => by
    have e : b = it := by simpa using hb
    subst e
    obtain ⟨o, e, c, d⟩ := st
    exact ⟨o, e, fun v z => by rw [d] at z; cases z⟩
  keep := fun i h h' st k => st.at fun o e => k it (by simp) o e
  item := by
    intro X hP hw hK hc i pins s σ H E I hf st hg
    subst hP hw hK
    obtain ⟨xs, x, hq, hx⟩ := hg
    obtain ⟨its, rv, p, hz⟩ := I.list hq
    obtain ⟨u, hu, ru⟩ := rv.get hx
    obtain ⟨f0, f1, f2, f3, f4, f5⟩ := hf it (by simp)
    refine wpAny_pyNext_list_item st p.isList (x := u) (by simpa using hu) fun h' st' sb => ?_
    have I1 : Inv X pins σ H { s with heap := h' } := I.turned (t' := s.toks) (fun b o hb e => (sb.2 b hb).trans e) f0 f1 f3 f4 f5
    obtain ⟨o, e, c, d⟩ := id st'
    exact ⟨u, rfl, go_of (s := { s with heap := h' }) e c d (by decide) ⟨x, H, I1, ru, ⟨rfl, fun ys hy => by rw [I.list_inj hy hq]; exact hx⟩, st', fun b hb => (hf b hb).1⟩⟩
  done := by
    intro X hP hw hK hc i pins s σ H E I hf st hg
    subst hP hw hK
    obtain ⟨xs, hq, hx⟩ := hg
    obtain ⟨its, rv, p, hz⟩ := I.list hq
    obtain ⟨f0, f1, f2, f3, f4, f5⟩ := hf it (by simp)
    have hl := rv.length
    exact wpAny_pyNext_list_end (I.ok.hd hc) st p.isList (by simp; omega) fun h' eb => ⟨rfl, I.turned (t' := s.toks) (fun b o hb e => eb b o hb e) f0 f1 f3 f4 f5⟩
  self := fun _ _ _ _ _ st h => wpAny_pyIter_listiter st h
theorem turn_range {P : Program} {w : World} {K : PySem.W.Frag} {tg : Expr} (it : Addr) (lo : Int) (n : Nat) : Turn P w K tg (Itr lo n) [it] it (fun i h => IsRangeIter h it (lo + (i : Nat) * 1) ((n : Int) - (i : Nat)) 1) where
  mem := by simp
  obj := fun i h st b hb => by
    have e : b = it := by simpa using hb
    subst e
    exact ⟨_, st, fun v z => by
      have z' : Data.fields _ = Data.cell v := z
      cases z'⟩
  keep := fun i h h' st k => k it (by simp) _ st
  item := by
    intro X hP hw hK hc i pins s σ H E I hf st hg
    subst hP hw hK
    obtain ⟨f0, f1, f2, f3, f4, f5⟩ := hf it (by simp)
    have W := Walks.range (prog := X.prog) (w := X.w) (I.ok.hd hc) it lo 1 n
    refine W.item i s _ _ hg st fun v h' tk hv st' kk => ?_
    obtain ⟨t, rfl⟩ := hv
    have I1 : Inv X pins σ H { s with heap := h', toks := tk } := I.turned (fun b o hb e => kk b o (by simpa using hb) e) f0 f1 f3 f4 f5
    refine ⟨_, rfl, go_of (s := { s with heap := h', toks := tk }) (n := "range_iterator") st' rfl rfl (by decide) ⟨.int (lo + i), H, I1, ⟨t, ?_⟩, ⟨rfl, rfl⟩, st', fun b hb => (hf b hb).1⟩⟩
    rw [Int.mul_one]
  done := by
    intro X hP hw hK hc i pins s σ H E I hf st hg
    subst hP hw hK
    obtain ⟨f0, f1, f2, f3, f4, f5⟩ := hf it (by simp)
    exact wpAny_pyNext_range_end (I.ok.hd hc) st (by have : n ≤ i := hg; omega) fun h' eb => ⟨rfl, I.turned (t' := s.toks) (fun b o hb e => eb b o hb e) f0 f1 f3 f4 f5⟩
  self := fun _ _ _ _ _ st h => wpAny_pyIter_rangeiter st h
end L2

namespace L2
open PySem PySem.Spec PyProof.Rows
section
variable {X : Cx} {tg : Expr}
def iList (K : PySem.W.Frag) (tl : TE) : TI := fun σ H R => tl σ H fun x H1 => ∃ a, x = .ref a ∧ (∃ xs, SqL K H1 a xs) ∧ R (Itl K a) H1
theorem pi_list {l : Expr} {tl : TE} (hl : PE X l tl) : PI X tg l (iList X.K tl) := by
  intro pins s σ H R I h
  refine thn (hl pins s σ H _ I h) fun v s1 ⟨x, H1, I1, r1, q1⟩ => ?_
  obtain ⟨a, e, ⟨xs, hq⟩, q⟩ := q1
  subst e
  cases r1
  obtain ⟨its, rv, p, hz⟩ := I1.list hq
  refine wpAny_pyIter_list p.isList ?_
  refine ⟨s1.heap.objs.size, [s1.heap.objs.size], _, _, H1, rfl, I1.kept (t' := s1.toks) fun b o e => Heap.get?_push_of_some _ e, turn_list a _, ⟨_, Heap.get?_push_size _ rfl, rfl, rfl⟩, fun b hb => ?_, q⟩
  have e : b = s1.heap.objs.size := by simpa using hb
  subst e
  exact I1.fpOk (Nat.le_refl _) (I1.hok.fresh (Nat.le_refl _))
/-- a range object just made, walked -/
theorem range_it {pins : List (Addr × Obj)} {σ : St} {H : Hp} {s : Shared} {R : It → Hp → Prop} {E : Value → Shared → Prop} {lo hi : Int} {t u v : Tok} {tk : Nat} (I : Inv X pins σ H s) (h1 : -(2 ^ 62) ≤ lo) (h2 : lo < 2 ^ 62) (h3 : -(2 ^ 62) ≤ hi) (h4 : hi < 2 ^ 62)
    (q : R (Itr lo (hi - lo).toNat) H) : wpAny (model X.prog X.w) X.A (pyIter (.ref s.heap.objs.size)) (PIE X pins σ tg R) E { s with heap := s.heap.push { cls := .type "range", data := .fields #[.int lo t, .int hi u, .int 1 v] }, toks := tk } := by
  refine wpAny_pyIter_range (IsRange.new ..) (small_one h1 h2 h3 h4) ?_
  have I1 : Inv X pins σ H { s with heap := s.heap.push { cls := .type "range", data := .fields #[.int lo t, .int hi u, .int 1 v] }, toks := tk } := I.kept fun b o e => Heap.get?_push_of_some _ e
  refine ⟨(s.heap.push { cls := .type "range", data := .fields #[.int lo t, .int hi u, .int 1 v] }).objs.size, [(s.heap.push { cls := .type "range", data := .fields #[.int lo t, .int hi u, .int 1 v] }).objs.size], _, _, H, rfl,
    I1.kept (t' := tk) fun b o e => Heap.get?_push_of_some _ e, turn_range _ lo (hi - lo).toNat, ?_, fun b hb => ?_, q⟩
  · have e1 : lo + ((0 : Nat) : Int) * 1 = lo := by simp
    have e2 : (((hi - lo).toNat : Nat) : Int) - ((0 : Nat) : Int) = Builtin.Range.rangeSize lo hi 1 := by rw [rangeSize_one]; split <;> omega
    show IsRangeIter _ _ (lo + ((0 : Nat) : Int) * 1) ((((hi - lo).toNat : Nat) : Int) - ((0 : Nat) : Int)) 1
    rw [e1, e2]
    exact Heap.get?_push_size _ rfl
  · have e : b = (s.heap.push { cls := .type "range", data := .fields #[.int lo t, .int hi u, .int 1 v] }).objs.size := by simpa using hb
    subst e
    exact I1.fpOk (Nat.le_refl _) (I1.hok.fresh (Nat.le_refl _))
def iRng1 (ta : TA) : TI := fun σ H R => ta σ H fun vs H1 => ∃ j : Int, vs = [.int j] ∧ -(2 ^ 62) ≤ j ∧ j < 2 ^ 62 ∧ R (Itr 0 j.toNat) H1
def iRng2 (ta : TA) : TI := fun σ H R => ta σ H fun vs H1 => ∃ i j : Int, vs = [.int i, .int j] ∧ (-(2 ^ 62) ≤ i ∧ i < 2 ^ 62 ∧ -(2 ^ 62) ≤ j ∧ j < 2 ^ 62) ∧ R (Itr i (j - i).toNat) H1
theorem pi_range1 {a : Expr} {ta : TA} {p pos : Pos} (hg : Gl X "range") (hm : X.mg "range" = none) (ha : PA X [a] ta) (hs : starEach [a] X.env = [(false, eval a X.env)] := by rfl) : PI X tg (.Call (.Name "range" p) [a] [] pos) (iRng1 ta) := by
  intro pins s σ H R I h
  refine Call_ (ld_blt I hg hm boot_range (PyProof.Rows.callWith_type1 (thn (ha pos pins s σ H _ I h) fun us s1 ⟨vs, H1, I1, r1, q1⟩ => ?_) hs rfl))
  obtain ⟨j, e, q1, q2, q⟩ := q1
  subst e
  cases r1 with
  | cons r rr =>
    cases rr
    obtain ⟨t, rfl⟩ := r
    exact call_range_1 (range_it I1 (by omega) (by omega) q1 q2 (by simpa using q))
theorem pi_range2 {a b : Expr} {ta : TA} {p pos : Pos} (hg : Gl X "range") (hm : X.mg "range" = none) (ha : PA X [a, b] ta) (hs : starEach [a, b] X.env = [(false, eval a X.env), (false, eval b X.env)] := by rfl) (hs2 : starEach [b] X.env = [(false, eval b X.env)] := by rfl) :
    PI X tg (.Call (.Name "range" p) [a, b] [] pos) (iRng2 ta) := by
  intro pins s σ H R I h
  refine Call_ (ld_blt I hg hm boot_range (PyProof.Rows.callWith_type1 (thn (ha pos pins s σ H _ I h) fun us s1 ⟨vs, H1, I1, r1, q1⟩ => ?_) (by rw [hs, hs2]) (by rw [hs2]; rfl)))
  obtain ⟨i, j, e, ⟨q1, q2, q3, q4⟩, q⟩ := q1
  subst e
  cases r1 with
  | cons r rr =>
    cases rr with
    | cons r' rr =>
      cases rr
      obtain ⟨t, rfl⟩ := r
      obtain ⟨t', rfl⟩ := r'
      exact call_range_2 (range_it I1 q1 q2 q3 q4 q)

/-! ### for -/
/-- W: the invariant by the turn and a measure; N: what the body is to reach -/
def tFor (wi : TI) (g : TG) (tb : TS) : TS := fun D σ H => wi σ H fun J H1 => ∃ W : Nat → Nat → St → Hp → Prop, (∃ m, W 0 m σ H1) ∧ ∀ i m σ H, W i m σ H →
  (J.stop i H ∧ D.nx σ H) ∨ (J.go i H ∧ ∃ N : St → Hp → Prop, (∀ σ' H', N σ' H' → ∃ m', m' < m ∧ W (i + 1) m' σ' H') ∧ ∀ x H', J.yld i H x H' → g x σ H' fun σ2 H2 => tb { D with nx := N, ct := N, bk := D.nx } σ2 H2)
/-- the records at fp as they stand -/
def pinsAt (fp : List Addr) (h : Heap) : List (Addr × Obj) := fp.filterMap fun b => (h.get? b).map fun o => (b, o)
theorem mem_pinsAt {fp : List Addr} {h : Heap} {b : Addr} {o : Obj} (hb : b ∈ fp) (e : h.get? b = some o) : (b, o) ∈ pinsAt fp h := List.mem_filterMap.mpr ⟨b, hb, by rw [e]; rfl⟩
theorem of_pinsAt {fp : List Addr} {h : Heap} {p : Addr × Obj} (hp : p ∈ pinsAt fp h) : p.1 ∈ fp ∧ h.get? p.1 = some p.2 := by
  obtain ⟨b, hb, e⟩ := List.mem_filterMap.mp hp
  cases q : h.get? b with
  | none => rw [q] at e; cases e
  | some o =>
    rw [q] at e
    have e' : (b, o) = p := Option.some.inj e
    subst e'
    exact ⟨hb, q⟩
theorem Inv.pinned {pins : List (Addr × Obj)} {σ : St} {H : Hp} {s : Shared} {fp : List Addr} (I : Inv X pins σ H s) (hf : ∀ b ∈ fp, FpOk X pins H b) (ho : ∀ b ∈ fp, ∃ o, s.heap.get? b = some o ∧ ∀ v, o.data ≠ .cell v) : Inv X (pins ++ pinsAt fp s.heap) σ H s :=
  I.pins_of fun p hp => (List.mem_append.mp hp).elim (fun z => I.pin p (List.mem_append_right _ z)) fun z => by
    obtain ⟨hb, e⟩ := of_pinsAt z
    obtain ⟨f0, f1, f2, _⟩ := hf p.1 hb
    obtain ⟨o, e', d⟩ := ho p.1 hb
    rw [e] at e'; cases e'
    exact ⟨e, f0, f1, f2, d⟩
theorem Inv.unpinned {pins pl : List (Addr × Obj)} {σ : St} {H : Hp} {s : Shared} (I : Inv X (pins ++ pl) σ H s) : Inv X pins σ H s := I.pins_of fun p hp => I.pin p (List.mem_append_right _ (List.mem_append_left _ hp))
theorem ps_for {iter : Expr} {body : List Stmt} {wi : TI} {g : TG} {tb : TS} {pos : Pos} (hp : PassesOwn (model X.prog X.w) X.A X.env X.xe) (hc : X.calm = true) (hi : PI X tg iter wi) (hg : PG X tg g) (hb : PSs X body tb)
    (hs : ∀ x, foldedSetIterable iter X.env x = pure x := by intro _; rfl) : PS X (.For tg iter body [] pos) (tFor wi g tb) := by
  intro pins s σ H D I h
  refine wpAny_For (thn (hi pins s σ H _ I h) fun v s1 h1 => thn h1 fun itv s2 h2 => ?_) hs
  obtain ⟨it, fp, tn, J, H2, e, I2, T, st2, f2, W, ⟨m0, w0⟩, turn⟩ := h2
  subst e
  -- what stays true of the iterator's objects through the loop
  have stat : ∀ {H' : Hp}, (∀ b ∈ fp, H' b = none) → ∀ b ∈ fp, FpOk X pins H' b := fun hn b hb => ⟨hn b hb, (f2 b hb).2⟩
  refine codeAny_forLoop_any (fun n s' => ∃ i σ' H', Inv X pins σ' H' s' ∧ tn i s'.heap ∧ (∀ b ∈ fp, H' b = none) ∧ W i n σ' H') ?_ m0 ⟨0, σ, H2, I2, st2, fun b hb => (f2 b hb).1, w0⟩
  rintro n s3 ⟨i, σ3, H3, I3, st3, fr3, w3⟩
  rcases turn i n σ3 H3 w3 with ⟨stop, qn⟩ | ⟨go, N, hN, step⟩
  · refine wpAny_passesOwn hp (thn (T.done X rfl rfl rfl hc i pins s3 σ3 H3 X.xe I3 (stat fr3) st3 stop) fun r s4 ⟨hr, I4⟩ => ?_)
    subst hr
    exact wpAny_execs_nil ⟨σ3, H3, I4, qn⟩
  · refine wpAny_passesOwn hp (thn (T.item X rfl rfl rfl hc i pins s3 σ3 H3 X.xe I3 (stat fr3) st3 go) fun r s4 ⟨u, hr, h4⟩ => ?_)
    subst hr
    refine wpAny_passesOwn hp (thn h4 fun _ s5 ⟨x, H5, I5, r5, y5, st5, fr5⟩ => ?_)
    have I5' := I5.pinned (stat fr5) (T.obj _ _ st5)
    refine wpAny_passesOwn hp (thn (hg _ s5 σ3 H5 x u _ I5' r5 (step x H5 y5)) fun _ s6 ⟨σ6, H6, I6, q6⟩ => ?_)
    refine wpAny_passesOwn hp (thn (hb _ s6 σ6 H6 _ I6 q6) fun f s7 q7 => ?_)
    have again : ∀ {σ7 : St} {H7 : Hp}, Inv X (pins ++ pinsAt fp s5.heap) σ7 H7 s7 → N σ7 H7 → ∃ m, m < n ∧ ∃ i σ' H', Inv X pins σ' H' s7 ∧ tn i s7.heap ∧ (∀ b ∈ fp, H' b = none) ∧ W i m σ' H' := fun {σ7 H7} I7 n7 => by
      obtain ⟨m', hm, w7⟩ := hN σ7 H7 n7
      refine ⟨m', hm, i + 1, σ7, H7, I7.unpinned, T.keep _ _ _ st5 fun b hb o e => (I7.pin (b, o) (List.mem_append_right _ (List.mem_append_right _ (mem_pinsAt hb e)))).1, fun b hb => ?_, w7⟩
      obtain ⟨o, e, d⟩ := T.obj _ _ st5 b hb
      exact (I7.pin (b, o) (List.mem_append_right _ (List.mem_append_right _ (mem_pinsAt hb e)))).2.1
    cases f with
    | next => obtain ⟨σ7, H7, I7, n7⟩ := q7; exact again I7 n7
    | cont => obtain ⟨σ7, H7, I7, n7⟩ := q7; exact again I7 n7
    | brk => obtain ⟨σ7, H7, I7, q7⟩ := q7; exact ⟨σ7, H7, I7.unpinned, q7⟩
    | ret v => obtain ⟨x7, σ7, H7, I7, r7, q7⟩ := q7; exact ⟨x7, σ7, H7, I7.unpinned, r7, q7⟩
end

/-! ### the forms one uses -/
/-- over a list that the body leaves as it is -/
theorem for_list {K : PySem.W.Frag} {a : Addr} {xs : List V} {g : TG} {tb : TS} {D : Ends} {σ : St} {H : Hp} (Pv : Nat → St → Hp → Prop) (h0 : Pv 0 σ H) (hl : ∀ i σ H, i ≤ xs.length → Pv i σ H → SqL K H a xs)
    (hs : ∀ i x σ H, xs[i]? = some x → Pv i σ H → g x σ H fun σ2 H2 => tb { D with nx := Pv (i + 1), ct := Pv (i + 1), bk := D.nx } σ2 H2) (hd : ∀ σ H, Pv xs.length σ H → D.nx σ H) :
    ∃ W : Nat → Nat → St → Hp → Prop, (∃ m, W 0 m σ H) ∧ ∀ i m σ H, W i m σ H →
      ((Itl K a).stop i H ∧ D.nx σ H) ∨ ((Itl K a).go i H ∧ ∃ N : St → Hp → Prop, (∀ σ' H', N σ' H' → ∃ m', m' < m ∧ W (i + 1) m' σ' H') ∧ ∀ x H', (Itl K a).yld i H x H' → g x σ H' fun σ2 H2 => tb { D with nx := N, ct := N, bk := D.nx } σ2 H2) := by
  refine ⟨fun i m σ H => m = xs.length - i ∧ i ≤ xs.length ∧ Pv i σ H, ⟨xs.length, by simp, Nat.zero_le _, h0⟩, ?_⟩
  rintro i m σ H ⟨rfl, hi, p⟩
  have q := hl i σ H hi p
  by_cases hlt : i < xs.length
  · refine .inr ⟨⟨xs, xs[i], q, by simp [hlt]⟩, Pv (i + 1), fun σ' H' p' => ⟨xs.length - (i + 1), by omega, rfl, hlt, p'⟩, fun x H' y => ?_⟩
    obtain ⟨e, y⟩ := y
    subst e
    exact hs i x σ _ (y xs q) p
  · have e : i = xs.length := by omega
    subst e
    exact .inl ⟨⟨xs, q, Nat.le_refl _⟩, hd σ H p⟩
theorem for_range {lo : Int} {n : Nat} {g : TG} {tb : TS} {D : Ends} {σ : St} {H : Hp} (Pv : Nat → St → Hp → Prop) (h0 : Pv 0 σ H)
    (hs : ∀ i σ H, i < n → Pv i σ H → g (.int (lo + i)) σ H fun σ2 H2 => tb { D with nx := Pv (i + 1), ct := Pv (i + 1), bk := D.nx } σ2 H2) (hd : ∀ σ H, Pv n σ H → D.nx σ H) :
    ∃ W : Nat → Nat → St → Hp → Prop, (∃ m, W 0 m σ H) ∧ ∀ i m σ H, W i m σ H →
      ((Itr lo n).stop i H ∧ D.nx σ H) ∨ ((Itr lo n).go i H ∧ ∃ N : St → Hp → Prop, (∀ σ' H', N σ' H' → ∃ m', m' < m ∧ W (i + 1) m' σ' H') ∧ ∀ x H', (Itr lo n).yld i H x H' → g x σ H' fun σ2 H2 => tb { D with nx := N, ct := N, bk := D.nx } σ2 H2) := by
  refine ⟨fun i m σ H => m = n - i ∧ i ≤ n ∧ Pv i σ H, ⟨n, by simp, Nat.zero_le _, h0⟩, ?_⟩
  rintro i m σ H ⟨rfl, hi, p⟩
  by_cases hlt : i < n
  · refine .inr ⟨hlt, Pv (i + 1), fun σ' H' p' => ⟨n - (i + 1), by omega, rfl, hlt, p'⟩, fun x H' y => ?_⟩
    obtain ⟨e, y⟩ := y
    subst e y
    exact hs i σ _ hlt p
  · have e : i = n := by omega
    subst e
    exact .inl ⟨Nat.le_refl _, hd σ H p⟩
end L2

namespace L2
open PySem PySem.Spec PyProof.Rows

abbrev R2 := V → V → Hp → VK → Prop
/-- a two-place operation on values: f is binaryOp op, inplaceOp op or compareOp op -/
def OpR (X : Cx) (f : Value → Value → Sem Value) (r : R2) : Prop :=
  ∀ (pins : List (Addr × Obj)) (s : Shared) (σ : St) (H : Hp) (x y : V) (v u : Value) (Q : VK), Inv X pins σ H s → RelV x v → RelV y u → r x y H Q →
    wpAny (model X.prog X.w) X.A (f v u) (EP X pins σ Q) X.xe s
/-- a one-place operation -/
def UnR (X : Cx) (f : Value → Sem Value) (r : V → Hp → VK → Prop) : Prop :=
  ∀ (pins : List (Addr × Obj)) (s : Shared) (σ : St) (H : Hp) (x : V) (v : Value) (Q : VK), Inv X pins σ H s → RelV x v → r x H Q →
    wpAny (model X.prog X.w) X.A (f v) (EP X pins σ Q) X.xe s
/-- a call of a value that is known (a builtin, a type) with values -/
def CallR (X : Cx) (f : Value) (r : List V → Hp → VK → Prop) : Prop :=
  ∀ (pins : List (Addr × Obj)) (s : Shared) (σ : St) (H : Hp) (xs : List V) (us : List Value) (Q : VK), Inv X pins σ H s → Vals xs us → r xs H Q →
    wpAny (model X.prog X.w) X.A (call f us) (EP X pins σ Q) X.xe s

def tOp (r : R2) (ta tb : TE) : TE := fun σ H Q => ta σ H fun x H1 => tb σ H1 fun y H2 => r x y H2 Q
def tUn (r : V → Hp → VK → Prop) (ta : TE) : TE := fun σ H Q => ta σ H fun x H1 => r x H1 Q
/-- ints in, under C, and a value out -/
def rI (C : Int → Int → Prop) (g : Int → Int → V) : R2 := fun x y H Q => ∃ i j, x = .int i ∧ y = .int j ∧ C i j ∧ Q (g i j) H
def rI0 (g : Int → Int → V) : R2 := fun x y H Q => ∃ i j, x = .int i ∧ y = .int j ∧ Q (g i j) H
def rU (g : Int → V) : V → Hp → VK → Prop := fun x H Q => ∃ i, x = .int i ∧ Q (g i) H

section
variable {X : Cx} {a b c : Expr} {ta tb tc : TE} {pos : Pos}

theorem binT (ha : PE X a ta) (hb : PE X b tb) {pins : List (Addr × Obj)} {s : Shared} {σ : St} {H : Hp} {R : V → V → Hp → Prop} (I : Inv X pins σ H s)
    (h : ta σ H fun x H1 => tb σ H1 fun y H2 => R x y H2) {Q : Value → Shared → Prop} {f : Value → Value → Sem Value}
    (hf : ∀ v u s2 x y H2, Inv X pins σ H2 s2 → RelV x v → RelV y u → R x y H2 → wpAny (model X.prog X.w) X.A (f v u) Q X.xe s2) :
    wpAny (model X.prog X.w) X.A (eval a X.env) (fun v s₁ => wpAny (model X.prog X.w) X.A (eval b X.env) (fun u s₂ => wpAny (model X.prog X.w) X.A (f v u) Q X.xe s₂) X.xe s₁) X.xe s := by
  refine thn (ha pins s σ H _ I h) fun v s1 ⟨x, H1, I1, r1, q1⟩ => ?_
  refine thn (hb pins s1 σ H1 _ I1 q1) fun u s2 ⟨y, H2, I2, r2, q2⟩ => ?_
  exact hf v u s2 x y H2 I2 r1 r2 q2

theorem pe_op {op : Operator} {r : R2} (ho : OpR X (binaryOp op) r) (ha : PE X a ta) (hb : PE X b tb) : PE X (.BinOp a op b pos) (tOp r ta tb) := by
  intro pins s σ H Q I h
  exact wpAny_BinOp (binT ha hb I h fun v u s2 x y H2 I2 rx ry q => ho pins s2 σ H2 x y v u Q I2 rx ry q)
theorem pe_un {op : UnaryOp} {r : V → Hp → VK → Prop} (ho : UnR X (unaryOp op) r) (ha : PE X a ta) : PE X (.UnaryOp op a pos) (tUn r ta) := by
  intro pins s σ H Q I h
  exact UnaryOp_ (thn (ha pins s σ H _ I h) fun v s1 ⟨x, H1, I1, r1, q1⟩ => ho pins s1 σ H1 x v Q I1 r1 q1)

/-! ### ints -/
theorem opI {f : Value → Value → Sem Value} {C : Int → Int → Prop} {g : Int → Int → Int}
    (rule : ∀ (i j : Int) (t u : Tok) (s : Shared) (Q : Value → Shared → Prop) (E : Value → Shared → Prop), C i j → Q (.int (g i j) s.toks) { s with toks := s.toks + 1 } → wpAny (model X.prog X.w) X.A (f (.int i t) (.int j u)) Q E s) :
    OpR X f (rI C fun i j => .int (g i j)) := by
  intro pins s σ H x y v u Q I rx ry h
  obtain ⟨i, j, rfl, rfl, hc, q⟩ := h
  obtain ⟨t, rfl⟩ := rx
  obtain ⟨t', rfl⟩ := ry
  exact rule i j t t' s _ _ hc ⟨.int (g i j), H, I.tok _, ⟨_, rfl⟩, q⟩
theorem opI0 {f : Value → Value → Sem Value} {g : Int → Int → Int}
    (rule : ∀ (i j : Int) (t u : Tok) (s : Shared) (Q : Value → Shared → Prop) (E : Value → Shared → Prop), Q (.int (g i j) s.toks) { s with toks := s.toks + 1 } → wpAny (model X.prog X.w) X.A (f (.int i t) (.int j u)) Q E s) :
    OpR X f (rI0 fun i j => .int (g i j)) := by
  intro pins s σ H x y v u Q I rx ry h
  obtain ⟨i, j, rfl, rfl, q⟩ := h
  obtain ⟨t, rfl⟩ := rx
  obtain ⟨t', rfl⟩ := ry
  exact rule i j t t' s _ _ ⟨.int (g i j), H, I.tok _, ⟨_, rfl⟩, q⟩
theorem opB0 {f : Value → Value → Sem Value} {g : Int → Int → Bool}
    (rule : ∀ (i j : Int) (t u : Tok) (s : Shared) (Q : Value → Shared → Prop) (E : Value → Shared → Prop), Q (.bool (g i j)) s → wpAny (model X.prog X.w) X.A (f (.int i t) (.int j u)) Q E s) :
    OpR X f (rI0 fun i j => .bl (g i j)) := by
  intro pins s σ H x y v u Q I rx ry h
  obtain ⟨i, j, rfl, rfl, q⟩ := h
  obtain ⟨t, rfl⟩ := rx
  obtain ⟨t', rfl⟩ := ry
  exact rule i j t t' s _ _ ⟨.bl (g i j), H, I, rfl, q⟩

def CDiv (i j : Int) : Prop := 0 < j ∧ j < 1073741824
def CPow (i j : Int) : Prop := 0 ≤ j ∧ j ≤ 1000000 ∧ i.natAbs < 2 ^ 64
def CMul (i j : Int) : Prop := (-(2 ^ 64) < i ∧ i < 2 ^ 64) ∨ (-(2 ^ 64) < j ∧ j < 2 ^ 64)
theorem CMul.ok {i j : Int} (h : CMul i j) : IntMulOk i j := by
  rcases h with ⟨h1, h2⟩ | ⟨h1, h2⟩
  · exact .of_left (intBits_le_64 h1 h2)
  · exact .of_right (intBits_le_64 h1 h2)

theorem op_add : OpR X (binaryOp .Add) (rI0 fun i j => .int (i + j)) := opI0 fun _ _ _ _ _ _ _ q => add_int q
theorem op_sub : OpR X (binaryOp .Sub) (rI0 fun i j => .int (i - j)) := opI0 fun _ _ _ _ _ _ _ q => sub_int q
theorem op_mul : OpR X (binaryOp .Mult) (rI CMul fun i j => .int (i * j)) := opI fun _ _ _ _ _ _ _ hc q => mul_int q hc.ok
/-- // by a positive divisor -/
theorem op_fdiv : OpR X (binaryOp .FloorDiv) (rI CDiv fun i j => .int (i / j)) := opI fun i j _ _ _ _ _ hc q => by
  have h1 : (0 : Int) < j := hc.1
  have h2 : j < 1073741824 := hc.2
  exact floordiv_int (by omega) (by rw [Int.fdiv_eq_ediv_of_nonneg i (by omega)]; exact q) (.inl (PyProof.noPylong_small (by omega)))
/-- % by a positive divisor of any size -/
theorem op_mod : OpR X (binaryOp .Mod) (rI (fun _ j => 0 < j) fun i j => .int (i % j)) := opI fun i j _ _ _ _ _ hc q => by
  have h1 : (0 : Int) < j := hc
  exact mod_int' (by omega) (by rw [Int.fmod_eq_emod_of_nonneg i (by omega)]; exact q)
theorem op_pow : OpR X (binaryOp .Pow) (rI CPow fun i j => .int (i ^ j.toNat)) := opI fun _ _ _ _ _ _ _ hc q => pow_int_small hc.1 hc.2.1 hc.2.2 q


theorem unI {f : Value → Sem Value} {g : Int → Int}
    (rule : ∀ (i : Int) (t : Tok) (s : Shared) (Q : Value → Shared → Prop) (E : Value → Shared → Prop), Q (.int (g i) s.toks) { s with toks := s.toks + 1 } → wpAny (model X.prog X.w) X.A (f (.int i t)) Q E s) :
    UnR X f (rU fun i => .int (g i)) := by
  intro pins s σ H x v Q I rx h
  obtain ⟨i, rfl, q⟩ := h
  obtain ⟨t, rfl⟩ := rx
  exact rule i t s _ _ ⟨.int (g i), H, I.tok _, ⟨_, rfl⟩, q⟩
theorem un_neg : UnR X (unaryOp .USub) (rU fun i => .int (-i)) := unI fun _ _ _ _ _ q => neg_int q

/-! ### bools among ints: n += (a < b) -/
end

/-! ### comparisons -/
/-- the scalars that == tells apart as data does -/
def scal : V → V → Bool
  | .non, .non => true | .non, .int _ => true | .int _, .non => true | .non, .bl _ => true | .bl _, .non => true | .non, .str _ => true | .str _, .non => true
  | .int _, .int _ => true | .bl _, .bl _ => true | .str _, .str _ => true | .byt _, .byt _ => true
  | .int _, .str _ => true | .str _, .int _ => true | .bl _, .str _ => true | .str _, .bl _ => true
  | _, _ => false
def rEq : R2 := fun x y H Q => scal x y = true ∧ Q (.bl (decide (x = y))) H
def rNe : R2 := fun x y H Q => scal x y = true ∧ Q (.bl (!decide (x = y))) H

theorem dec_int {i j : Int} : decide (V.int i = V.int j) = (i == j) := by
  rw [Bool.eq_iff_iff]
  simp
theorem dec_bl {i j : Bool} : decide (V.bl i = V.bl j) = (i == j) := by
  rw [Bool.eq_iff_iff]
  simp
theorem dec_str {i j : Str} : decide (V.str i = V.str j) = (i == j) := by
  rw [Bool.eq_iff_iff]
  simp
theorem dec_byt {i j : Array UInt8} : decide (V.byt i = V.byt j) = (i.toList == j.toList) := by
  rw [Bool.eq_iff_iff]
  cases i
  cases j
  simp

section
variable {X : Cx} {a b c : Expr} {ta tb tc : TE} {pos : Pos}
theorem fin_bl {pins : List (Addr × Obj)} {σ : St} {H : Hp} {s : Shared} {Q : VK} {k k' : Bool} (I : Inv X pins σ H s) (q : Q (.bl k) H) (e : k = k') : EP X pins σ Q (.bool k') s := by
  subst e
  exact ⟨.bl k, H, I, rfl, q⟩
theorem op_eq : OpR X (compareOp .Eq) rEq := by
  intro pins s σ H x y v u Q I rx ry h
  obtain ⟨hs, q⟩ := h
  cases x with
  | non =>
    cases rx
    cases y with
    | non => cases ry; exact PySem.EqNone.eq_none_none (fin_bl I q (by simp))
    | bl j => cases ry; exact PySem.EqNone.eq_none_bool (fin_bl I q (by simp))
    | int j => obtain ⟨t', rfl⟩ := ry; exact PySem.EqNone.eq_none_int (fin_bl I q (by simp))
    | str j => obtain ⟨t', rfl⟩ := ry; exact PySem.EqNone.eq_none_str (fin_bl I q (by simp))
    | _ => exact absurd (show false = true from hs) Bool.false_ne_true
  | bl i =>
    cases rx
    cases y with
    | non => cases ry; exact PySem.EqNone.eq_bool_none (fin_bl I q (by simp))
    | bl j => cases ry; exact eq_bool (fin_bl I q dec_bl)
    | str j => obtain ⟨t', rfl⟩ := ry; exact PySem.EqMixed.eq_bool_str (fin_bl I q (by simp))
    | _ => exact absurd (show false = true from hs) Bool.false_ne_true
  | int i =>
    obtain ⟨t, rfl⟩ := rx
    cases y with
    | non => cases ry; exact PySem.EqNone.eq_int_none (fin_bl I q (by simp))
    | int j => obtain ⟨t', rfl⟩ := ry; exact eq_int (fin_bl I q dec_int)
    | str j => obtain ⟨t', rfl⟩ := ry; exact PySem.EqMixed.eq_int_str (fin_bl I q (by simp))
    | _ => exact absurd (show false = true from hs) Bool.false_ne_true
  | str i =>
    obtain ⟨t, rfl⟩ := rx
    cases y with
    | non => cases ry; exact PySem.EqNone.eq_str_none (fin_bl I q (by simp))
    | bl j => cases ry; exact PySem.EqMixed.eq_str_bool (fin_bl I q (by simp))
    | int j => obtain ⟨t', rfl⟩ := ry; exact PySem.EqMixed.eq_str_int (fin_bl I q (by simp))
    | str j => obtain ⟨t', rfl⟩ := ry; exact eq_str (fin_bl I q dec_str)
    | _ => exact absurd (show false = true from hs) Bool.false_ne_true
  | byt i =>
    obtain ⟨t, rfl⟩ := rx
    cases y with
    | byt j => obtain ⟨t', rfl⟩ := ry; exact PySem.W.eq_bytes (fin_bl I q dec_byt)
    | _ => exact absurd (show false = true from hs) Bool.false_ne_true
  | _ => cases y <;> exact absurd (show false = true from hs) Bool.false_ne_true
theorem op_ne : OpR X (compareOp .NotEq) rNe := by
  intro pins s σ H x y v u Q I rx ry h
  obtain ⟨hs, q⟩ := h
  cases x with
  | non =>
    cases rx
    cases y with
    | non => cases ry; exact PySem.EqNone.ne_none_none (fin_bl I q (by simp))
    | bl j => cases ry; exact PySem.EqNone.ne_none_bool (fin_bl I q (by simp))
    | int j => obtain ⟨t', rfl⟩ := ry; exact PySem.EqNone.ne_none_int (fin_bl I q (by simp))
    | str j => obtain ⟨t', rfl⟩ := ry; exact PySem.EqNone.ne_none_str (fin_bl I q (by simp))
    | _ => exact absurd (show false = true from hs) Bool.false_ne_true
  | bl i =>
    cases rx
    cases y with
    | non => cases ry; exact PySem.EqNone.ne_bool_none (fin_bl I q (by simp))
    | bl j => cases ry; exact ne_bool (fin_bl I q (congrArg not dec_bl))
    | str j => obtain ⟨t', rfl⟩ := ry; exact PySem.EqMixed.ne_bool_str (fin_bl I q (by simp))
    | _ => exact absurd (show false = true from hs) Bool.false_ne_true
  | int i =>
    obtain ⟨t, rfl⟩ := rx
    cases y with
    | non => cases ry; exact PySem.EqNone.ne_int_none (fin_bl I q (by simp))
    | int j => obtain ⟨t', rfl⟩ := ry; exact ne_int (fin_bl I q (congrArg not dec_int))
    | str j => obtain ⟨t', rfl⟩ := ry; exact PySem.EqMixed.ne_int_str (fin_bl I q (by simp))
    | _ => exact absurd (show false = true from hs) Bool.false_ne_true
  | str i =>
    obtain ⟨t, rfl⟩ := rx
    cases y with
    | non => cases ry; exact PySem.EqNone.ne_str_none (fin_bl I q (by simp))
    | bl j => cases ry; exact PySem.EqMixed.ne_str_bool (fin_bl I q (by simp))
    | int j => obtain ⟨t', rfl⟩ := ry; exact PySem.EqMixed.ne_str_int (fin_bl I q (by simp))
    | str j => obtain ⟨t', rfl⟩ := ry; exact ne_str (fin_bl I q (congrArg not dec_str))
    | _ => exact absurd (show false = true from hs) Bool.false_ne_true
  | byt i =>
    obtain ⟨t, rfl⟩ := rx
    cases y with
    | byt j => obtain ⟨t', rfl⟩ := ry; exact PySem.W.ne_bytes (fin_bl I q (congrArg not dec_byt))
    | _ => exact absurd (show false = true from hs) Bool.false_ne_true
  | _ => cases y <;> exact absurd (show false = true from hs) Bool.false_ne_true

theorem op_lt : OpR X (compareOp .Lt) (rI0 fun i j => .bl (decide (i < j))) := opB0 fun _ _ _ _ _ _ _ q => lt_int q
theorem op_le : OpR X (compareOp .LtE) (rI0 fun i j => .bl (decide (i ≤ j))) := opB0 fun _ _ _ _ _ _ _ q => le_int q
theorem op_gt : OpR X (compareOp .Gt) (rI0 fun i j => .bl (decide (j < i))) := opB0 fun _ _ _ _ _ _ _ q => gt_int q
theorem op_ge : OpR X (compareOp .GtE) (rI0 fun i j => .bl (decide (j ≤ i))) := opB0 fun _ _ _ _ _ _ _ q => ge_int q

/-- is None, is not None: the right side a value none -/
theorem op_isN : OpR X (compareOp .Is) (fun x y H Q => y = .non ∧ Q (.bl (decide (x = .non))) H) := by
  intro pins s σ H x y v u Q I rx ry h
  obtain ⟨rfl, q⟩ := h
  cases ry
  refine is_none_gen (fin_bl I q ?_)
  cases x <;> first
    | (cases rx; rfl)
    | (obtain ⟨t, rfl⟩ := rx; rfl)



theorem nomark (b : Expr) {op : CmpOp} (h : op ≠ .In := by decide) (h2 : op ≠ .NotIn := by decide) : behindInMarks op b = false := by
  have e1 : (op == CmpOp.In) = false := by cases op <;> first | rfl | exact absurd rfl h
  have e2 : (op == CmpOp.NotIn) = false := by cases op <;> first | rfl | exact absurd rfl h2
  cases b <;> simp [behindInMarks, e1, e2]
/-- a comparison as a value; hm: nomark b, or (for in, not in) by with_unfolding_all rfl -/
theorem pe_cmpR {op : CmpOp} {r : R2} (ho : OpR X (compareOp op) r) (ha : PE X a ta) (hb : PE X b tb) (hm : behindInMarks op b = false) : PE X (.Compare a [op] [b] pos) (tOp r ta tb) := by
  intro pins s σ H Q I h
  exact wpAny_Compare1 (binT ha hb I h fun v u s2 x y H2 I2 rx ry q => ho pins s2 σ H2 x y v u Q I2 rx ry q) hm
/-- a reading of a value as a test -/
def tTest (t : TE) : TT := fun σ H Q => t σ H fun x H' => ∃ k, x = .bl k ∧ Q k H'
theorem pt_cmpR {op : CmpOp} {r : R2} (ho : OpR X (compareOp op) r) (ha : PE X a ta) (hb : PE X b tb) (hm : behindInMarks op b = false) : PT X (.Compare a [op] [b] pos) (tTest (tOp r ta tb)) := by
  intro pins s σ H Q I h
  refine wpAny_isTrue_Compare1 (thn (ha pins s σ H _ I h) fun v s1 ⟨x, H1, I1, r1, q1⟩ => thn (hb pins s1 σ H1 _ I1 q1) fun u s2 ⟨y, H2, I2, r2, q2⟩ =>
    thn (ho pins s2 σ H2 x y v u _ I2 r1 r2 q2) fun c s3 ⟨z, H3, I3, r3, k, e, q3⟩ => ?_) hm
  subst e
  cases r3
  exact wpAny_truthy_bool ⟨H3, I3, q3⟩
/-- a op1 b op2 c -/
def tChain (r r' : R2) (ta tb tc : TE) : TE := fun σ H Q => ta σ H fun x H1 => tb σ H1 fun y H2 => r x y H2 fun z H3 => ∃ k, z = .bl k ∧
  (if k = true then tc σ H3 fun w' H4 => r' y w' H4 Q else Q (.bl false) H3)
theorem pt_chain {op op' : CmpOp} {r r' : R2} (ho : OpR X (compareOp op) r) (ho' : OpR X (compareOp op') r') (ha : PE X a ta) (hb : PE X b tb) (hc : PE X c tc)
    (hm : lastMarks [op, op'] [b, c] = false := by with_unfolding_all rfl) : PT X (.Compare a [op, op'] [b, c] pos) (tTest (tChain r r' ta tb tc)) := by
  intro pins s σ H Q I h
  refine isTrue_chain (thn (ha pins s σ H _ I h) fun v s1 ⟨x, H1, I1, r1, q1⟩ => test_link (thn (hb pins s1 σ H1 _ I1 q1) fun u s2 ⟨y, H2, I2, r2, q2⟩ =>
    thn (ho pins s2 σ H2 x y v u _ I2 r1 r2 q2) fun d s3 ⟨z, H3, I3, r3, k, e, q3⟩ => ?_)) hm
  subst e
  cases r3
  refine wpAny_truthy_bool ?_
  cases k with
  | false =>
    obtain ⟨k', e', q'⟩ := q3
    cases e'
    exact ite_ff ⟨H3, I3, q'⟩
  | true =>
    refine ite_tt (test_last (thn (hc pins s3 σ H3 _ I3 q3) fun w' s4 ⟨z', H4, I4, r4, q4⟩ => thn (ho' pins s4 σ H4 y z' u w' _ I4 r2 r4 q4) fun d' s5 ⟨z2, H5, I5, r5, k2, e2, q5⟩ => ?_))
    subst e2
    cases r5
    exact wpAny_truthy_bool ⟨H5, I5, q5⟩

/-! ### truth -/
theorem line63 : (sizeLine : Nat) < 2 ^ 63 := by rw [sizeLine_eq]; decide

/-! ### strs and bytes -/


/-! ### scalar builtins, by CallR -/
theorem vals1 {x : V} {us : List Value} (r : Vals [x] us) : ∃ u, us = [u] ∧ RelV x u := by
  cases r with
  | cons r1 r2 => cases r2; exact ⟨_, rfl, r1⟩
theorem vals2 {x y : V} {us : List Value} (r : Vals [x, y] us) : ∃ u w', us = [u, w'] ∧ RelV x u ∧ RelV y w' := by
  cases r with
  | cons r1 r2 =>
    cases r2 with
    | cons r3 r4 => cases r4; exact ⟨_, _, rfl, r1, r3⟩
end
end L2

namespace L2
open PySem PySem.Spec PyProof.Rows

/-! ### an instance, its attributes a map -/
structure ObjM (h : Heap) (x dx C : Addr) (mA : Str → Option Value) : Prop where
  obj : h.get? x = some (PySem.W.instObj C dx)
  ns : h.Ns1 dx mA
  ne : dx ≠ x

theorem lookIn_ns {h : Heap} {dx : Addr} {mA : Str → Option Value} (n : h.Ns1 dx mA) : ∃ od, h.get? dx = some od ∧ ∀ name, PySem.W.lookIn name od = some (mA name) := by
  obtain ⟨o, es, ep, ho, hd, hk, _, hm⟩ := n
  refine ⟨o, ho, fun name => ?_⟩
  have e := hm name
  unfold nsFind findBy at e
  rw [← Array.find?_toList] at e
  unfold PySem.W.lookIn
  rw [hd]
  dsimp only
  split
  · rename_i y q
    rw [q] at e
    exact congrArg some e
  · rename_i q
    rw [q] at e
    have a : es.toList.any (·.refKey) = false := by
      rw [List.any_eq_false]
      intro y hy
      obtain ⟨z, t, hkey⟩ := hk y (Array.mem_toList_iff.mp hy)
      simp [DictEntry.refKey, hkey]
    have a' : ¬ es.toList.any (·.refKey) = true := by rw [a]; exact Bool.false_ne_true
    rw [if_neg a']
    exact congrArg some e

theorem ObjM.look {h : Heap} {x dx C : Addr} {mA : Str → Option Value} (I : ObjM h x dx C mA) : ∃ od, PySem.W.InstAt h x (PySem.W.instObj C dx) C (some od) ∧ ∀ name, PySem.W.lookIn name od = some (mA name) :=
  let ⟨od, ho, hl⟩ := lookIn_ns I.ns
  ⟨od, ⟨I.obj, rfl, rfl, ho⟩, hl⟩

section
variable {prog : Program} {w : World} {A : Around} {E : Value → Shared → Prop} {s : Shared} {K : PySem.W.Frag} {x dx C f : Addr} {mA : Str → Option Value} {name : Str} {v : Value}

theorem get_map {expr : Bool} {Q : Value → Shared → Prop} (X : K.In s.heap) (I : ObjM s.heap x dx C mA) (hg : PySem.W.plainGet K C name = true) (hh : PySem.W.hasDictIn K C = true)
    (ha : PySem.W.findIn K (.ref C) name = some none) (hv : mA name = some v) (hv' : PySem.W.handedIn v = true) (h : Q v { s with toks := s.toks + 1 }) :
    wpAny (model prog w) A (getAttr (.ref x) name expr) Q E s := by
  obtain ⟨od, J, hl⟩ := I.look
  exact PySem.W.get_value X J (PySem.W.plainGet_of hg).1 (PySem.W.findObj_own hh ha rfl (by rw [hl, hv])) hv' h


theorem get_meth {pl : Sem Bool} {Q : Value × List Value → Shared → Prop} (X : K.In s.heap) (I : ObjM s.heap x dx C mA) (hg : PySem.W.plainGet K C name = true)
    (hf : PySem.W.findIn K (.ref C) name = some (some (.ref f))) (ht : PySem.W.isFn K (.ref f) = true) (hv : mA name = none) (h : Q (.ref f, [.ref x]) s) :
    wpAny (model prog w) A (getMethod (.ref x) name pl) Q E s := by
  obtain ⟨od, J, hl⟩ := I.look
  exact PySem.W.method_fn X J (PySem.W.plainGet_of hg).1 (PySem.W.plainGet_of hg).2 hf (beq_iff_eq.mp ht) (by show (PySem.W.lookIn name od).map (·.isSome) = some false; rw [hl, hv]; rfl) h

theorem set_map {ns : List Str} {Q : Unit → Shared → Prop} (X : K.In s.heap) (I : ObjM s.heap x dx C mA)
    (hs : PySem.W.findIn K (.ref C) "__setattr__" = some (some (.builtin "object.__setattr__"))) (hp : PySem.W.plainOver K C = true) (ht : PySem.W.takerIn K C name = some none) (hh : PySem.W.hasDictIn K C = true)
    (hw : PySem.Within mA ns) (hsz : ns.length ≤ sizeLine)
    (h : ∀ h', ObjM h' x dx C (fun y => if y = name then some v else mA y) → Heap.SameBut dx s.heap h' → Q () { s with heap := h', toks := s.toks + 2 }) :
    wpAny (model prog w) A (setAttr (.ref x) name v) Q E s := by
  obtain ⟨od, J, hl⟩ := I.look
  refine PySem.W.set_plain X J hs (PySem.W.osa_open (s := { s with toks := s.toks + 1 }) (r := none) X J hp ht fun b => ?_)
  obtain ⟨cd, hc, hd'⟩ := PySem.W.any_some hh
  have hx : s.heap.get? x = some ⟨.ref C, some dx, .plain, #[]⟩ := I.obj
  refine wpAny_bind (wpAny_pure (wpAny_bind (wpAny_bind (wpAny_loadPart hx (wpAny_bind (PySem.W.Looks.here (s := { s with toks := s.toks + 1 }) (PySem.W.looks_clsIn X hc) ?_))))))
  rw [hd']
  refine wpAny_pure (a := some dx) (wpAny_bind (wpAny_pure (wpAny_bind ?_)))
  refine wpAny_nsSet1 (s := { s with toks := s.toks + 1 }) I.ns fun h' hn2 hs2 => ?_
  obtain ⟨oD, esD, epD, hoD, hdD, hcD⟩ := hn2.count (PySem.Within.cons name v hw)
  refine wpAny_bind (wpAny_lookBehind hoD (by rw [hdD]; exact pastItsLine_dict (Nat.le_trans hcD (by rw [List.length_cons]; omega))) ?_)
  exact wpAny_pure (h _ ⟨(hs2.2 _ (Ne.symm I.ne)).trans I.obj, hn2, I.ne⟩ hs2)

/-- C(..): the dict at the heap's end, the instance behind it; then its __init__ -/
theorem make_map {R : Result → Shared → Prop} {vs : List Value} {kw : List (Str × Value)} (X : K.In s.heap) (hm : PySem.W.makesIn K C = true)
    (hi : PySem.W.findIn K (.ref C) "__init__" = some (some (.ref f))) (hf : PySem.W.typeIn K (.ref f) = some (.type "function"))
    (h : codeAny (model prog w) (A.under (.builtin "type.__call__" ⟨.ref C :: vs, kw⟩)) (.call (.ref f) ⟨.ref (s.heap.objs.size + 1) :: vs, kw⟩) (PySem.W.InitBack (s.heap.objs.size + 1) R)
      { s with heap := (s.heap.push PySem.W.emptyDict).push (PySem.W.instObj C s.heap.objs.size) }) :
    codeAny (model prog w) A (.call (.ref C) ⟨vs, kw⟩) R s := by
  obtain ⟨hh, g, d, t, os⟩ := s
  exact PySem.W.make_core (PySem.W.makes_of X hm) (PySem.W.looks_findIn X hi) (fun self => PySem.W.bind_fn X self hf) (.inl rfl) h
end

/-! ### the attributes as a list of pairs -/
def putF (f : Str) (v : V) : List (Str × V) → List (Str × V)
  | [] => [(f, v)]
  | (g, x) :: r => if g = f then (g, v) :: r else (g, x) :: putF f v r
theorem lookup_putF (f g : Str) (v : V) : ∀ fs : List (Str × V), (putF f v fs).lookup g = if g = f then some v else fs.lookup g
  | [] => by
    show List.lookup g [(f, v)] = _
    by_cases h : g = f
    · have hb : (g == f) = true := beq_iff_eq.mpr h
      simp only [List.lookup, hb, if_pos h]
    · have hb : (g == f) = false := beq_eq_false_iff_ne.mpr h
      simp only [List.lookup, hb, if_neg h]
  | (k, x) :: r => by
    have ih := lookup_putF f g v r
    rw [show putF f v ((k, x) :: r) = (if k = f then (k, v) :: r else (k, x) :: putF f v r) from rfl]
    by_cases hk : k = f
    · rw [if_pos hk]
      by_cases h : g = k
      · have hb : (g == k) = true := beq_iff_eq.mpr h
        simp only [List.lookup, hb, if_pos (h.trans hk)]
      · have hb : (g == k) = false := beq_eq_false_iff_ne.mpr h
        simp only [List.lookup, hb, if_neg (fun e : g = f => h (e.trans hk.symm))]
    · rw [if_neg hk]
      by_cases h : g = k
      · have hb : (g == k) = true := beq_iff_eq.mpr h
        simp only [List.lookup, hb, if_neg (fun e : g = f => hk (h.symm.trans e))]
      · have hb : (g == k) = false := beq_eq_false_iff_ne.mpr h
        simp only [List.lookup, hb]
        exact ih
theorem keys_putF (f : Str) (v : V) : ∀ fs : List (Str × V), f ∈ (putF f v fs).map (·.1) ∧ ∀ g, g ∈ fs.map (·.1) → g ∈ (putF f v fs).map (·.1)
  | [] => ⟨by simp [putF], fun g h => by simp at h⟩
  | (k, x) :: r => by
    obtain ⟨i1, i2⟩ := keys_putF f v r
    rw [show putF f v ((k, x) :: r) = (if k = f then (k, v) :: r else (k, x) :: putF f v r) from rfl]
    by_cases hk : k = f
    · rw [if_pos hk]
      subst hk
      exact ⟨by simp, fun g h => by simpa using h⟩
    · rw [if_neg hk]
      refine ⟨?_, fun g h => ?_⟩
      · rw [List.map_cons]
        exact List.mem_cons_of_mem _ i1
      · rw [List.map_cons] at h ⊢
        rcases List.mem_cons.mp h with e | e
        · exact List.mem_cons.mpr (.inl e)
        · exact List.mem_cons_of_mem _ (i2 g e)
theorem length_putF (f : Str) (v : V) : ∀ fs : List (Str × V), (putF f v fs).length ≤ fs.length + 1
  | [] => by simp [putF]
  | (k, x) :: r => by
    have ih := length_putF f v r
    rw [show putF f v ((k, x) :: r) = (if k = f then (k, v) :: r else (k, x) :: putF f v r) from rfl]
    by_cases hk : k = f
    · rw [if_pos hk, List.length_cons, List.length_cons]; omega
    · rw [if_neg hk, List.length_cons, List.length_cons]; omega

theorem RelO.some_of {v : V} {o : Option Value} (r : RelO (some v) o) : ∃ u, o = some u ∧ RelV v u := by
  cases o with
  | none => exact (show False from r).elim
  | some u => exact ⟨u, rfl, r⟩
theorem RelO.none_of {o : Option Value} (r : RelO none o) : o = none := by
  cases o with
  | none => rfl
  | some u => exact (show False from r).elim
theorem handed_of {v : V} {u : Value} (r : RelV v u) : PySem.W.handedIn u = true := by
  cases v with
  | non => cases (show u = Value.none from r); rfl
  | bl b => cases (show u = Value.bool b from r); rfl
  | int i => obtain ⟨t, e⟩ := (show ∃ t, u = Value.int i t from r); cases e; rfl
  | str x => obtain ⟨t, e⟩ := (show ∃ t, u = Value.str x t from r); cases e; rfl
  | byt b => obtain ⟨t, e⟩ := (show ∃ t, u = Value.bytes b t from r); cases e; rfl
  | flt b => obtain ⟨t, e⟩ := (show ∃ t, u = Value.float b t from r); cases e; rfl
  | ref a => cases (show u = Value.ref a from r); rfl
  | ty n => cases (show u = Value.type n from r); rfl

section
variable {P : Program} {w : World} {H H' : Hp} {h h' : Heap} {a C dx : Addr} {fs fs' : List (Str × V)}
theorem ins_get (hok : HOk P w H h) (e : H a = some (.ins C dx fs)) : ∃ mA, ObjM h a dx C mA ∧ (∀ f, RelO (fs.lookup f) (mA f)) ∧ PySem.Within mA (fs.map (·.1)) ∧ fs.length ≤ 1000 ∧ H dx = some (.own a) := by
  obtain ⟨d, z, ne, ob, mA, n, r, q⟩ := (show ObjOk P w H h a (.ins C dx fs) from hok a _ e)
  exact ⟨mA, ⟨ob, n, ne⟩, r, q, z, d⟩
end

/-! ### what of the text a class must have -/
structure Cls (K : PySem.W.Frag) (C : Addr) : Prop where
  pg : PySem.W.plainGet K C Str.empty = true
  hd : PySem.W.hasDictIn K C = true
  po : PySem.W.plainOver K C = true
  sa : PySem.W.findIn K (.ref C) "__setattr__" = some (some (.builtin "object.__setattr__"))
theorem Cls.get {K : PySem.W.Frag} {C : Addr} (c : Cls K C) (f : Str) : PySem.W.plainGet K C f = true := c.pg
/-- no class of it has the name -/
def NoAttr (K : PySem.W.Frag) (C : Addr) (f : Str) : Prop := PySem.W.findIn K (.ref C) f = some none
theorem NoAttr.taker {K : PySem.W.Frag} {C : Addr} {f : Str} (n : NoAttr K C f) : PySem.W.takerIn K C f = some none := by
  unfold PySem.W.takerIn
  rw [show PySem.W.findIn K (.ref C) f = some none from n]
  rfl
/-- a method: a plain def of the class or of one above it -/
structure Meth (K : PySem.W.Frag) (C : Addr) (m : Str) (f : Addr) : Prop where
  at_ : PySem.W.findIn K (.ref C) m = some (some (.ref f))
  fn : PySem.W.isFn K (.ref f) = true
  kp : PySem.W.keepIn K (.ref f) = true

section
variable {X : Cx} {pins : List (Addr × Obj)} {σ : St} {H : Hp} {s : Shared} {a C dx : Addr} {fs : List (Str × V)} {f : Str} {v : V} {A : Around} {E : Value → Shared → Prop}

theorem getattr_ok {b : Bool} {Q : Value → Shared → Prop} (I : Inv X pins σ H s) (e : H a = some (.ins C dx fs)) (c : Cls X.K C) (n : NoAttr X.K C f) (l : fs.lookup f = some v)
    (h : ∀ u s', Inv X pins σ H s' → RelV v u → Q u s') : wpAny (model X.prog X.w) A (getAttr (.ref a) f b) Q E s := by
  obtain ⟨mA, O, r, _, _, _⟩ := ins_get I.hok e
  obtain ⟨u, hu, ru⟩ := RelO.some_of (v := v) (o := mA f) (by rw [← l]; exact r f)
  exact get_map I.kIn O (c.get f) c.hd n hu (handed_of ru) (h u _ (I.tok _) ru)


theorem getmeth_ok {m : Str} {g : Addr} {pl : Sem Bool} {Q : Value × List Value → Shared → Prop} (I : Inv X pins σ H s) (e : H a = some (.ins C dx fs)) (c : Cls X.K C) (k : Meth X.K C m g) (l : fs.lookup m = none)
    (h : Q (.ref g, [.ref a]) s) : wpAny (model X.prog X.w) A (getMethod (.ref a) m pl) Q E s := by
  obtain ⟨mA, O, r, _, _, _⟩ := ins_get I.hok e
  have hn : mA m = none := RelO.none_of (by rw [← l]; exact r m)
  exact get_meth I.kIn O (c.get m) k.at_ k.fn hn h

theorem setattr_ok {y : V} {u : Value} {Q : Unit → Shared → Prop} (I : Inv X pins σ H s) (e : H a = some (.ins C dx fs)) (c : Cls X.K C) (n : NoAttr X.K C f) (hl : fs.length < 1000) (ry : RelV y u)
    (h : ∀ s', Inv X pins σ (upd H a (.ins C dx (putF f y fs))) s' → Q () s') : wpAny (model X.prog X.w) A (setAttr (.ref a) f u) Q E s := by
  obtain ⟨mA, O, r, wi, _, ho⟩ := ins_get I.hok e
  have hz : (fs.map (·.1)).length ≤ sizeLine := by rw [List.length_map, sizeLine_eq]; omega
  refine set_map I.kIn O c.sa c.po n.taker c.hd wi hz fun h' O' sb => h _ ?_
  have hd : ∃ o, h'.get? dx = some o := let ⟨o, _, _, e', _⟩ := O'.ns; ⟨o, e'⟩
  refine I.write (x := a) (e := dx) (by rw [e]; exact True.intro) (.inr ho) (fun b q hb z => (sb.2 b hb).trans z) hd ?_
  refine ⟨by rw [upd_ne O.ne]; exact ho, ?_, O.ne, O'.obj, _, O'.ns, fun g => ?_, fun g hg => ?_⟩
  · have := length_putF f y fs; omega
  · show RelO ((putF f y fs).lookup g) (if g = f then some u else mA g)
    rw [lookup_putF]
    by_cases q : g = f
    · rw [if_pos q, if_pos q]; exact ry
    · rw [if_neg q, if_neg q]; exact r g
  · by_cases q : g = f
    · rw [q]; exact (keys_putF f y fs).1
    · refine (keys_putF f y fs).2 g (wi g fun z => hg ?_)
      show (if g = f then some u else mA g) = none
      rw [if_neg q]; exact z

/-- a new instance, tracked, without attributes -/
theorem Inv.made (I : Inv X pins σ H s) : Inv X pins σ (upd (upd H s.heap.objs.size (.own (s.heap.objs.size + 1))) (s.heap.objs.size + 1) (.ins C s.heap.objs.size []))
    { s with heap := (s.heap.push PySem.W.emptyDict).push (PySem.W.instObj C s.heap.objs.size) } := by
  have e1 : (s.heap.push PySem.W.emptyDict).get? s.heap.objs.size = some PySem.W.emptyDict := Heap.get?_push_size s.heap rfl
  have e2 : ((s.heap.push PySem.W.emptyDict).push (PySem.W.instObj C s.heap.objs.size)).get? (s.heap.objs.size + 1) = some (PySem.W.instObj C s.heap.objs.size) := by
    have := Heap.get?_push_size (s.heap.push PySem.W.emptyDict) (o := PySem.W.instObj C s.heap.objs.size) rfl
    rwa [Heap.size_push] at this
  have e3 : (s.heap.push PySem.W.emptyDict).Ns s.heap.objs.size (fun _ => none) := ⟨PySem.W.emptyDict, #[], _, e1, rfl, (fun e he => absurd he (by simp)), fun _ => rfl⟩
  have I1 := I.laid (a := s.heap.objs.size) (o := .own (s.heap.objs.size + 1)) (h' := s.heap.push PySem.W.emptyDict) (t' := s.toks) (fun b u q => Heap.get?_push_of_some _ q) (Nat.le_refl _) ⟨_, e1⟩
  refine I1.laid (a := s.heap.objs.size + 1) (o := .ins C s.heap.objs.size []) (t' := s.toks) (fun b u q => Heap.get?_push_of_some _ q) (Nat.le_of_eq (Heap.size_push _ _)) ?_
  have ne : s.heap.objs.size ≠ s.heap.objs.size + 1 := Nat.ne_of_lt (Nat.lt_succ_self _)
  refine ⟨by rw [upd_ne ne, upd_same], Nat.zero_le _, ne, e2, fun _ => none, (Heap.Ns1.of_empty e3).at fun o q => Heap.get?_push_of_some _ q, fun _ => True.intro, fun y hy => absurd rfl hy⟩

/-- e.f where nothing but the object is asked: through attributeBase (super) and the last hold -/
theorem attr_of {prog : Program} {w : World} {env : Env} {e : Expr} {f : Str} {pos : Pos} {s : Shared} {Q : Value → Shared → Prop} (hb : attributeBase e f env (eval e env) = eval e env)
    (h : wpAny (model prog w) A (eval e env) (fun o s₁ => wpAny (model prog w) A (getAttr o f true) Q E s₁) E s) : wpAny (model prog w) A (eval (.Attribute e f pos) env) Q E s :=
  Attribute_any_ h (by rw [arm_eval_Attribute, hb])
end

/-! ### readings and rules -/
/-- e.f, an attribute of the instance -/
def tFld (K : PySem.W.Frag) (ta : TE) (f : Str) : TE := fun σ H Q => ta σ H fun x H1 => ∃ a C dx fs v, x = .ref a ∧ H1 a = some (.ins C dx fs) ∧ Cls K C ∧ NoAttr K C f ∧ fs.lookup f = some v ∧ Q v H1
/-- e.f = value -/
def sFld (K : PySem.W.Frag) (ta tv : TE) (f : Str) : TS := fun D σ H => tv σ H fun y H1 => ta σ H1 fun x H2 => ∃ a C dx fs, x = .ref a ∧ H2 a = some (.ins C dx fs) ∧ Cls K C ∧ NoAttr K C f ∧ fs.length < 1000 ∧
  D.nx σ (upd H2 a (.ins C dx (putF f y fs)))

section
variable {X : Cx} {o e value : Expr} {f : Str} {pos pos' tpos : Pos} {ta tv : TE}
theorem pe_fld (he : PE X e ta) (hb : attributeBase e f X.env (eval e X.env) = eval e X.env) : PE X (.Attribute e f pos) (tFld X.K ta f) := by
  intro pins s σ H Q I h
  refine attr_of hb (thn (he pins s σ H _ I h) fun u s1 ⟨x, H1, I1, rx, a, C, dx, fs, v, ex, ea, c, n, l, q⟩ => ?_)
  subst ex
  obtain rfl : u = Value.ref a := rx
  exact getattr_ok I1 ea c n l fun u' s2 I2 ru => ⟨v, H1, I2, ru, q⟩
theorem ps_fld (ha : PE X o ta) (hv : PE X value tv) (hs : swapsWith value (some (.Attribute o f pos')) pos.line X.env = pure false) : PS X (.Assign [.Attribute o f pos'] value pos) (sFld X.K ta tv f) := by
  intro pins s σ H D I h
  refine plainObj_wpAny_Assign_Attribute (thn (hv pins s σ H _ I h) fun u s1 ⟨y, H1, I1, ry, q⟩ => thn (ha pins s1 σ H1 _ I1 q) fun ov s2 ⟨x, H2, I2, rx, a, C, dx, fs, ex, ea, c, n, l, q2⟩ => ?_) hs
  subst ex
  obtain rfl : ov = Value.ref a := rx
  exact setattr_ok I2 ea c n l ry fun s3 I3 => ⟨σ, _, I3, q2⟩

end

/-! ### isinstance -/
section
variable {X : Cx} {pins : List (Addr × Obj)} {σ : St} {H : Hp} {s : Shared} {A : Around} {E : Value → Shared → Prop} {Q : Value → Shared → Prop} {c : Value} {b : Bool}
/-- the type of a value, as the fragment's deciders take it; for an instance its class -/
inductive TyOf (K : PySem.W.Frag) (H : Hp) : V → Value → Prop where
  | non : TyOf K H .non (.type "NoneType")
  | bl (x : Bool) : TyOf K H (.bl x) (.type "bool")
  | int (i : Int) : TyOf K H (.int i) (.type "int")
  | str (x : Str) : TyOf K H (.str x) (.type "str")
  | flt (x : UInt64) : TyOf K H (.flt x) (.type "float")
  | lst {a : Addr} {xs : List V} (e : H a = some (.lst xs)) : TyOf K H (.ref a) (.type "list")
  | frz {a : Addr} {o : Obj} {xs : List V} (e : H a = some (.frz o (.lst xs))) : TyOf K H (.ref a) (.type "list")
  | tup {a : Addr} {xs : List V} (e : H a = some (.tup xs)) : TyOf K H (.ref a) (.type "tuple")
  | dK {a : Addr} {kvs : List (Key × V)} (e : H a = some (.dK kvs)) : TyOf K H (.ref a) (.type "dict")
  | dT {a : Addr} {kvs : List (List Key × V)} (e : H a = some (.dT kvs)) : TyOf K H (.ref a) (.type "dict")
  | ins {a C dx : Addr} {fs : List (Str × V)} (e : H a = some (.ins C dx fs)) (cl : Cls K C) (ha : PySem.W.findIn K (.ref C) "__class__" = some (some (.builtin "object.__class__")))
      (hn : PySem.W.specialIn K (.builtin "object.__class__") "__get__" = some (some (.builtin "getset_descriptor.__get__"))) (htk : PySem.W.takesIn K (.builtin "object.__class__") = some true)
      (hm : PySem.W.mroIn K C (.type "object") = some true) : TyOf K H (.ref a) (.ref C)
/-- isinstance(x, c) for one class c, a built-in or an own one: kitOne's answer -/
theorem isinst_ok {x : V} {u t : Value} (I : Inv X pins σ H s) (rx : RelV x u) (ty : TyOf X.K H x t) (e : PySem.W.kitOne X.K t c = some b) (h : ∀ tk, Q (.bool b) { s with toks := tk }) :
    wpAny (model X.prog X.w) A (call (.builtin "isinstance") [u, c]) Q E s := by
  cases ty with
  | non => cases (show u = Value.none from rx); exact PySem.W.kia_one PySem.W.kitx_none I.kIn True.intro e (fun z => nomatch z) h
  | bl y => cases (show u = Value.bool y from rx); exact PySem.W.kia_one PySem.W.kitx_bool I.kIn True.intro e (fun z => nomatch z) h
  | int i => obtain ⟨t, q⟩ := (show ∃ t, u = Value.int i t from rx); cases q; exact PySem.W.kia_one PySem.W.kitx_int I.kIn True.intro e (fun z => nomatch z) h
  | str y => obtain ⟨t, q⟩ := (show ∃ t, u = Value.str y t from rx); cases q; exact PySem.W.kia_one PySem.W.kitx_str I.kIn True.intro e (fun z => nomatch z) h
  | flt y => obtain ⟨t, q⟩ := (show ∃ t, u = Value.float y t from rx); cases q; exact PySem.W.kia_one PySem.W.kitx_float I.kIn True.intro e (fun z => nomatch z) h
  | @lst a xs ea =>
    cases (show u = Value.ref a from rx)
    obtain ⟨_, _, n, _, h1⟩ := (show ObjOk X.prog X.w H s.heap a (.lst xs) from I.hok a _ ea)
    exact PySem.W.kia_one PySem.W.kitx_list I.kIn ⟨_, h1, rfl⟩ e (fun z => nomatch z) h
  | @frz a ob xs ea =>
    cases (show u = Value.ref a from rx)
    obtain ⟨_, _, _, n, _, h1⟩ := (show ObjOk X.prog X.w H s.heap a (.frz ob (.lst xs)) from I.hok a _ ea)
    exact PySem.W.kia_one PySem.W.kitx_list I.kIn ⟨_, h1, rfl⟩ e (fun z => nomatch z) h
  | @tup a xs ea =>
    cases (show u = Value.ref a from rx)
    obtain ⟨_, _, _, p⟩ := (show ObjOk X.prog X.w H s.heap a (.tup xs) from I.hok a _ ea)
    obtain ⟨o, h1, h2, _⟩ := p
    exact PySem.W.kia_one PySem.W.kitx_tuple I.kIn ⟨o, h1, h2⟩ e (fun z => nomatch z) h
  | @dK a kvs ea =>
    cases (show u = Value.ref a from rx)
    obtain ⟨_, _, vs, _, p⟩ := (show ObjOk X.prog X.w H s.heap a (.dK kvs) from I.hok a _ ea)
    obtain ⟨o, es, ep, h1, h2, _⟩ := p
    exact PySem.W.kia_one PySem.W.kitx_dict I.kIn ⟨o, h1, h2.1⟩ e (fun z => nomatch z) h
  | @dT a kvs ea =>
    cases (show u = Value.ref a from rx)
    obtain ⟨_, _, xs, _, o, es, ep, h1, h2, _⟩ := (show ObjOk X.prog X.w H s.heap a (.dT kvs) from I.hok a _ ea)
    exact PySem.W.kia_one PySem.W.kitx_dict I.kIn ⟨o, h1, h2.1⟩ e (fun z => nomatch z) h
  | @ins a C dx fs ea cl ha hn htk hm =>
    cases (show u = Value.ref a from rx)
    obtain ⟨mA, O, _⟩ := ins_get I.hok ea
    obtain ⟨od, J, _⟩ := O.look
    exact PySem.W.kia_one (PySem.W.kitx_own (cl.get _) cl.hd ha hn htk hm) I.kIn J e (fun z => nomatch z) h
end
end L2

namespace L2
open PySem PySem.Spec PyProof.Rows

/-! ### room -/
structure Room (k : Nat) (A : Around) : Prop where
  hd : A.handled = none
  dp : A.depth + 3 * k + 5 < recursionLimit
  un : A.units + 16 * k + 200 < cLine
theorem Room.mono {j k : Nat} {A : Around} (r : Room k A) (h : j ≤ k) : Room j A := ⟨r.hd, by have := r.dp; omega, by have := r.un; omega⟩
theorem Room.deeper {k : Nat} {A : Around} (r : Room (k + 1) A) (env : Env) : Room k (A.deeper env) :=
  ⟨r.hd, by have := r.dp; show A.depth + 1 + 3 * k + 5 < _; omega, by have := r.un; show A.units + 3 + 16 * k + 200 < _; omega⟩
theorem make_depth {A : Around} {C : Addr} {us : List Value} {kw : List (Str × Value)} : (A.under (.builtin "type.__call__" ⟨.ref C :: us, kw⟩)).depth = A.depth + 1 := by
  first | rfl | simp [Around.under, Code.weight, Code.isCreation, Code.isGuard, Code.isCaller, Code.frames, Code.isFrame, guardIds]
theorem make_units {A : Around} {C : Addr} {us : List Value} {kw : List (Str × Value)} : (A.under (.builtin "type.__call__" ⟨.ref C :: us, kw⟩)).units = A.units + 1 := by
  first | rfl | simp [Around.under, Code.cUnits, Code.frames, Code.isFrame]
theorem Room.make {k : Nat} {A : Around} (r : Room (k + 1) A) (C : Addr) (us : List Value) (kw : List (Str × Value)) : Room k (A.under (.builtin "type.__call__" ⟨.ref C :: us, kw⟩)) :=
  ⟨r.hd, by have := r.dp; rw [make_depth]; omega, by have := r.un; rw [make_units]; omega⟩
theorem Room.depth {k : Nat} {A : Around} (r : Room k A) : A.depth < recursionLimit := by have := r.dp; omega
theorem Room.units {k : Nat} {A : Around} (r : Room k A) : A.units + 64 < cLine := by have := r.un; omega

/-! ### argument lists and displays -/
def tNil : TA := fun _ H Q => Q [] H
def tCons (ta : TE) (tr : TA) : TA := fun σ H Q => ta σ H fun x H1 => tr σ H1 fun xs H2 => Q (x :: xs) H2
section
variable {X : Cx} {e : Expr} {es : List Expr} {te : TE} {t : TA} {pos : Pos}
theorem pa_nil : PA X [] tNil := fun _ _ _ _ H Q I h => Calls.spliced_nil ⟨[], H, I, .nil, h⟩
theorem pa_cons (ha : PE X e te) (hr : PA X es t) (hs : starEach (e :: es) X.env = (false, eval e X.env) :: starEach es X.env := by rfl) : PA X (e :: es) (tCons te t) := by
  intro pos pins s σ H Q I h
  rw [hs]
  show wpAny _ _ (spliced ((false, eval e X.env) :: backTo pos (starEach es X.env))) _ _ s
  refine Calls.spliced_cons (thn (ha pins s σ H _ I h) fun u s1 ⟨x, H1, I1, r1, q1⟩ => ?_)
  exact thn (hr pos pins s1 σ H1 _ I1 q1) fun us s2 ⟨xs, H2, I2, r2, q2⟩ => ⟨x :: xs, H2, I2, .cons r1 r2, q2⟩

/-- a tuple, a list of written items -/
def tTup (t : TA) : TE := fun σ H Q => t σ H fun xs H1 => xs.length ≤ sizeLine ∧ ∀ p, H1 p = none → Q (.ref p) (upd H1 p (.tup xs))
def tLst (t : TA) : TE := fun σ H Q => t σ H fun xs H1 => xs.length ≤ sizeLine ∧ ∀ p, H1 p = none → Q (.ref p) (upd H1 p (.lst xs))
theorem pe_tup {x1} (h : PA X es t) : PE X (.Tuple es x1 pos) (tTup t) := by
  intro pins s σ H Q I hq
  refine wpAny_Tuple_spliced (thn (h pos pins s σ H _ I hq) fun us s1 ⟨xs, H1, I1, r, z, q⟩ => ⟨by rw [← r.length]; exact z, ?_⟩)
  have hf : H1 s1.heap.objs.size = none := I1.hok.fresh (Nat.le_refl _)
  refine ⟨.ref s1.heap.objs.size, upd H1 s1.heap.objs.size (.tup xs), I1.laid (t' := s1.toks) (fun b u e => Heap.get?_push_of_some _ e) (Nat.le_refl _) ?_, rfl, q _ hf⟩
  exact ⟨z, us, r, ⟨_, Heap.get?_push_size _ rfl, rfl, _, rfl⟩⟩
theorem pe_lst (h : PA X es t) : PE X (.List es pos) (tLst t) := by
  intro pins s σ H Q I hq
  refine wpAny_List_spliced (thn (h pos pins s σ H _ I hq) fun us s1 ⟨xs, H1, I1, r, z, q⟩ => ⟨by rw [← r.length]; exact z, ?_⟩)
  have hf : H1 s1.heap.objs.size = none := I1.hok.fresh (Nat.le_refl _)
  refine ⟨.ref s1.heap.objs.size, upd H1 s1.heap.objs.size (.lst xs), I1.laid (t' := s1.toks) (fun b u e => Heap.get?_push_of_some _ e) (Nat.le_refl _) ?_, rfl, q _ hf⟩
  exact ⟨z, us, 0, r, Heap.get?_push_size _ rfl⟩
end

/-! ### what a def promises -/
/-- a def's promise: the bound arguments in the parameters' order, the heap, the wanted end, the wanted exception -/
abbrev Sp := List V → Hp → VK → XK → Prop
/-- how an exception lies behind a call (file 08 gives it): the callers' frames, abstract heap and state ahead of the call, the wish, the exception, the state -/
abbrev CXT := List Env → Hp → Shared → XK → Value → Shared → Prop

/-- the state at a call -/
structure Env0 (P : Program) (w : World) (K : PySem.W.Frag) (mg : Str → Option Value) (base : Heap) (A : Around) (outer : List Env) (s : Shared) (H : Hp) : Prop where
  frames : A.frames = some outer
  mod : Mod K mg base
  bs : ∀ b o, base.get? b = some o → s.heap.get? b = some o ∧ H b = none
  bsz : base.objs.size ≤ s.heap.objs.size
  funs : s.heap.FunFrames base outer
  frf : ∀ b ∈ frs outer, H b = none
  hok : HOk P w H s.heap
  bare : AllBare s.gens
/-- a call's end -/
def CE (outer : List Env) (P : Program) (w : World) (H : Hp) (s : Shared) (Q : VK) (u : Value) (s' : Shared) : Prop :=
  ∃ v H', s'.os = s.os ∧ AllBare s'.gens ∧ Un (frs outer) [] H H' s.heap s'.heap ∧ HOk P w H' s'.heap ∧ RelV v u ∧ Q v H'
def CR (CX : CXT) (outer : List Env) (P : Program) (w : World) (H : Hp) (s : Shared) (Q : VK) (E : XK) (r : Result) (s' : Shared) : Prop :=
  match r with
  | .ok (.ret u) => CE outer P w H s Q u s'
  | .ok _ => False
  | .error e => CX outer H s E e s'
structure FnOk (P : Program) (w : World) (K : PySem.W.Frag) (mg : Str → Option Value) (base : Heap) (CX : CXT) (k : Nat) (f : Addr) (fd : FuncData) (ps : List Str) (sp : Sp) : Prop where
  len : ∀ vs H Q E, sp vs H Q E → vs.length = ps.length
  run : ∀ (A : Around) (outer : List Env) (s : Shared) (H : Hp) (args : Args) (us : List Value) (vs : List V) (Q : VK) (E : XK), Room k A → Env0 P w K mg base A outer s H → BindsTo s fd args (ps.zip us) → Vals vs us → sp vs H Q E →
    codeAny (model P w) A (.call (.ref f) args) (CR CX outer P w H s Q E) s
/-- a weaker promise -/
theorem FnOk.imp {P : Program} {w : World} {K : PySem.W.Frag} {mg : Str → Option Value} {base : Heap} {CX : CXT} {k : Nat} {f : Addr} {fd : FuncData} {ps : List Str} {sp sp' : Sp} (F : FnOk P w K mg base CX k f fd ps sp)
    (h : ∀ vs H Q E, sp' vs H Q E → sp vs H Q E) : FnOk P w K mg base CX k f fd ps sp' :=
  ⟨fun vs H Q E q => F.len vs H Q E (h _ _ _ _ q), fun A outer s H args us vs Q E hr he hb hv hs => F.run A outer s H args us vs Q E hr he hb hv (h _ _ _ _ hs)⟩

theorem Env0.make {P : Program} {w : World} {K : PySem.W.Frag} {mg : Str → Option Value} {base : Heap} {A : Around} {outer : List Env} {s : Shared} {H : Hp} (e : Env0 P w K mg base A outer s H) (C : Addr) (us : List Value) (kw : List (Str × Value)) :
    Env0 P w K mg base (A.under (.builtin "type.__call__" ⟨.ref C :: us, kw⟩)) outer s H := ⟨by first | exact e.frames | (simpa [Around.under, Code.envs, Code.isFrame, pushEnvs] using e.frames), e.mod, e.bs, e.bsz, e.funs, e.frf, e.hok, e.bare⟩

section
variable {X : Cx} {pins : List (Addr × Obj)} {σ : St} {H : Hp} {s s' : Shared}
/-- from a body: what a callee wants -/
theorem Inv.env0 (I : Inv X pins σ H s) : Env0 X.prog X.w X.K X.mg X.base X.A X.stack s H :=
  ⟨I.ok.frames, I.ok.mod, I.bs, Nat.le_trans I.ok.bsz I.sz, I.stack, I.stkFree, I.hok, I.bare⟩
/-- behind a call -/
theorem Inv.after {Q : VK} {u : Value} (I : Inv X pins σ H s) (h : CE X.stack X.prog X.w H s Q u s') : EP X pins σ Q u s' := by
  obtain ⟨v, H', os, bare, un, hok, r, q⟩ := h
  obtain ⟨hh, g, d, t, os'⟩ := s'
  obtain rfl : os' = s.os := os
  exact ⟨v, H', I.call (h' := hh) (g' := g) (d' := d) (t' := t) (ch := []) un hok bare (fun b z => absurd z (by simp)), r, q⟩
end

/-! ### calls -/
/-- C(..): a new instance and its dict, then __init__ -/
def tMake (C : Addr) (sp : Sp) (dvs : List V) (E : XK) (t : TA) : TE := fun σ H Q => t σ H fun vs H1 => ∀ x dx, H1 x = none → H1 dx = none → dx ≠ x →
  sp (.ref x :: (vs ++ dvs)) (upd (upd H1 dx (.own x)) x (.ins C dx [])) (fun v H2 => v = .non ∧ Q (.ref x) H2) E

/-- how the parameters are bound: us the positional arguments, kw the keywords' values by name, ds the defaults that fill up -/
def Binds (K : PySem.W.Frag) (fd : FuncData) (ps : List Str) (ds : List Value) : Prop :=
  ∀ (s : Shared) (us : List Value), K.In s.heap → (us ++ ds).length = ps.length → BindsTo s fd ⟨us, []⟩ (ps.zip (us ++ ds))
/-- every parameter is given -/
theorem Binds.all {K : PySem.W.Frag} {fd : FuncData} {ps : List Str} (h : ∀ us : List Value, us.length = ps.length → bindArgs fd ⟨us, []⟩ = pure (ps.zip us)) : Binds K fd ps [] := fun s us _ hl => by
  rw [List.append_nil] at hl ⊢
  exact .of_eq (h us hl)

/-- an exception of a callee reaches what this body wants of exceptions -/
def Passes (CX : CXT) (X : Cx) (E : XK) : Prop := ∀ (pins : List (Addr × Obj)) (σ : St) (H : Hp) (s : Shared) (e : Value) (s' : Shared), Inv X pins σ H s → CX X.stack H s E e s' → X.xe e s'

section
variable {X : Cx} {CX : CXT} {k : Nat} {f C : Addr} {fd : FuncData} {ps : List Str} {sp : Sp} {dvs : List V} {ds : List Value} {E : XK} {x m : Str} {p pos apos : Pos} {e o : Expr} {es : List Expr} {ta : TE} {t : TA}




/-- what a class must have to be made -/
structure Mk (K : PySem.W.Frag) (C f : Addr) : Prop where
  makes : PySem.W.makesIn K C = true
  init : PySem.W.findIn K (.ref C) "__init__" = some (some (.ref f))
  fn : PySem.W.isFn K (.ref f) = true
  kp : PySem.W.keepIn K (.ref C) = true

theorem run_make {pins : List (Addr × Obj)} {σ : St} {H : Hp} {s : Shared} {Q : VK} {us : List Value} {vs : List V} (M : Mk X.K C f) (F : FnOk X.prog X.w X.K X.mg X.base CX k f fd ps sp) (hr : Room (k + 1) X.A) (hb : Binds X.K fd ps ds) (hd : Vals dvs ds)
    (hx : Passes CX X E) (I : Inv X pins σ H s) (r : Vals vs us)
    (h : ∀ x dx, H x = none → H dx = none → dx ≠ x → sp (.ref x :: (vs ++ dvs)) (upd (upd H dx (.own x)) x (.ins C dx [])) (fun v H2 => v = .non ∧ Q (.ref x) H2) E) :
    wpAny (model X.prog X.w) X.A (call (.ref C) us) (EP X pins σ Q) X.xe s := by
  have hq := h (s.heap.objs.size + 1) s.heap.objs.size (I.hok.fresh (Nat.le_succ _)) (I.hok.fresh (Nat.le_refl _)) (Nat.ne_of_lt (Nat.lt_succ_self _))
  have I2 := Inv.made (C := C) I
  have r2 : Vals (V.ref (s.heap.objs.size + 1) :: (vs ++ dvs)) (Value.ref (s.heap.objs.size + 1) :: (us ++ ds)) := .cons rfl (r.append hd)
  have hl : (Value.ref (s.heap.objs.size + 1) :: us ++ ds).length = ps.length := by
    have e := r2.length
    rw [F.len _ _ _ _ hq] at e
    exact e.symm
  refine wpAny_call (make_map (f := f) I.kIn M.makes M.init (beq_iff_eq.mp M.fn) (codeAny_mono (F.run _ X.stack _ _ ⟨Value.ref (s.heap.objs.size + 1) :: us, []⟩ (Value.ref (s.heap.objs.size + 1) :: (us ++ ds)) _ _ E (hr.make C us [])
    (I2.env0.make C us []) (hb _ (Value.ref (s.heap.objs.size + 1) :: us) I2.kIn hl) r2 hq) fun r s' hq' => ?_))
  cases r with
  | error e => exact hx pins σ _ _ e s' I2 hq'
  | ok fl =>
    cases fl with
    | ret u =>
      obtain ⟨v, H', I3, rv, ev, q3⟩ := I2.after hq'
      subst ev
      exact ⟨rv, ⟨V.ref (s.heap.objs.size + 1), H', I3, rfl, q3⟩⟩
    | next => exact False.elim hq'
    | brk => exact False.elim hq'
    | cont => exact False.elim hq'
theorem pe_make (M : Mk X.K C f) (F : FnOk X.prog X.w X.K X.mg X.base CX k f fd ps sp) (hr : Room (k + 1) X.A) (hg : Gl X x) (hm : X.mg x = some (.ref C)) (hb : Binds X.K fd ps ds) (hd : Vals dvs ds) (hx : Passes CX X E)
    (ha : PA X (e :: es) t) (hdb : (x == ("__debug__" : Str)) = false := by decide) (he : starEach (e :: es) X.env = (false, eval e X.env) :: starEach es X.env := by rfl) (hpl : (backTo pos (starEach es X.env)).any (·.1) = false := by rfl) :
    PE X (.Call (.Name x p) (e :: es) [] pos) (tMake C sp dvs E t) := by
  intro pins s σ H Q I h
  refine wpAny_Call_Name_kw (ld_glob I hg hm ?_ hdb)
  refine PySem.W.callWith_K (h₀ := X.base) I.ok.mod.kin M.kp (thn (ha pos pins s σ H _ I h) fun us s1 ⟨vs, H1, I1, r, q⟩ => ⟨I1.kIn, ?_⟩) he hpl
  exact run_make M F hr hb hd hx I1 r q
end

/-! ### keywords -/
section
variable {X : Cx} {CX : CXT} {k : Nat} {f C : Addr} {fd : FuncData} {ps ks : List Str} {sp : Sp} {E : XK} {x m : Str} {p pos apos kpos : Pos} {e o : Expr} {es : List Expr} {kws : List Keyword} {te ta : TE} {t tk : TA} {nm : Option Str}

variable {g : List Value → List Value → List Value} {gV : List V → List V → List V}
end

/-! ### a def's body keeps its promise -/
/-- names: the parameters first -/
structure FnScope (N P : List Str) (sc : Scope) : Prop where
  kind : sc.kind = .function
  co : sc.isCoroutine = false
  gen : sc.isGenerator = false
  nd : N.Nodup
  pre : N.take P.length = P
  par : ∀ x ∈ P, sc.names.lookup x = some .local ∨ sc.names.lookup x = some .cell
  nofree : ∀ y ∈ sc.names, y.2 ≠ .free

theorem bindL_out {kindOf : Str → Option NameKind} {x : Str} : ∀ {binds : List (Str × Value)} {m : Str → Option Value}, (∀ v, (x, v) ∉ binds) → bindL kindOf binds m x = m x
  | [], _, _ => rfl
  | (n, v) :: r, m, h => by
    unfold bindL
    rw [bindL_out fun w hw => h w (List.mem_cons_of_mem _ hw)]
    split
    · have : x ≠ n := by rintro rfl; exact h v List.mem_cons_self
      simp [this]
    · rfl
theorem bindC_out {kindOf : Str → Option NameKind} {x : Str} : ∀ {binds : List (Str × Value)} {m : Str → Option Value}, (∀ v, (x, v) ∉ binds) → bindC kindOf binds m x = m x
  | [], _, _ => rfl
  | (n, v) :: r, m, h => by
    unfold bindC
    rw [bindC_out fun w hw => h w (List.mem_cons_of_mem _ hw)]
    split
    · rfl
    · have : x ≠ n := by rintro rfl; exact h v List.mem_cons_self
      simp [this]
theorem bindL_get {kindOf : Str → Option NameKind} {x : Str} {v : Value} : ∀ {P : List Str} {vs : List Value} {i : Nat} {m : Str → Option Value}, P.Nodup → P[i]? = some x → vs[i]? = some v → kindOf x = some .local →
    bindL kindOf (P.zip vs) m x = some v
  | [], _, _, _, _, h, _, _ => by simp at h
  | _ :: _, [], _, _, _, _, h, _ => by simp at h
  | p :: P, w :: vs, 0, m, nd, h1, h2, hk => by
    simp at h1 h2; subst h1; subst h2
    show bindL kindOf ((p, w) :: P.zip vs) m p = _
    unfold bindL
    rw [bindL_out fun v hv => (List.nodup_cons.mp nd).1 (List.of_mem_zip hv).1, if_pos hk]
    simp
  | p :: P, w :: vs, i + 1, m, nd, h1, h2, hk => by
    show bindL kindOf ((p, w) :: P.zip vs) m x = _
    unfold bindL
    exact bindL_get (i := i) (List.nodup_cons.mp nd).2 (by simpa using h1) (by simpa using h2) hk
theorem bindC_get {kindOf : Str → Option NameKind} {x : Str} {v : Value} : ∀ {P : List Str} {vs : List Value} {i : Nat} {m : Str → Option Value}, P.Nodup → P[i]? = some x → vs[i]? = some v → kindOf x ≠ some .local →
    bindC kindOf (P.zip vs) m x = some v
  | [], _, _, _, _, h, _, _ => by simp at h
  | _ :: _, [], _, _, _, _, h, _ => by simp at h
  | p :: P, w :: vs, 0, m, nd, h1, h2, hk => by
    simp at h1 h2; subst h1; subst h2
    show bindC kindOf ((p, w) :: P.zip vs) m p = _
    unfold bindC
    rw [bindC_out fun v hv => (List.nodup_cons.mp nd).1 (List.of_mem_zip hv).1, if_neg hk]
    simp
  | p :: P, w :: vs, i + 1, m, nd, h1, h2, hk => by
    show bindC kindOf ((p, w) :: P.zip vs) m x = _
    unfold bindC
    exact bindC_get (i := i) (List.nodup_cons.mp nd).2 (by simpa using h1) (by simpa using h2) hk

/-- the names' values at the entry -/
def start (N : List Str) (vs : List V) : St := vs.map some ++ List.replicate (N.length - vs.length) none

/-- the context of a def's body, at its entry; an exception leaves the frame, then lies as CX says -/
def cxOf (CX : CXT) (P : Program) (w : World) (K : PySem.W.Frag) (mg : Str → Option Value) (base : Heap) (N : List Str) (qual : Str) (scope : Scope) (f : Addr) (cd : Value) (A : Around) (outer : List Env) (s : Shared) (H : Hp) (E : XK) : Cx where
  prog := P
  w := w
  K := K
  mg := mg
  base := base
  A := A.deeper (envOfC qual scope s.heap.objs.size f cd)
  N := N
  s₀ := s
  H₀ := H
  env := envOfC qual scope s.heap.objs.size f cd
  outer := outer
  stack := envOfC qual scope s.heap.objs.size f cd :: outer
  ex := []
  calm := true
  fn := fun _ => true
  pn := []
  xe := fun e s' => wpAny (model P w) (A.deeper (envOfC qual scope s.heap.objs.size f cd)) (leaving (envOfC qual scope s.heap.objs.size f cd) e) (fun _ s'' => CX outer H s E e s'') (fun e' s'' => CX outer H s E e' s'') s'

theorem cell_has {sc : Scope} {n : Nat} {x : Str} (h : sc.names.lookup x = some .cell) : ∃ c, (cellsFrom n sc.names []).lookup x = some c := by
  have q := PySem.W.cellsFrom_some sc.names n [] (.inl h)
  exact Option.isSome_iff_exists.mp q

theorem inv_start {CX : CXT} {P : Program} {w : World} {K : PySem.W.Frag} {mg : Str → Option Value} {base : Heap} {N ps : List Str} {qual : Str} {scope : Scope} {f : Addr} {cd : Value} {A : Around} {outer : List Env} {s s1 : Shared} {H : Hp} {E : XK} {us : List Value} {vs : List V}
    (S : FnScope N ps scope) (hd : A.handled = none) (e0 : Env0 P w K mg base A outer s H) (hl : vs.length = ps.length) (r : Vals vs us)
    (x : InCallC s s.heap.objs.size (bindL (envOfC qual scope s.heap.objs.size f cd).kindOf (ps.zip us) fun _ => none) (cellsFrom (s.heap.objs.size + 1) scope.names []) (bindC (envOfC qual scope s.heap.objs.size f cd).kindOf (ps.zip us) fun _ => none) s1) :
    Inv (cxOf CX P w K mg base N qual scope f cd A outer s H E) [] (start N vs) H s1 := by
  have hpl : ps.length ≤ N.length := by have := congrArg List.length S.pre; rw [List.length_take] at this; omega
  obtain ⟨h1, tk, rfl, hk⟩ := x.done
  have noA : ∀ b : Addr, b ∉ (cxOf CX P w K mg base N qual scope f cd A outer s H E).ex := fun b z => absurd (show b ∈ ([] : List Addr) from z) (by simp)
  refine ⟨⟨e0.mod, S.kind, rfl, rfl, Nat.le_refl _, fun y z c h1 h2 => ?_, fun y hy => ?_, fun y c _ h => ?_, fun _ => hd, Around.frames_deeper e0.frames, .inr ⟨rfl, rfl⟩, fun b z => absurd z (noA b), e0.bs, e0.bsz, fun b _ _ => noA b, fun b z => absurd z (noA b), e0.funs, e0.frf⟩,
    rfl, e0.bare, Un.kept hk, ⟨_, x.toInCall.ns, fun i y v h1 h2 h3 => ?_⟩, fun y c h => ⟨_, x.cell y c h⟩, e0.hok.fresh (Nat.le_refl _), fun y c h => ?_, fun p hp => absurd (show p ∈ ([] : List (Addr × Obj)) from hp) (by simp), e0.hok.kept hk, ?_⟩
  · exact name_of_addr x.apart (PySem.mem_of_lookup h1) (PySem.mem_of_lookup h2)
  · have hy : scope.names.lookup y = some .cell ∨ scope.names.lookup y = some .free := hy
    rcases hy with hy | hy
    · exact cell_has hy
    · exact absurd rfl (S.nofree _ (PySem.mem_of_lookup hy))
  · exact Nat.le_of_lt (x.above y c (PySem.mem_of_lookup h))
  · have hi : i < vs.length := by
      unfold start at h2
      by_cases hi : i < vs.length
      · exact hi
      · rw [List.getElem?_append_right (by simpa using hi)] at h2
        rw [List.getElem?_replicate] at h2
        split at h2 <;> cases h2
    have ha : vs[i]? = some v := by
      unfold start at h2
      rw [List.getElem?_append_left (by simpa using hi), List.getElem?_map] at h2
      cases e : vs[i]? with
      | none => rw [e] at h2; cases h2
      | some a => rw [e] at h2; cases h2; rfl
    obtain ⟨u, hu, rv⟩ := r.get ha
    have hp : ps[i]? = some y := by
      rw [← S.pre, List.getElem?_take_of_lt (by omega)]; exact h1
    have ndP : ps.Nodup := by rw [← S.pre]; exact S.nd.sublist (List.take_sublist _ _)
    refine ⟨u, rv, ?_⟩
    rcases S.par y (List.mem_of_getElem? hp) with k | k
    · exact .inl ⟨k, bindL_get ndP hp hu k⟩
    · obtain ⟨c, e⟩ := cell_has (n := s.heap.objs.size + 1) k
      refine .inr ⟨.inl k, c, e, ?_⟩
      have q := x.cell y c e
      rw [bindC_get ndP hp hu (by show scope.names.lookup y ≠ _; rw [k]; decide)] at q
      exact q
  · exact e0.hok.fresh (Nat.le_of_lt (x.above y c (PySem.mem_of_lookup h)))
  · unfold start
    show _ = N.length
    rw [List.length_append, List.length_map, List.length_replicate]
    omega

/-- THE RULE: a def (or a method) of the text, by its body. The body's reading t is chosen for each entry; it is run at the parameters' values -/
theorem fn_of {CX : CXT} {P : Program} {w : World} {K : PySem.W.Frag} {mg : Str → Option Value} {base : Heap} {k : Nat} {f : Addr} {name qual : Str} {params : Arguments} {body : List Stmt} {scope : Scope} {dV kV doc pm cdv ct oc : Value} {an od : Option Addr}
    {osl : Array (Option Value)} {N ps : List Str} {sp : Sp} (lk : K.lookup f = some ⟨oc, od, .func (PySem.W.fnOf name qual params body scope dV kV doc pm an cdv ct), osl⟩) (hcd : PySem.W.codeIn K cdv qual = true) (S : FnScope N ps scope)
    (len : ∀ vs H Q E, sp vs H Q E → vs.length = ps.length)
    (hbody : ∀ (A : Around) (outer : List Env) (s : Shared) (H : Hp) (vs : List V) (Q : VK) (E : XK), Room k (A.deeper (envOfC qual scope s.heap.objs.size f cdv)) → sp vs H Q E →
      ∃ t, PSs (cxOf CX P w K mg base N qual scope f cdv A outer s H E) body t ∧ t { nx := fun _ H' => Q .non H', rt := Q } (start N vs) H) :
    FnOk P w K mg base CX (k + 1) f (PySem.W.fnOf name qual params body scope dV kV doc pm an cdv ct) ps sp := by
  refine ⟨len, fun A outer s H args us vs Q E hr e0 hb r hsp => ?_⟩
  have hl := len _ _ _ _ hsp
  have KX : K.In s.heap := e0.mod.kin.keeps fun b o e => (e0.bs b o e).1
  have lim : s.heap.NoLimit := e0.mod.nolimit.keeps fun b o e => (e0.bs b o e).1
  have hkind : ∀ y ∈ ps.zip us, scope.names.lookup y.1 = some .local ∨ (scope.names.lookup y.1 = some .cell ∧ ((cellsFrom (s.heap.objs.size + 1) scope.names []).lookup y.1).isSome = true) := fun ⟨n, v⟩ hy => by
    rcases S.par n (List.of_mem_zip hy).1 with q | q
    · exact .inl q
    · exact .inr ⟨q, PySem.W.cellsFrom_some _ _ _ (.inl q)⟩
  refine codeAny_call_function hr.depth (KX _ _ lk) rfl S.co S.gen rfl (PySem.W.codeRec_of KX hcd) (hb _ _ _ _ ?_)
  refine wpAny_newFunctionEnv_cells S.kind hkind fun env he s1 x => ?_
  subst he
  refine ⟨lim.keeps x.toInCall.keep, codeAny_func ?_⟩
  obtain ⟨t, ht, hq⟩ := hbody A outer s H vs Q E (hr.deeper _) hsp
  have I : Inv (cxOf CX P w K mg base N qual scope f cdv A outer s H E) [] (start N vs) H s1 := inv_start S hr.hd e0 hl r x
  refine wpAny_mono (ht [] s1 (start N vs) H _ I hq) (fun fl s' hs => ?_) fun e s' hs => hs
  have fin : ∀ {σ' : St} {H' : Hp} {v : V} {u : Value}, Inv (cxOf CX P w K mg base N qual scope f cdv A outer s H E) [] σ' H' s' → RelV v u → Q v H' → CE outer P w H s Q u s' :=
    fun {σ' H' v u} J rv q => ⟨v, H', J.os, J.bare, J.base, J.hok, rv, q⟩
  cases fl with
  | ret u =>
    obtain ⟨v, σ', H', J, rv, q⟩ := hs
    exact fin J rv q
  | next =>
    obtain ⟨σ', H', J, q⟩ := hs
    exact fin (v := V.non) (u := Value.none) J rfl q
  | brk =>
    obtain ⟨_, _, _, q⟩ := hs
    exact False.elim q
  | cont =>
    obtain ⟨_, _, _, q⟩ := hs
    exact False.elim q
end L2

namespace L2
open PySem PySem.Spec PyProof.Rows
section
variable {X : Cx} {x : Str} {p pos : Pos} {e : Expr} {es : List Expr} {t : TA} {id T : String} {r : List V → Hp → VK → Prop}

def tCB (r : List V → Hp → VK → Prop) (t : TA) : TE := fun σ H Q => t σ H fun vs H1 => r vs H1 Q
/-- f(e, ..), f a built-in function -/
theorem pe_callB (hc : CallR X (.builtin id) r) (hg : Gl X x) (hm : X.mg x = none) (hv : bootBuiltins x = some (.builtin id)) (ha : PA X (e :: es) t) (hn : x ≠ "__name__" := by decide) (hdb : (x == ("__debug__" : Str)) = false := by decide)
    (he : starEach (e :: es) X.env = (false, eval e X.env) :: starEach es X.env := by rfl) (hpl : (backTo pos (starEach es X.env)).any (·.1) = false := by rfl) : PE X (.Call (.Name x p) (e :: es) [] pos) (tCB r t) := by
  intro pins s σ H Q I h
  refine wpAny_Call_Name_kw (ld_blt I hg hm hv ?_ hn hdb)
  exact PyProof.Rows.callWith_builtin1 (thn (ha pos pins s σ H _ I h) fun us s1 ⟨vs, H1, I1, r1, q1⟩ => hc pins s1 σ H1 vs us Q I1 r1 q1) he hpl
/-- T(e, ..), T a built-in type -/
theorem pe_callTy (hc : CallR X (.type T) r) (hg : Gl X x) (hm : X.mg x = none) (hv : bootBuiltins x = some (.type T)) (ha : PA X (e :: es) t) (hn : x ≠ "__name__" := by decide) (hdb : (x == ("__debug__" : Str)) = false := by decide)
    (he : starEach (e :: es) X.env = (false, eval e X.env) :: starEach es X.env := by rfl) (hpl : (backTo pos (starEach es X.env)).any (·.1) = false := by rfl) : PE X (.Call (.Name x p) (e :: es) [] pos) (tCB r t) := by
  intro pins s σ H Q I h
  refine wpAny_Call_Name_kw (ld_blt I hg hm hv ?_ hn hdb)
  exact PyProof.Rows.callWith_type1 (thn (ha pos pins s σ H _ I h) fun us s1 ⟨vs, H1, I1, r1, q1⟩ => hc pins s1 σ H1 vs us Q I1 r1 q1) he hpl
end
end L2

namespace HT
open PySem PyProof.Rows



section
open PySem.SeqAt
open PySem.AutoSeq1 (wpAny_loadPart')
open PySem.MeetsSeq PySem.MeetsSeq2 PySem.MeetsSeq3

end

section
variable {prog : Program} {w : World} {A : Around} {E : Value → Shared → Prop} {s : Shared}



/-! ### t[a:b], not the whole -/

end
end HT

namespace L2
open PySem PySem.Spec PyProof.Rows

/-! ### the parts of a slice -/


section
variable {X : Cx} {e : Expr} {te : TE} {lo hi : Option Expr} {tl th : TO} {pos p2 : Pos}




/-! ### t < u, t + u -/
end
end L2

namespace L2
open PySem PySem.Spec PyProof.Rows

/-! ### places -/
/-- the place that an index of any sign means -/
def ixN (n : Nat) (i : Int) : Option Nat := if 0 ≤ i then (if i < n then some i.toNat else none) else if -(n : Int) ≤ i then some (i + n).toNat else none
def atI {α : Type} (xs : List α) (i : Int) : Option α := (ixN xs.length i).bind fun j => xs[j]?
theorem ixN_seq {n : Nat} {i : Int} {j : Nat} (h : ixN n i = some j) : seqIndex? i n = some j ∧ j < n ∧ -(n : Int) ≤ i ∧ i < n := by
  unfold ixN at h
  by_cases h0 : 0 ≤ i
  · rw [if_pos h0] at h
    by_cases h1 : i < n
    · rw [if_pos h1] at h
      have e : i.toNat = j := Option.some.inj h
      exact ⟨by rw [seqIndex_of h0 h1, e], by omega, by omega, h1⟩
    · rw [if_neg h1] at h; cases h
  · rw [if_neg h0] at h
    by_cases h1 : -(n : Int) ≤ i
    · rw [if_pos h1] at h
      have e : (i + n).toNat = j := Option.some.inj h
      exact ⟨by rw [seqIndex_neg (by omega) h1, e], by omega, h1, by omega⟩
    · rw [if_neg h1] at h; cases h
theorem atI_get {α : Type} {xs : List α} {i : Int} {v : α} (h : atI xs i = some v) : ∃ j, seqIndex? i xs.length = some j ∧ xs[j]? = some v ∧ j < xs.length ∧ -(xs.length : Int) ≤ i ∧ i < xs.length := by
  unfold atI at h
  cases e : ixN xs.length i with
  | none => rw [e] at h; cases h
  | some j =>
    rw [e] at h
    obtain ⟨h1, h2, h3, h4⟩ := ixN_seq e
    exact ⟨j, h1, h, h2, h3, h4⟩
theorem atI_nat {α : Type} {xs : List α} {j : Nat} {v : α} (h : xs[j]? = some v) : atI xs (j : Int) = some v := by
  have hj : j < xs.length := (List.getElem?_eq_some_iff.mp h).1
  have e : ixN xs.length (j : Int) = some j := by
    unfold ixN
    rw [if_pos (by omega), if_pos (by omega)]; simp
  unfold atI; rw [e]; exact h

/-! ### what may be subscripted -/
/-- what stands as an index of a plain subscript -/
def PlainIx (b : Expr) : Prop := ∀ o i, subscripted b false o i = operate [o, i] (getItem o i)
/-- a subscript by values -/
def IxR (X : Cx) (r : R2) : Prop :=
  ∀ (value slice : Expr) (pins : List (Addr × Obj)) (s : Shared) (σ : St) (H : Hp) (x y : V) (v u : Value) (Q : VK), Inv X pins σ H s → RelV x v → RelV y u → r x y H Q →
    subscripted slice false v u = operate [v, u] (getItem v u) → wpAny (model X.prog X.w) X.A (subscriptTail value slice v u) (EP X pins σ Q) X.xe s
/-- a call of a builtin's method by values: the receiver, the arguments -/
def MtR (X : Cx) (id : String) (r : V → List V → Hp → VK → Prop) : Prop :=
  ∀ (pins : List (Addr × Obj)) (s : Shared) (σ : St) (H : Hp) (x : V) (xs : List V) (v : Value) (us : List Value) (Q : VK), Inv X pins σ H s → RelV x v → Vals xs us → r x xs H Q →
    wpAny (model X.prog X.w) X.A (call (.builtin id) (v :: us)) (EP X pins σ Q) X.xe s
section
variable {X : Cx} {a b : Expr} {ta tb : TE} {pos : Pos}
/-- a[b] -/
theorem pe_ix {r : R2} (hr : IxR X r) (ha : PE X a ta) (hb : PE X b tb) (hs : PlainIx b) : PE X (.Subscript a b pos) (tOp r ta tb) := by
  intro pins s σ H Q I h
  exact Subscript_ (binT ha hb I h fun v u s2 x y H2 I2 rx ry q => hr a b pins s2 σ H2 x y v u Q I2 rx ry q (hs _ _))

def rIxL (K : PySem.W.Frag) : R2 := fun x y H Q => ∃ p xs i v, x = .ref p ∧ y = .int i ∧ SqL K H p xs ∧ atI xs i = some v ∧ Q v H
def rIxT (K : PySem.W.Frag) : R2 := fun x y H Q => ∃ p xs i v, x = .ref p ∧ y = .int i ∧ SqT K H p xs ∧ atI xs i = some v ∧ Q v H
theorem ix_list : IxR X (rIxL X.K) := by
  intro value slice pins s σ H x y v u Q I rx ry h hs
  obtain ⟨p, xs, i, z, rfl, rfl, hq, he, q⟩ := h
  cases rx
  obtain ⟨t, rfl⟩ := ry
  obtain ⟨its, r, pl, hz⟩ := I.list hq
  obtain ⟨j, h1, h2, h3, h4, h5⟩ := atI_get he
  obtain ⟨w, ew, rw'⟩ := r.get h2
  have hl := r.length
  have hn := line63
  have fin : EP X pins σ Q w s := ⟨z, H, I, rw', q⟩
  by_cases h0 : 0 ≤ i
  · have hj : i.toNat = j := by
      rw [seqIndex_of h0 h5] at h1
      exact Option.some.inj h1
    exact item_listR pl.isList h0 (by omega) (by rw [hj]; simpa using ew) fin hs
  · have hj : (i + (its.toArray.size : Int)).toNat = j := by
      rw [seqIndex_neg (by omega) h4] at h1
      rw [List.size_toArray, ← hl]
      exact Option.some.inj h1
    exact subscriptTail_builtinR (x := w) pl.isList.typeIs slot_list_getitem.lookup
      (wpAny_getItem_list_neg (Q := fun r s' => r = w ∧ EP X pins σ Q r s') pl.isList (by omega) (by rw [List.size_toArray] <;> omega) (by omega) (by rw [hj]; simpa using ew) ⟨rfl, fin⟩) hs
theorem ix_tup : IxR X (rIxT X.K) := by
  intro value slice pins s σ H x y v u Q I rx ry h hs
  obtain ⟨p, xs, i, z, rfl, rfl, hq, he, q⟩ := h
  cases rx
  obtain ⟨t, rfl⟩ := ry
  obtain ⟨its, r, pl, hz⟩ := I.tuple hq
  obtain ⟨j, h1, h2, h3, h4, h5⟩ := atI_get he
  obtain ⟨w, ew, rw'⟩ := r.get h2
  have hl := r.length
  have hn := line63
  have fin : EP X pins σ Q w s := ⟨z, H, I, rw', q⟩
  exact subscriptTail_builtinR (x := w) pl.typeIs slot_tuple_getitem.lookup
    (getItem_tuple (j := j) (Q := fun r s' => r = w ∧ EP X pins σ Q r s') pl (by omega) (by omega) (by rw [List.size_toArray, ← hl]; exact h1) (by simpa using ew) ⟨rfl, fin⟩) hs

/-! ### xs[i] = v, any sign -/
/-- the list's object behind a store -/
theorem mapSeq_set (its : List Value) (n j : Nat) (u : Value) : Obj.mapSeq (·.setIfInBounds j u) { cls := .type "list", data := .seq its.toArray n } = { cls := .type "list", data := .seq (its.set j u).toArray n } := by
  simp [Obj.mapSeq]
theorem Inv.lst {pins : List (Addr × Obj)} {σ : St} {H : Hp} {s : Shared} {p : Addr} {xs : List V} (I : Inv X pins σ H s) (h : H p = some (.lst xs)) :
    ∃ (its : List Value) (n : Nat), Vals xs its ∧ s.heap.get? p = some { cls := .type "list", data := .seq its.toArray n } ∧ xs.length ≤ sizeLine := by
  obtain ⟨z, its, n, r, e⟩ := I.hok p _ h
  exact ⟨its, n, r, e, z⟩
/-- the list at p is written by an update of its object -/
theorem Inv.lstUpd {pins : List (Addr × Obj)} {σ : St} {H : Hp} {s : Shared} {p : Addr} {xs ys : List V} {its its' : List Value} {n n' : Nat} {f : Obj → Obj} (I : Inv X pins σ H s) (h : H p = some (.lst xs))
    (ho : s.heap.get? p = some { cls := .type "list", data := .seq its.toArray n }) (hf : f { cls := .type "list", data := .seq its.toArray n } = { cls := .type "list", data := .seq its'.toArray n' }) (r : Vals ys its') (hz : ys.length ≤ sizeLine) (t : Nat) :
    Inv X pins σ (upd H p (.lst ys)) { s with heap := s.heap.update p f, toks := t } := by
  have e : (s.heap.update p f).get? p = some { cls := .type "list", data := .seq its'.toArray n' } := by
    rw [Heap.get?_update_self f ho (by rw [hf] <;> rfl), hf]
  refine I.write (x := p) (e := p) (by rw [h]; trivial) (.inl rfl) (fun b u hb q => (Heap.get?_update_other _ _ (Ne.symm hb)).trans q) ⟨_, e⟩ ?_
  exact ⟨hz, its', n', r, e⟩
def rSetL : V → V → V → Hp → (Hp → Prop) → Prop := fun o i v H Q => ∃ p xs k j, o = .ref p ∧ i = .int k ∧ H p = some (.lst xs) ∧ ixN xs.length k = some j ∧ Q (upd H p (.lst (xs.set j v)))
theorem set_list : PSet X rSetL := by
  intro pins s σ H o i v ov iv u Q I ro ri rv h
  obtain ⟨p, xs, k, j, rfl, rfl, hp, hj, q⟩ := h
  cases ro
  obtain ⟨t, rfl⟩ := ri
  obtain ⟨its, n, r, ho, hz⟩ := I.lst hp
  obtain ⟨h1, h2, h3, h4⟩ := ixN_seq hj
  have hl := r.length
  have hn := line63
  have I' : Inv X pins σ (upd H p (.lst (xs.set j v))) { s with heap := s.heap.update p (Obj.mapSeq (·.setIfInBounds j u)) } :=
    I.lstUpd hp ho (mapSeq_set its n j u) (r.set rv j) (by rw [List.length_set]; exact hz) s.toks
  by_cases h0 : 0 ≤ k
  · have hk : k.toNat = j := by
      rw [seqIndex_of h0 h4] at h1
      exact Option.some.inj h1
    exact PySem.W.ki_setAt ho h0 (by omega) (by rw [List.size_toArray, ← hl]; exact h4) (by rw [hk]; exact ⟨_, I', q⟩)
  · have hk : (k + (its.toArray.size : Int)).toNat = j := by
      rw [seqIndex_neg (by omega) h3] at h1
      rw [List.size_toArray, ← hl]
      exact Option.some.inj h1
    exact PySem.W.ki_setBack ho (by omega) (by rw [List.size_toArray, ← hl]; exact h3) (by omega) (by rw [hk]; exact ⟨_, I', q⟩)

/-! ### slices -/

/-! ### in, not in: flat items -/
def flatV : V → Bool
  | .non => true
  | .bl _ => true
  | .int _ => true
  | .str _ => true
  | _ => false
/-- == of flat values -/
def eqV : V → V → Bool
  | .non, .non => true
  | .bl a, .bl b => a == b
  | .bl a, .int b => (if a then 1 else 0) == b
  | .int a, .bl b => a == (if b then 1 else 0)
  | .int a, .int b => a == b
  | .str a, .str b => a == b
  | _, _ => false
theorem eqAt_V {A : Around} {s : Shared} {y x : V} {u v : Value} (ry : RelV y u) (rx : RelV x v) (fy : flatV y = true) (fx : flatV x = true) : SeqAt.EqAt A s u v (eqV y x) := by
  cases y with
  | non =>
    cases ry
    cases x with
    | non => cases rx; exact SeqAt.EqAt.same _
    | bl b => cases rx; exact SeqAt.EqAt.none_bool b
    | int b => obtain ⟨t, rfl⟩ := rx; exact SeqAt.EqAt.none_int b t
    | str b => obtain ⟨t, rfl⟩ := rx; exact SeqAt.EqAt.none_str b t
    | _ => exact absurd (show false = true from fx) Bool.false_ne_true
  | bl a =>
    cases ry
    cases x with
    | non => cases rx; exact SeqAt.EqAt.bool_none a
    | bl b => cases rx; exact SeqAt.EqAt.bool_bool a b
    | int b => obtain ⟨t, rfl⟩ := rx; exact SeqAt.EqAt.bool_int a b t
    | str b => obtain ⟨t, rfl⟩ := rx; exact SeqAt.EqAt.bool_str a b t
    | _ => exact absurd (show false = true from fx) Bool.false_ne_true
  | int a =>
    obtain ⟨t', rfl⟩ := ry
    cases x with
    | non => cases rx; exact SeqAt.EqAt.int_none a t'
    | bl b => cases rx; exact SeqAt.EqAt.int_bool a t' b
    | int b => obtain ⟨t, rfl⟩ := rx; exact SeqAt.EqAt.int_int a t' b t
    | str b => obtain ⟨t, rfl⟩ := rx; exact SeqAt.EqAt.int_str a t' b t
    | _ => exact absurd (show false = true from fx) Bool.false_ne_true
  | str a =>
    obtain ⟨t', rfl⟩ := ry
    cases x with
    | non => cases rx; exact SeqAt.EqAt.str_none a t'
    | bl b => cases rx; exact SeqAt.EqAt.str_bool a t' b
    | int b => obtain ⟨t, rfl⟩ := rx; exact SeqAt.EqAt.str_int a t' b t
    | str b => obtain ⟨t, rfl⟩ := rx; exact SeqAt.EqAt.str_str a t' b t
    | _ => exact absurd (show false = true from fx) Bool.false_ne_true
  | _ => exact absurd (show false = true from fy) Bool.false_ne_true
/-- the items' answers, read off the values (a value's own answer does not lean on its token) -/
def eqU (x : V) (u : Value) : Bool := match u with
  | .none => eqV .non x
  | .bool b => eqV (.bl b) x
  | .int i _ => eqV (.int i) x
  | .str z _ => eqV (.str z) x
  | _ => false
theorem eqU_of {x y : V} {u : Value} (r : RelV y u) (f : flatV y = true) : eqU x u = eqV y x := by
  cases y with
  | non => cases r; rfl
  | bl b => cases r; rfl
  | int i => obtain ⟨t, rfl⟩ := r; rfl
  | str z => obtain ⟨t, rfl⟩ := r; rfl
  | _ => exact absurd (show false = true from f) Bool.false_ne_true
theorem any_eqU {x : V} : ∀ {xs : List V} {us : List Value}, Vals xs us → xs.all flatV = true → us.any (eqU x) = xs.any fun y => eqV y x
  | _, _, .nil, _ => rfl
  | y :: xs, u :: us, .cons r t, f => by
    rw [List.all_cons, Bool.and_eq_true] at f
    rw [List.any_cons, List.any_cons, eqU_of r f.1, any_eqU t f.2]
theorem mem_eqAt {A : Around} {s : Shared} {x : V} {v : Value} (rx : RelV x v) (fx : flatV x = true) : ∀ {xs : List V} {us : List Value}, Vals xs us → xs.all flatV = true → ∀ u ∈ us, SeqAt.EqAt A s u v (eqU x u)
  | _, _, .nil, _ => fun u hu => by cases hu
  | y :: xs, u :: us, .cons r t, f => fun u' hu => by
    rw [List.all_cons, Bool.and_eq_true] at f
    rcases List.mem_cons.mp hu with rfl | hu
    · rw [eqU_of r f.1]; exact eqAt_V r rx f.1 fx
    · exact mem_eqAt rx fx t f.2 u' hu
def inV (x : V) (xs : List V) : Bool := xs.any fun y => eqV y x
/-- x in a list or tuple of flat items -/
def rIn (K : PySem.W.Frag) (neg : Bool) : R2 := fun x y H Q => ∃ p xs, y = .ref p ∧ (SqL K H p xs ∨ SqT K H p xs) ∧ flatV x = true ∧ xs.all flatV = true ∧ Q (.bl (if neg then !inV x xs else inV x xs)) H
theorem op_notIn_seq : OpR X (compareOp .NotIn) (rIn X.K true) := by
  intro pins s σ H x y v u Q I rx ry h
  obtain ⟨p, xs, rfl, hq, fx, fs, q⟩ := h
  cases ry
  rcases hq with hq | hq
  · obtain ⟨its, r, pl, hz⟩ := I.list hq
    refine SeqAt.notIn_listAt (eqU x) pl.isList (fun w hw => mem_eqAt rx fx r fs w (by simpa using hw)) ⟨.bl _, H, I, rfl, ?_⟩
    rw [show its.toArray.any (eqU x) = its.any (eqU x) by simp, any_eqU r fs]
    exact q
  · obtain ⟨its, r, pl, hz⟩ := I.tuple hq
    refine SeqAt.notIn_tupleAt (eqU x) pl (fun w hw => mem_eqAt rx fx r fs w (by simpa using hw)) ⟨.bl _, H, I, rfl, ?_⟩
    rw [show its.toArray.any (eqU x) = its.any (eqU x) by simp, any_eqU r fs]
    exact q

/-! ### len, list(x), tuple(x) of any list or tuple that is read -/
theorem call_len_seq : CallR X (.builtin "len") (fun xs H Q => ∃ p ys, xs = [.ref p] ∧ (SqL X.K H p ys ∨ SqT X.K H p ys) ∧ Q (.int ys.length) H) := by
  intro pins s σ H xs us Q I r h
  obtain ⟨p, ys, rfl, hq, q⟩ := h
  obtain ⟨u, rfl, rx⟩ := vals1 r
  cases rx
  have hn := line63
  rcases hq with hq | hq
  · obtain ⟨its, r', pl, hz⟩ := I.list hq
    have hlen := r'.length
    exact Calls.call_len_list pl.isList (by simp only [List.size_toArray] <;> omega) ⟨.int ys.length, H, I.tok _, ⟨s.toks + 1, by rw [List.size_toArray, hlen]⟩, q⟩
  · obtain ⟨its, r', pl, hz⟩ := I.tuple hq
    have hlen := r'.length
    exact len_tuple pl (by simp only [List.size_toArray] <;> omega) ⟨.int ys.length, H, I.tok _, ⟨s.toks + 1, by rw [List.size_toArray, hlen]⟩, q⟩
theorem call_list_of : CallR X (.type "list") (fun xs H Q => ∃ p ys, xs = [.ref p] ∧ (SqL X.K H p ys ∨ SqT X.K H p ys) ∧ ∀ l, H l = none → Q (.ref l) (upd H l (.lst ys))) := by
  intro pins s σ H xs us Q I r h
  obtain ⟨p, ys, rfl, hq, q⟩ := h
  obtain ⟨u, rfl, rx⟩ := vals1 r
  cases rx
  have fin : ∀ (its : List Value), Vals ys its → ys.length ≤ sizeLine → ∀ (h' : Heap) (c' : Nat), (∀ b o', s.heap.get? b = some o' → h'.get? b = some o') →
      h'.get? s.heap.objs.size = some { cls := .type "list", dict := none, data := .seq its.toArray c', slots := #[] } → EP X pins σ Q (.ref s.heap.objs.size) { s with heap := h' } := fun its r' hz h' c' kp e =>
    ⟨.ref s.heap.objs.size, _, I.laid (t' := s.toks) kp (Nat.le_refl _) (show ObjOk X.prog X.w _ h' _ (.lst ys) from ⟨hz, its, c', r', e⟩), rfl, q _ (I.hok.fresh (Nat.le_refl _))⟩
  rcases hq with hq | hq
  · obtain ⟨its, r', pl, hz⟩ := I.list hq
    have hlen := r'.length
    obtain ⟨o, ho, hc, n, hd⟩ := pl.isList
    exact call_list_seq p (.inl rfl) ho hc hd (fun h' c' kp e => fin its r' hz h' c' kp e) (by simp only [List.size_toArray] <;> omega)
  · obtain ⟨its, r', pl, hz⟩ := I.tuple hq
    have hlen := r'.length
    obtain ⟨o, ho, hc, n, hd⟩ := pl
    exact call_list_seq p (.inr rfl) ho hc hd (fun h' c' kp e => fin its r' hz h' c' kp e) (by simp only [List.size_toArray] <;> omega)

/-! ### the call of a builtin's method: o.m(..) -/
/-- the value is of that builtin type -/
def tyV (K : PySem.W.Frag) (T : String) (x : V) (H : Hp) : Prop := match x with
  | .str _ => T = "str"
  | .int _ => T = "int"
  | .ref p => (T = "list" ∧ ∃ xs, SqL K H p xs) ∨ (T = "tuple" ∧ ∃ o, K.lookup p = some o ∧ o.cls = .type "tuple" ∧ o.dict = none) ∨
      (T = "dict" ∧ ((∃ kvs, H p = some (.dK kvs)) ∨ ∃ kvs, H p = some (.dT kvs))) ∨ (T = "set" ∧ ∃ S n, H p = some (.set S n))
  | _ => False
theorem tyV_is {pins : List (Addr × Obj)} {σ : St} {H : Hp} {s : Shared} {T : String} {x : V} {v : Value} (I : Inv X pins σ H s) (r : RelV x v) (ty : tyV X.K T x H) :
    s.TypeIs v T ∧ ∀ a, v = .ref a → ∃ ob, s.heap.get? a = some ob ∧ ob.dict = none := by
  cases x with
  | str z =>
    obtain ⟨t, rfl⟩ := r
    cases (show T = "str" from ty)
    exact ⟨typeIs_str s z t, fun _ e => nomatch e⟩
  | int i =>
    obtain ⟨t, rfl⟩ := r
    cases (show T = "int" from ty)
    exact ⟨typeIs_int s i t, fun _ e => nomatch e⟩
  | ref p =>
    cases r
    rcases ty with ⟨rfl, xs, hq⟩ | ⟨rfl, o, hk, hc, hd⟩ | ⟨rfl, hk⟩ | ⟨rfl, S, n, hk⟩
    · obtain ⟨its, _, pl, _⟩ := I.list hq
      refine ⟨pl.isList.typeIs, fun a e => ?_⟩
      cases e
      obtain ⟨o, n, e, c, hd, _⟩ := pl
      exact ⟨o, e, hd⟩
    · refine ⟨⟨o, I.kIn p o hk, hc⟩, fun a e => ?_⟩
      cases e
      exact ⟨o, I.kIn _ o hk, hd⟩
    · have z : ∃ o, s.heap.get? p = some o ∧ o.ExactDict := by
        rcases hk with ⟨kvs, hk⟩ | ⟨kvs, hk⟩
        · obtain ⟨_, _, _, _, o, _, _, e, ex, _⟩ := I.hok p _ hk
          exact ⟨o, e, ex⟩
        · obtain ⟨_, _, _, _, o, _, _, e, ex, _⟩ := I.hok p _ hk
          exact ⟨o, e, ex⟩
      obtain ⟨o, e, ex⟩ := z
      refine ⟨⟨o, e, ex.1⟩, fun a e2 => ?_⟩
      cases e2
      exact ⟨o, e, ex.2.1⟩
    · obtain ⟨o, _, _, _, e, ex, _⟩ := I.hok p _ hk
      refine ⟨⟨o, e, ex.1⟩, fun a e2 => ?_⟩
      cases e2
      exact ⟨o, e, ex.2.1⟩
  | _ => exact False.elim ty
def tBM (K : PySem.W.Frag) (T : String) (r : V → List V → Hp → VK → Prop) (to : TE) (t : TA) : TE := fun σ H Q => to σ H fun x H1 => tyV K T x H1 ∧ t σ H1 fun xs H2 => r x xs H2 Q
variable {o e : Expr} {es : List Expr} {to : TE} {t : TA} {name : Str} {apos cpos : Pos} {T id : String} {r : V → List V → Hp → VK → Prop}
theorem pe_bm (pa : PlainAttrs T) (slot : Slot T name id) (hty : typeOf (.builtin id) = pure (.type "method_descriptor")) (hm : MtR X id r) (ho : PE X o to) (ha : PA X (e :: es) t)
    (hbase : attributeBase o name X.env (eval o X.env) = eval o X.env := by rfl)
    (hfew : ((backTo cpos (starEach (e :: es) X.env)).all (fun x => !x.1) && (backToKw cpos (keywordEach [] X.env)).all (fun x => x.1.isSome)
      && decide ((e :: es).length + ([] : List Keyword).length + (if ([] : List Keyword).isEmpty then 0 else 1) < 30)) = true := by rfl)
    (hline : (apos.endLine == cpos.line) = true := by rfl) (hs : starEach (e :: es) X.env = (false, eval e X.env) :: starEach es X.env := by rfl) (hplain : (backTo cpos (starEach es X.env)).any (·.1) = false := by rfl) :
    PE X (.Call (.Attribute o name apos) (e :: es) [] cpos) (tBM X.K T r to t) := by
  intro pins s σ H Q I h
  refine wpAny_Call_method_late hbase hfew hline rfl (thn (ho pins s σ H _ I h) fun v s1 ⟨x, H1, I1, r1, ty, q1⟩ => ?_)
  obtain ⟨h1, h2⟩ := tyV_is I1 r1 ty
  refine ⟨T, id, pa, slot, hty, h1, h2, ?_⟩
  have hA := ha cpos pins s1 σ H1 _ I1 q1
  rw [hs] at hA ⊢
  refine Calls.callWith_builtin (by show (false || (backTo cpos (starEach es X.env)).any (·.1)) = false; rw [hplain] <;> rfl) (Calls.evalArgs_plain ?_)
  exact thn hA fun us s2 ⟨vs, H2, I2, r2, q2⟩ => hm pins s2 σ H2 x vs v us Q I2 r1 r2 q2
/- xs.append(e), list.index on a module's tuple .. are MtR facts of 06m -/
end
end L2

namespace L2
open PySem PySem.Spec PyProof.Rows

def MtM (X : Cx) (id : String) (r : V → List V → Hp → VK → Prop) : Prop :=
  ∀ (pins : List (Addr × Obj)) (s : Shared) (σ : St) (H : Hp) (x : V) (xs : List V) (v : Value) (us : List Value) (Q : VK), Inv X pins σ H s → RelV x v → Vals xs us → r x xs H Q →
    wpAny (model X.prog X.w) X.A (call (.builtin id) (v :: us)) (EP X pins σ Q) X.xe s

/-! ### lists of values -/
theorem Vals.one : ∀ {x : V} {us : List Value}, Vals [x] us → ∃ u, us = [u] ∧ RelV x u
  | _, _, .cons r .nil => ⟨_, rfl, r⟩
theorem Vals.rep {xs : List V} {us : List Value} (h : Vals xs us) : ∀ k : Nat, Vals (List.replicate k xs).flatten (List.replicate k us).flatten
  | 0 => .nil
  | k + 1 => by
    rw [List.replicate_succ, List.replicate_succ, List.flatten_cons, List.flatten_cons]
    exact Vals.append h (Vals.rep h k)
theorem foldl_rep (its : List Value) : ∀ (k : Nat) (acc : List Value),
    List.foldl (fun x1 x2 => x1 ++ x2) acc.toArray (List.replicate k its.toArray) = (acc ++ (List.replicate k its).flatten).toArray
  | 0, acc => by simp
  | k + 1, acc => by
    have e : acc.toArray ++ its.toArray = (acc ++ its).toArray := by simp
    have e2 : (acc ++ its) ++ (List.replicate k its).flatten = acc ++ (List.replicate (k + 1) its).flatten := by
      rw [List.replicate_succ, List.flatten_cons, List.append_assoc]
    rw [← e2, ← foldl_rep its k (acc ++ its), ← e, List.replicate_succ, List.foldl_cons]

section
variable {X : Cx} {pins : List (Addr × Obj)} {σ : St} {H : Hp} {s : Shared} {l b : Addr} {xs ys zs : List V}

/-! ### the two steps: a tracked list is rewritten, a new list is laid -/
theorem Inv.lset {its its' : List Value} {n : Nat} {f : Array Value → Array Value} {t' : Nat} (I : Inv X pins σ H s) (hH : H l = some (.lst xs))
    (e : s.heap.get? l = some { cls := .type "list", data := .seq its.toArray n }) (hf : f its.toArray = its'.toArray) (hv : Vals ys its') (hz : ys.length ≤ sizeLine) :
    Inv X pins σ (upd H l (.lst ys)) { s with heap := s.heap.update l (Obj.mapSeq f), toks := t' } := by
  have q := PySem.IsL.update e f
  rw [hf] at q
  refine I.write (x := l) (e := l) (by rw [hH]; exact trivial) (.inl rfl) (fun b' u hb hu => (Heap.get?_update_other s.heap (Obj.mapSeq f) (Ne.symm hb)).trans hu) ⟨_, q⟩ ?_
  exact ⟨hz, its', _, hv, q⟩
theorem Inv.lnew {its : List Value} {t' : Nat} (I : Inv X pins σ H s) (hv : Vals ys its) (hz : ys.length ≤ sizeLine) :
    Inv X pins σ (upd H s.heap.objs.size (.lst ys)) { s with heap := s.heap.push { cls := .type "list", data := .seq its.toArray }, toks := t' } :=
  I.laid (fun _ _ q => Heap.get?_push_of_some _ q) (Nat.le_refl _) ⟨hz, its, 0, hv, Heap.get?_push_size _ rfl⟩
theorem Inv.fresh (I : Inv X pins σ H s) : H s.heap.objs.size = none := I.hok.fresh (Nat.le_refl _)
theorem Inv.lstM (I : Inv X pins σ H s) (hH : H l = some (.lst xs)) : xs.length ≤ sizeLine ∧ ∃ (its : List Value) (n : Nat), Vals xs its ∧ xs.length = its.length ∧ s.heap.get? l = some { cls := .type "list", data := .seq its.toArray n } := by
  obtain ⟨z, its, n, r, e⟩ := I.hok l _ hH
  exact ⟨z, its, n, r, r.length, e⟩

theorem notLongL {n : Nat} (h : n ≤ sizeLine) : Builtin.List.listTooLong n = false := by
  unfold Builtin.List.listTooLong
  exact decide_eq_false (by omega)
end

section
variable {X : Cx}

/-! ### methods -/
def rAppend : V → List V → Hp → VK → Prop := fun x vs H Q => ∃ l xs y, x = .ref l ∧ vs = [y] ∧ H l = some (.lst xs) ∧ xs.length < sizeLine ∧ Q .non (upd H l (.lst (xs ++ [y])))
theorem mt_append : MtM X "list.append" rAppend := by
  intro pins s σ H x vs v us Q I rx rv h
  obtain ⟨l, xs, y, rfl, rfl, hH, hz, q⟩ := h
  cases rx
  obtain ⟨u, rfl, ru⟩ := rv.one
  obtain ⟨z, its, n, r, hl, e⟩ := I.lstM hH
  refine call_meets F.slot_list_append ⟨_, e, rfl⟩ F.entry_list_append (F.args_list_append_2 _ _) (PySem.list_append l its.toArray n u (by rw [List.size_toArray]; omega)) ⟨e, ?_⟩
  refine ⟨.non, _, I.lset (its' := its ++ [u]) hH e (by simp) (r.append (.cons ru .nil)) ?_, rfl, q⟩
  rw [List.length_append, List.length_singleton]
  omega






/-! ### list + list, list += list, list * int -/
def rCat : R2 := fun x y H Q => ∃ l b xs zs, x = .ref l ∧ y = .ref b ∧ H l = some (.lst xs) ∧ H b = some (.lst zs) ∧ xs.length + zs.length ≤ sizeLine ∧ ∀ p, H p = none → Q (.ref p) (upd H p (.lst (xs ++ zs)))
theorem op_cat : OpR X (binaryOp .Add) rCat := by
  intro pins s σ H x y v u Q I rx ry h
  obtain ⟨l, b, xs, zs, rfl, rfl, hH, hB, hz, q⟩ := h
  cases rx
  cases ry
  obtain ⟨z, its, n, r, hl, e⟩ := I.lstM hH
  obtain ⟨z2, its2, n2, r2, hl2, e2⟩ := I.lstM hB
  refine PySem.P.add_list e e2 ?_ (by rw [List.size_toArray, List.size_toArray]; omega)
  have ea : its.toArray ++ its2.toArray = (its ++ its2).toArray := by simp
  rw [ea]
  exact ⟨.ref _, _, I.lnew (t' := s.toks) (r.append r2) (by rw [List.length_append]; omega), rfl, q _ I.fresh⟩
/-- a list times an int (a negative one is nothing) -/
def rRep : R2 := fun x y H Q => ∃ l k xs, x = .ref l ∧ y = .int k ∧ H l = some (.lst xs) ∧ -(2 ^ 63) ≤ k ∧ k < 2 ^ 63 ∧ xs.length * k.toNat ≤ sizeLine ∧
  ∀ p, H p = none → Q (.ref p) (upd H p (.lst (List.replicate k.toNat xs).flatten))
theorem len_rep {α : Type} (xs : List α) (k : Nat) : (List.replicate k xs).flatten.length = k * xs.length := by
  induction k with
  | zero => simp
  | succ k ih => rw [List.replicate_succ, List.flatten_cons, List.length_append, ih, Nat.succ_mul, Nat.add_comm]
theorem op_rep : OpR X (binaryOp .Mult) rRep := by
  intro pins s σ H x y v u Q I rx ry h
  obtain ⟨l, k, xs, rfl, rfl, hH, h1, h2, hz, q⟩ := h
  cases rx
  obtain ⟨t, rfl⟩ := ry
  obtain ⟨z, its, n, r, hl, e⟩ := I.lstM hH
  have hlen : its.toArray.size * k.toNat ≤ sizeLine := by rw [List.size_toArray, ← hl]; exact hz
  have hcap : ¬ its.toArray.size * k.toNat > (2 ^ 63 - 1) / 8 := by
    have : (sizeLine : Nat) ≤ (2 ^ 63 - 1) / 8 := by decide
    omega
  have hfit : ¬ (!Builtin.List.listFitsIndex k) = true := by
    rw [fitsIndex_both h1 h2]
    exact Bool.false_ne_true
  have hlong : ¬ Builtin.List.listTooLong (its.toArray.size * k.toNat) = true := by
    rw [notLongL hlen]
    exact Bool.false_ne_true
  have hnew : List.foldl (fun x1 x2 => x1 ++ x2) #[] (List.replicate (if its.toArray.isEmpty = true then 0 else k.toNat) its.toArray) = (List.replicate k.toNat its).flatten.toArray := by
    have f0 : ∀ m : Nat, List.foldl (fun x1 x2 => x1 ++ x2) #[] (List.replicate m its.toArray) = (List.replicate m its).flatten.toArray := fun m => by
      have := foldl_rep its m []
      rw [List.nil_append] at this
      exact this
    rw [f0]
    cases its with
    | nil => simp
    | cons a r' => rw [if_neg (by simp)]
  refine wpAny_binaryOp_repeat_ref (T := "list") (U := "int") (by decide) ⟨_, e, rfl⟩ (fun s' => typeIs_int s' k t) noFill_list_mul F.fills_int_mul F.slot_int_rmul repeat_list F.slot_int_index.lookup
    (call_meets F.slot_int_rmul (typeIs_int s k t) F.entry_int_rmul (F.args_int_rmul_2 _ _) (int___rmul___int_list k t l its.toArray n)
      ⟨e, rfl, ⟨_, e, rfl⟩, call_meets F.slot_list_mul ⟨_, e, rfl⟩ F.entry_list_mul (F.args_list_mul_2 _ _) (AutoListH.list___mul___list_int_3 l its.toArray n k t hfit hcap hlong) ⟨e, ?_⟩⟩)
  rw [hnew]
  exact ⟨.ref _, _, I.lnew (t' := s.toks) (r.rep k.toNat) (by rw [len_rep, Nat.mul_comm]; exact hz), rfl, q _ I.fresh⟩

/-! ### del xs[i] -/
end

/-! ### xs[a:b] = ys -/
section
variable {prog : Program} {w : World} {A : Around} {E : Value → Shared → Prop} {s : Shared}
end

section
variable {X : Cx}
end
end L2

namespace Att
open PySem PySem.W PySem.Calls PyProof.Rows

/-! ### the script -/
theorem ints_of_wellAll {P : Params} {h : Heap} : ∀ (ns : List Int) (vs : List Value), WellAll P h vs (ns.map WData.int) → IntsAre vs ns := by
  intro ns
  induction ns with
  | nil =>
    intro vs w
    rw [List.map_nil] at w
    cases w
    exact .nil
  | cons n ns ih =>
    intro vs w
    rw [List.map_cons] at w
    cases w with
    | cons a b =>
      cases a
      exact .cons _ _ (ih _ b)

theorem script_of {l : OpenLaw} {n : Nat} (hn : l.most = some n) {P : Params} {h : Heap} {args : List WData} {vals : List Value}
    (hpre : l.row.toRowW.claim.pre args = true) (hwl : WellAll P h vals args) :
    ∃ a vs ns, vals = [Value.ref a] ∧ args = [WData.list (ns.map WData.int)] ∧ h.get? a = some { cls := .type "list", data := .seq vs.toArray } ∧ IntsAre vs ns ∧ ns.length ≤ n := by
  have hsh : WShape.hasAll [] args [.list .int] = true := (pre_splitW hpre).1
  have hc : l.pre.holds [] { args := args } = true := (pre_splitW hpre).2
  obtain ⟨d, r, rfl, h1, h2⟩ := hasAllW_cons hsh
  obtain rfl := hasAllW_nil h2
  obtain ⟨xs, rfl, h3⟩ := hasW_list h1
  obtain ⟨ns, rfl⟩ := items_int h3
  have hlen : ns.length ≤ n := by
    unfold OpenLaw.pre at hc
    have h4 : (WTm.not (.lt (.lit (.int (n : Int))) (.len (.arg 0)))).holds [] { args := [.list (ns.map .int)] } = true := by
      have h4 := (holds_andW hc).1
      rw [hn] at h4
      exact h4
    have h5 := condW_of h4 (w_not (w_lt w_lit (w_len_list (w_arg rfl))))
    rw [List.length_map] at h5
    refine Nat.le_of_not_lt fun q => ?_
    have q' : (n : Int) < ((ns.length : Nat) : Int) := by omega
    first
      | (rw [decide_eq_true q'] at h5; exact absurd h5 (by decide))
      | (simp at h5; omega)
  cases hwl with
  | cons w1 w2 =>
    cases w2
    cases w1 with
    | list ho hall => exact ⟨_, _, ns, rfl, rfl, ho, ints_of_wellAll ns _ hall, hlen⟩

theorem post_true (l : OpenLaw) (args : List WData) : l.row.toRowW.claim.post args (.bool true) args = true :=
  postW_of (r := l.row.toRowW) (X := (true == true))
    (show WShape.has [] (.bool true) .bool = true by first | rfl | decide | simp [WShape.has, WShape.arms, WShape.armsAll])
    (show (WTm.eq .res (.lit (.bool true))).value [] { args := args, res := some (.bool true), after := args } = some (.bool (true == true)) from w_eq_bool (w_res rfl) w_lit) rfl

/-! ### the attachment: holds_open's last premise (the goal 'hc' behind k_head) from a wpAny of the law's body -/

/-- the same from a codeAny of the CALL (for a layer whose function contracts speak of calls) -/
theorem attach_call {l : OpenLaw} {n : Nat} {q : Program} {loose : List Str} {XP : (Str → Option Value) → Heap → Prop} {YP : World → Heap → Prop} {d : DefRec}
    (hn : l.most = some n) (hdf : d.params.defaults = [])
    (call : ∀ (w : World) (s₀ s₁ : Shared) (mg mb : Str → Option Value) (fa : Addr) (o : Obj) (pm cd doc : Value) (a : Addr) (vs : List Value) (ns : List Int),
      Ground q loose [] XP w s₀ mg mb s₁.heap → YP w s₁.heap →
      s₁.heap.get? fa = some o → o.data = .func (docDef d.name d.params d.body d.scope pm cd doc) → s₁.heap.CodeRec cd d.name → mg d.name = some (.ref fa) →
      s₁.heap.get? a = some { cls := .type "list", data := .seq vs.toArray } → IntsAre vs ns → ns.length ≤ n → s₁.gens = #[] →
      codeAny (model l.prog w) callerA (.call (.ref fa) ⟨[.ref a], []⟩) (fun r s' => r = .ok (.ret (.bool true)) ∧ OldK s₁.heap s'.heap ∧ s'.os = s₁.os ∧ AllBare s'.gens) s₁) :
    WalkO q loose XP YP l.row.toRowW d [] (fun f vs => PySem.call f vs) := by
  intro w s₀ s₁ mg mb G Y fa o pm cd doc dV kV ho hd hcd hD hmg hg args vals as hpre hlay hrd hwl hlo
  obtain rfl : dV = .none := Dflts.none hD hdf
  obtain rfl : kV = .none := Dflts.noKw hD
  obtain ⟨a, vs, ns, rfl, rfl, hobj, hints, hlen⟩ := script_of hn hpre hwl
  refine enter_call (codeAny_mono (call w s₀ s₁ mg mb fa o pm cd doc a vs ns G Y ho (fd_plain hd) hcd hmg hobj hints hlen hg) fun r s' hq => ?_)
  obtain ⟨rfl, h2, h3, h4⟩ := hq
  exact ⟨.inl ⟨.bool true, .bool true, [], rfl, fun _ => rfl, .bool true, post_true l _, fun _ => ⟨List.Pairwise.nil, fun _ hm => (nomatch hm)⟩⟩, h2, h3, h4⟩


/-! ### rules over ANY heap (no ledger) from facts about the written part K: the library's own take a ledger (News) for what they write -/
section
variable {prog : Program} {w : World} {A : Around} {E : Value → Shared → Prop} {s : Shared} {K : Frag}





/-! the whole heap as the ledger: makes every rule that writes through a ledger a rule over any heap -/

end
end Att

namespace L2
open PySem PySem.Spec PyProof.Rows

theorem vals_ints : ∀ {vs : List Value} {ns : List Int}, IntsAre vs ns → Vals (ns.map V.int) vs
  | _, _, .nil => .nil
  | _, _, .cons n t h => .cons ⟨t, rfl⟩ (vals_ints h)

/-- nothing is tracked but the script, known to the object (or it is an object of the module) -/
def Only (H : Hp) : Prop := ∀ b, H b = none ∨ ∃ o xs, H b = some (.frz o (.lst xs))

/-- THE HEAD: the law's promise, at the heap behind the top. F, the promise of the law's def, may use that base is part of the heap (so K.In base, base.Ns mainGlobals mg stand in Mod) -/
theorem law_call {P : Program} {w : World} {K : PySem.W.Frag} {mg mb : Str → Option Value} {CX : CXT} {k : Nat} {fa a : Addr} {fd : FuncData} {x : Str} {sp : Sp} {s₁ : Shared} {vs : List Value} {ns : List Int}
    (KX : K.In s₁.heap) (hns : s₁.heap.Ns mainGlobals mg) (hb : s₁.heap.Ns builtinsNs mb) (hbb : ∀ x : Str, x ≠ "__name__" → mb x = bootBuiltins x) (hlim : s₁.heap.NoLimit) (hg : s₁.gens = #[])
    (ha : s₁.heap.get? a = some { cls := .type "list", data := .seq vs.toArray }) (hi : IntsAre vs ns) (hl : ns.length ≤ sizeLine) (hr : Room k callerA)
    (F : ∀ base : Heap, K.In base → base.Ns mainGlobals mg → FnOk P w K mg base CX k fa fd [x] sp) (hbind : ∀ (s : Shared) (u : Value), BindsTo s fd ⟨[u], []⟩ [(x, u)])
    (hsp : ∀ H : Hp, Only H → SqL K H a (ns.map V.int) → sp [.ref a] H (fun v _ => v = .bl true) fun _ _ _ => False)
    (hCX : ∀ H e s', CX [] H s₁ (fun _ _ _ => False) e s' → False) :
    codeAny (model P w) callerA (.call (.ref fa) ⟨[.ref a], []⟩) (fun r s' => r = .ok (.ret (.bool true)) ∧ OldK s₁.heap s'.heap ∧ s'.os = s₁.os ∧ AllBare s'.gens) s₁ := by
  have rv := vals_ints hi
  have lenV := hi.length
  -- from an abstract heap in which nothing but the script may be tracked
  have core : ∀ H : Hp, Only H → SqL K H a (ns.map V.int) → HOk P w H s₁.heap → (∀ b, H b ≠ none → b = a) → (H a ≠ none → K.lookup a = none) →
      codeAny (model P w) callerA (.call (.ref fa) ⟨[.ref a], []⟩) (fun r s' => r = .ok (.ret (.bool true)) ∧ OldK s₁.heap s'.heap ∧ s'.os = s₁.os ∧ AllBare s'.gens) s₁ := by
    intro H hO hS hok hA hK
    have base_of : ∀ {b : Addr} {o : Obj}, s₁.heap.get? b = some o → H b = none → (hidT s₁.heap H).get? b = some o := fun e n => hidT_get e n
    have noA : ∀ {b : Addr} {o : Obj} {es : Array DictEntry} {ep : Nat}, s₁.heap.get? b = some o → o.data = .dict es ep → H b = none := fun {b o es ep} e d => by
      cases q : H b with
      | none => rfl
      | some u =>
        have e' : b = a := hA b (by rw [q]; simp)
        subst e'
        rw [ha] at e; cases e
        have d' : Data.seq vs.toArray _ = Data.dict es ep := d
        cases d'
    have nsK : ∀ {b : Addr} {m : Str → Option Value}, s₁.heap.Ns b m → (hidT s₁.heap H).Ns b m := fun {b m} ⟨o, es, ep, e, d, r⟩ => ⟨o, es, ep, base_of e (noA e d), d, r⟩
    have hKb : K.In (hidT s₁.heap H) := fun b o e => base_of (KX b o e) (by
      cases q : H b with
      | none => rfl
      | some u =>
        have e' : b = a := hA b (by rw [q]; simp)
        subst e'
        rw [hK (by rw [q]; simp)] at e; cases e)
    have hM : Mod K mg (hidT s₁.heap H) := ⟨hKb, nsK hns, ⟨mb, nsK hb, hbb⟩, let ⟨mc, h1, h2⟩ := hlim; ⟨mc, nsK h1, h2⟩⟩
    have e0 : Env0 P w K mg (hidT s₁.heap H) callerA [] s₁ H := ⟨rfl, hM, fun b o e => of_hidT e, Nat.le_of_eq (hidT_size _ _), trivial, fun b hb => absurd (show b ∈ ([] : List Addr) from hb) (by simp), hok, .of_eq hg⟩
    refine codeAny_mono ((F _ hKb (nsK hns)).run callerA [] s₁ H ⟨[.ref a], []⟩ [.ref a] [.ref a] _ _ hr e0 (hbind s₁ (.ref a)) (.cons rfl .nil) (hsp H hO hS)) fun r s' h => ?_
    cases r with
    | error e => exact (hCX H e s' h).elim
    | ok fl =>
      cases fl with
      | next => exact False.elim h
      | brk => exact False.elim h
      | cont => exact False.elim h
      | ret u =>
        obtain ⟨v, H', os, bare, un, hok', r', q⟩ := h
        have q' : v = .bl true := q
        subst q'
        obtain rfl : u = Value.bool true := r'
        refine ⟨rfl, OldK.of_keep fun b o e => ?_, os, bare⟩
        cases q : H b with
        | none => exact un.keep b o e q (by intro z; exact absurd (show b ∈ ([] : List Addr) from z) (by simp)) (by simp)
        | some u =>
          rcases hO b with z | ⟨ob, xs, z⟩
          · rw [q] at z; cases z
          · have z2 := un.frzs b ob _ z
            obtain ⟨e1, _⟩ := hok b _ z
            obtain ⟨e2, _⟩ := hok' b _ z2
            rw [e] at e1; cases e1
            exact e2
  cases hk : K.lookup a with
  | some o =>
    -- the script is one of the module's own objects
    have e := KX a o hk
    rw [ha] at e
    cases e
    refine core (fun _ => none) (fun _ => .inl rfl) (.inr ⟨_, vs.toArray, _, hk, rfl, rfl, rfl, by rw [List.size_toArray, lenV]; exact hl, by simpa using rv⟩) (fun b u z => by have z' : (none : Option HO) = some u := z; cases z') (fun b z => absurd rfl z) fun z => absurd rfl z
  | none =>
    refine core (fun b => if b = a then some (.frz { cls := .type "list", data := .seq vs.toArray } (.lst (ns.map V.int))) else none) (fun b => ?_) (.inl (.inr ⟨{ cls := .type "list", data := .seq vs.toArray }, if_pos rfl⟩)) (fun b u z => ?_) (fun b z => ?_) fun _ => hk
    · by_cases hb : b = a
      · exact .inr ⟨_, _, if_pos hb⟩
      · exact .inl (if_neg hb)
    · by_cases hb : b = a
      · have z' := (if_pos hb).symm.trans z
        cases z'
        subst hb
        exact ⟨ha, by rw [List.length_map]; exact hl, vs, _, rv, ha⟩
      · have z' := (if_neg hb).symm.trans z
        cases z'
    · by_cases hb : b = a
      · exact hb
      · exact absurd (if_neg hb) z
end L2

namespace L2
open PySem PySem.Spec PyProof.Rows


/-- the goal that k_head leaves (case hc), from the law's promise. F gives the function object fd (K's own) once, then the promise over every base -/
theorem walk_of {l : PySem.W.OpenLaw} {n k : Nat} {q : Program} {loose : List Str} {XP : (Str → Option Value) → Heap → Prop} {YP : World → Heap → Prop} {d : DefRec} {K : Params → PySem.W.Frag} {CX : World → CXT} {sp : World → Sp} {x : Str}
    (hn : l.most = some n) (hn2 : n ≤ sizeLine) (hdf : d.params.defaults = []) (hr : Room k callerA)
    (hY : ∀ (w : World) (h : Heap), YP w h → (K w.params).In h)
    (F : ∀ (w : World) (mg : Str → Option Value) (fa : Addr) (h : Heap), (K w.params).In h → h.Ns mainGlobals mg → mg d.name = some (.ref fa) →
      ∃ fd : FuncData, (∀ (s : Shared) (u : Value), BindsTo s fd ⟨[u], []⟩ [(x, u)]) ∧
        ∀ base : Heap, (K w.params).In base → base.Ns mainGlobals mg → FnOk l.prog w (K w.params) mg base (CX w) k fa fd [x] (sp w))
    (hsp : ∀ (w : World) (H : Hp) (a : Addr) (ns : List Int), ns.length ≤ n → Only H → SqL (K w.params) H a (ns.map V.int) → sp w [.ref a] H (fun v _ => v = .bl true) fun _ _ _ => False)
    (hCX : ∀ (w : World) (H : Hp) (s : Shared) (e : Value) (s' : Shared), CX w [] H s (fun _ _ _ => False) e s' → False) :
    PySem.W.WalkO q loose XP YP l.row.toRowW d [] (fun f vs => PySem.call f vs) := by
  refine Att.attach_call hn hdf fun w s₀ s₁ mg mb fa o pm cd doc a vs ns G Y ho hd hcd hmg hobj hints hlen hg => ?_
  have KX := hY w _ Y
  obtain ⟨fd, hb, hF⟩ := F w mg fa _ KX G.T.g hmg
  exact law_call KX G.T.g G.T.b G.T.builtins G.T.nolimit hg hobj hints (Nat.le_trans hlen hn2) hr hF hb (fun H hO hS => hsp w H a ns hlen hO hS) fun H e s' => hCX w H s₁ e s'
end L2

/- THE LAST THEOREM (shape; LID, My.* are yours):
   My.Adr: a structure of the addresses that your layer names (classes, functions); My.Txt K t: a structure (Prop) of the equations over K;
   My.txt_mk : {K} {implicit addresses ..} (e1 : nsIn K mainGlobals "law" = some (some (.ref f))) (e2 : K.lookup f = some ⟨oc, od, .func (fnOf "law" "law" params body scope dV kV doc pm an cdv ct), sl⟩) (e3 : codeIn K cdv "law" = true) .. : ∃ t, My.Txt K t

set_option maxRecDepth 100000 in
set_option maxHeartbeats 0 in
theorem PySem.Challenge.cw_LID_holds : PySem.Challenge.rw_LID.Holds := by
  w_on; o_law; k_head; (case hw => w_witness2)
  k_fill
  refine L2.walk_of (l := PySem.Challenge.rw_LID) (n := 63) (k := 40) (x := "script") (CX := fun w => ..) (sp := fun _ => My.sp_law) rfl (by decide) rfl ⟨rfl, by decide, by decide⟩ (fun w h Y => PySem.W.kIn_of Y) ?F ?S ?C
  case F =>
    intro w mg fa h KX G hmg
    have T : ∃ t, My.Txt (L2.KOf KX) t := by
      dsimp only [L2.KOf]                          -- K must stand as «<heap const> w.params» for k_is
      refine' My.txt_mk ?e1 ?e2 ?e3 ..
      (case e1 => PySem.W.k_is)                    -- in the order: a name -> its address -> its object -> its parts
      (case e2 => PySem.W.k_is)
      ..
    obtain ⟨t, T⟩ := T
    have e0 := hmg.symm.trans (PySem.W.mg_of KX G T.law)
    cases e0                                       -- fa is the law's own address
    exact ⟨_, fun s u => .of_eq rfl, fun base kb nb => My.law_fn T kb nb⟩     -- if «.of_eq rfl» comes too early: refine' ⟨_, ?b, fun base kb nb => My.law_fn T kb nb⟩; exact fun s u => .of_eq rfl
  case S => exact fun w H a ns hl hO hS => ..
  case C => exact ..
(the tactic k_is has no namespace: write k_is) -/

/-! SHORT WORDS over the layer: a def of the text, its body, what a loop and a test want. -/
namespace L2
open PySem PySem.Spec PyProof.Rows

/-! ### the text by places -/
/-- the j-th statement of a class's body -/
def inClass (s : Stmt) (j : Nat) : Stmt := match s with
  | .ClassDef _ _ _ body _ _ _ _ _ _ _ => body.getD j (.Pass ⟨0, 0, 0, 0⟩)
  | _ => .Pass ⟨0, 0, 0, 0⟩
def defArgs (s : Stmt) : Arguments := match s with
  | .FunctionDef _ a _ _ _ _ _ _ _ _ => a
  | _ => { posonlyargs := [], args := [], vararg := none, kwonlyargs := [], kw_defaults := [], kwarg := none, defaults := [] }
def defBody (s : Stmt) : List Stmt := match s with
  | .FunctionDef _ _ b _ _ _ _ _ _ _ => b
  | _ => []
def defScope (s : Stmt) : Scope := match s with
  | .FunctionDef _ _ _ _ _ _ sc _ _ _ => sc
  | _ => { kind := .function, names := [], isGenerator := false, isCoroutine := false }

/-! ### no exception leaves a def -/

/-! ### a def (or method) of the text as it stands behind the top -/
structure Fun (K : PySem.W.Frag) (x qual : Str) (st : Stmt) (f : Addr) (fd : FuncData) : Prop where
  ex : ∃ (oc : Value) (od : Option Addr) (kV doc pm : Value) (an : Option Addr) (cdv ct : Value) (osl : Array (Option Value)),
    fd = PySem.W.fnOf x qual (defArgs st) (defBody st) (defScope st) .none kV doc pm an cdv ct ∧ K.lookup f = some ⟨oc, od, .func fd, osl⟩ ∧ PySem.W.codeIn K cdv qual = true
  kp : PySem.W.keepIn K (.ref f) = true
section
variable {P : Program} {w : World} {K : PySem.W.Frag} {mg : Str → Option Value} {base : Heap}
/-- how its arguments bind (no defaults): h is «fun _ _ _ _ _ _ us hl => match us, hl with | [_, _], _ => rfl», one _ a parameter -/
theorem Fun.binds {x qual : Str} {st : Stmt} {f : Addr} {fd : FuncData} {ps : List Str} (F : Fun K x qual st f fd)
    (h : ∀ (kV doc pm : Value) (an : Option Addr) (cdv ct : Value) (us : List Value), us.length = ps.length → bindArgs (PySem.W.fnOf x qual (defArgs st) (defBody st) (defScope st) .none kV doc pm an cdv ct) ⟨us, []⟩ = pure (ps.zip us)) : Binds K fd ps [] := by
  obtain ⟨oc, od, kV, doc, pm, an, cdv, ct, osl, rfl, lk, hcd⟩ := F.ex
  exact .all (h kV doc pm an cdv ct)
theorem fun_mk {x qual : Str} {st : Stmt} {f : Addr} {oc : Value} {od an : Option Addr} {osl : Array (Option Value)} {kV doc pm cdv ct : Value} (l : K.lookup f = some ⟨oc, od, .func (PySem.W.fnOf x qual (defArgs st) (defBody st) (defScope st) .none kV doc pm an cdv ct), osl⟩)
    (c : PySem.W.codeIn K cdv qual = true) (k : PySem.W.keepIn K (.ref f) = true) : Fun K x qual st f (PySem.W.fnOf x qual (defArgs st) (defBody st) (defScope st) .none kV doc pm an cdv ct) := ⟨⟨oc, od, kV, doc, pm, an, cdv, ct, osl, rfl, l, c⟩, k⟩
end
theorem hu_of {A : Around} {k : Nat} (hr : Room k A) : A.units + 1 < cLine := Nat.lt_of_le_of_lt (Nat.add_le_add_left (by decide : 1 ≤ 64) _) hr.units

/-! ### expressions in short: the name that stands in the i-th slot -/
section
variable {X : Cx}
theorem pv (i : Nat) {x : Str} {pos : Pos} (hN : X.N[i]? = some x := by rfl) (hv : Vis X.env.scope x := by first | exact Or.inl rfl | exact Or.inr (Or.inl rfl) | exact Or.inr (Or.inr rfl)) (hd : (x == ("__debug__" : Str)) = false := by decide)
    (hcd : (x == ("__classdict__" : Str)) = false := by decide) : PE X (.Name x pos) (tVar i) := pe_var hN hv hd hcd
end

/-! ### tests -/
theorem iteF {A B : Prop} (h : B) : if false = true then A else B := by
  rw [if_neg Bool.false_ne_true]
  exact h
theorem iteT {A B : Prop} (h : A) : if true = true then A else B := by
  rw [if_pos rfl]
  exact h
theorem ite2 {c A B : Prop} [Decidable c] (h1 : c → A) (h2 : ¬ c → B) : if c then A else B := by
  by_cases h : c
  · rw [if_pos h]
    exact h1 h
  · rw [if_neg h]
    exact h2 h
theorem iteNS {c A B : Prop} [Decidable c] (hc : c) (h : B) : if (!decide c) = true then A else B := by
  rw [decide_eq_true hc]
  exact iteF h

/-! ### heaps -/
/-- all that was tracked is as it was -/
def Same (H H' : Hp) : Prop := ∀ b o, H b = some o → H' b = some o
theorem Same.trans {H H1 H2 : Hp} (a : Same H H1) (b : Same H1 H2) : Same H H2 := fun c o h => b c o (a c o h)
theorem Same.seq {K : PySem.W.Frag} {H H' : Hp} {a : Addr} {xs : List V} (e : Same H H') (h : SqL K H a xs) : SqL K H' a xs := by
  rcases h with (h | ⟨o, h⟩) | h
  · exact .inl (.inl (e _ _ h))
  · exact .inl (.inr ⟨o, e _ _ h⟩)
  · exact .inr h

end L2
end
section
set_option Elab.async false
set_option linter.all false
set_option maxRecDepth 100000
namespace L2
open PySem PySem.Spec PyProof.Rows

/-! ### lists of pairs as tables -/
section
variable {κ : Type} [DecidableEq κ]
def valV (kvs : List (κ × V)) (k : κ) : Option V := (kvs.find? fun kv => decide (kv.1 = k)).map (·.2)
/-- in its place, or at the end -/
def putK (kvs : List (κ × V)) (k : κ) (v : V) : List (κ × V) :=
  if (kvs.any fun kv => decide (kv.1 = k)) = true then kvs.map (fun kv => if kv.1 = k then (kv.1, v) else kv) else kvs ++ [(k, v)]
def dropK (kvs : List (κ × V)) (k : κ) : List (κ × V) := kvs.filter fun kv => decide (kv.1 ≠ k)

theorem valV_pos {p : κ × V} {r : List (κ × V)} {k : κ} (e : p.1 = k) : valV (p :: r) k = some p.2 := by simp [valV, List.find?_cons, e]
theorem valV_neg {p : κ × V} {r : List (κ × V)} {k : κ} (e : ¬ p.1 = k) : valV (p :: r) k = valV r k := by simp [valV, List.find?_cons, e]
theorem valV_any (k : κ) : ∀ kvs : List (κ × V), (kvs.any fun kv => decide (kv.1 = k)) = (valV kvs k).isSome
  | [] => rfl
  | p :: r => by
    rw [List.any_cons]
    by_cases e : p.1 = k
    · simp only [valV_pos e, decide_eq_true e, Bool.true_or, Option.isSome_some]
    · rw [valV_neg e, decide_eq_false e, Bool.false_or]; exact valV_any k r
theorem length_putK (kvs : List (κ × V)) (k : κ) (v : V) : (putK kvs k v).length ≤ kvs.length + 1 := by
  unfold putK
  split
  · rw [List.length_map]; omega
  · rw [List.length_append, List.length_cons, List.length_nil]; omega
theorem putK_new {kvs : List (κ × V)} {k : κ} (v : V) (h : valV kvs k = none) : putK kvs k v = kvs ++ [(k, v)] := by
  unfold putK
  rw [valV_any, h]
  exact if_neg (by decide)

theorem RelO.isSome_eq {o : Option V} {u : Option Value} (r : RelO o u) : o.isSome = u.isSome := by
  cases o with
  | none => cases u with
    | none => rfl
    | some _ => exact (show False from r).elim
  | some _ => cases u with
    | none => exact (show False from r).elim
    | some _ => rfl

/-- raw tables of the same keys -/
theorem KV.val {kvs : List (κ × V)} {vs : List (κ × Value)} (r : KV kvs vs) (k : κ) : RelO (valV kvs k) (valueAt vs k) := by
  unfold KV at r
  induction r with
  | nil => exact True.intro
  | @cons p q ps qs h t ih =>
    obtain ⟨h1, h2⟩ := h
    by_cases e : p.1 = k
    · have e' : q.1 = k := h1.symm.trans e
      have b : valueAt (q :: qs) k = some q.2 := by simp [valueAt, List.find?_cons, e']
      rw [valV_pos e, b]; exact h2
    · have e' : ¬ q.1 = k := fun z => e (h1.trans z)
      have b : valueAt (q :: qs) k = valueAt qs k := by simp [valueAt, List.find?_cons, e']
      rw [valV_neg e, b]; exact ih
theorem KV.any {kvs : List (κ × V)} {vs : List (κ × Value)} (r : KV kvs vs) (k : κ) : (kvs.any fun kv => decide (kv.1 = k)) = vs.any fun kv => decide (kv.1 = k) := by
  unfold KV at r
  induction r with
  | nil => rfl
  | cons h t ih => rw [List.any_cons, List.any_cons, ih, h.1]
theorem KV.repl {kvs : List (κ × V)} {vs : List (κ × Value)} (r : KV kvs vs) (k : κ) {y : V} {u : Value} (ry : RelV y u) :
    KV (kvs.map fun kv => if kv.1 = k then (kv.1, y) else kv) (vs.map fun kv => if kv.1 = k then (kv.1, u) else kv) := by
  unfold KV at r ⊢
  induction r with
  | nil => exact .nil
  | @cons p q ps qs h t ih =>
    rw [List.map_cons, List.map_cons]
    refine .cons ?_ ih
    obtain ⟨h1, h2⟩ := h
    by_cases e : p.1 = k
    · rw [if_pos e, if_pos (h1.symm.trans e)]; exact ⟨h1, ry⟩
    · rw [if_neg e, if_neg (fun z => e (h1.trans z))]; exact ⟨h1, h2⟩
theorem KV.put {kvs : List (κ × V)} {vs : List (κ × Value)} (r : KV kvs vs) (k : κ) {y : V} {u : Value} (ry : RelV y u) : KV (putK kvs k y) (stored vs k u) := by
  unfold putK stored
  rw [r.any k]
  by_cases e : (vs.any fun kv => decide (kv.1 = k)) = true
  · rw [if_pos e, if_pos e]; exact r.repl k ry
  · rw [if_neg e, if_neg e]; exact Paired.snoc r ⟨rfl, ry⟩
theorem KV.drop {kvs : List (κ × V)} {vs : List (κ × Value)} (r : KV kvs vs) (k : κ) : KV (dropK kvs k) (without vs k) := by
  unfold KV at r ⊢
  unfold dropK without
  induction r with
  | nil => exact .nil
  | @cons p q ps qs h t ih =>
    obtain ⟨h1, h2⟩ := h
    rw [List.filter_cons, List.filter_cons]
    by_cases e : p.1 = k
    · have a : ¬ decide (p.1 ≠ k) = true := by simp [e]
      have b : ¬ decide (q.1 ≠ k) = true := by simp [h1.symm.trans e]
      rw [if_neg a, if_neg b]; exact ih
    · have e' : ¬ q.1 = k := fun z => e (h1.trans z)
      have a : decide (p.1 ≠ k) = true := by simp [e]
      have b : decide (q.1 ≠ k) = true := by simp [e']
      rw [if_pos a, if_pos b]; exact .cons ⟨h1, h2⟩ ih
theorem KV.keys {kvs : List (κ × V)} {vs : List (κ × Value)} (r : KV kvs vs) : kvs.map (·.1) = vs.map (·.1) := by
  unfold KV at r
  induction r with
  | nil => rfl
  | cons h t ih => rw [List.map_cons, List.map_cons, ih, h.1]
theorem KV.length {kvs : List (κ × V)} {vs : List (κ × Value)} (r : KV kvs vs) : kvs.length = vs.length := Paired.length r
theorem dropK_le (kvs : List (κ × V)) (k : κ) : (dropK kvs k).length ≤ kvs.length := List.length_filter_le _ _
end


/-! ### a tracked dict, its keys ints and texts or tuples of these -/
theorem kV_is {P : Program} {w : World} {k : Key} {u : Value} (r : RelV (kV k) u) : (mixKind P w).is k u = true := by
  cases k with
  | inl i => obtain ⟨t, e⟩ := (show ∃ t, u = Value.int i t from r); subst e; exact mixKind_int P w i t
  | inr x => obtain ⟨t, e⟩ := (show ∃ t, u = Value.str x t from r); subst e; exact mixKind_str P w x t
theorem items_are {P : Program} {w : World} : ∀ {ks : List Key} {us : List Value}, Vals (ks.map kV) us → ItemsAre (mixKind P w) ks us
  | [], _, r => by rw [List.map_nil] at r; cases r; exact .nil
  | k :: ks, _, r => by
    rw [List.map_cons] at r
    cases r with
    | cons h t => exact .cons (kV_is h) (items_are t)

/-- raw entries of a dict with tuple keys -/
abbrev KT (H : Hp) : List (List Key × V) → List (List Key × Addr × Value) → Prop := Paired fun p q => p.1 = q.1 ∧ H q.2.1 = some (.tup (p.1.map kV)) ∧ RelV p.2 q.2.2
theorem KT.val {H : Hp} {kvs : List (List Key × V)} {xs : List (List Key × Addr × Value)} (r : KT H kvs xs) (k : List Key) : RelO (valV kvs k) ((atKey xs k).map (·.2)) := by
  induction r with
  | nil => exact True.intro
  | @cons p q ps qs h t ih =>
    obtain ⟨h1, _, h2⟩ := h
    by_cases e : p.1 = k
    · have e' : q.1 = k := h1.symm.trans e
      have b : atKey (q :: qs) k = some q.2 := by simp [atKey, List.find?_cons, e']
      rw [valV_pos e, b]; exact h2
    · have e' : ¬ q.1 = k := fun z => e (h1.trans z)
      have b : atKey (q :: qs) k = atKey qs k := by simp [atKey, List.find?_cons, e']
      rw [valV_neg e, b]; exact ih
theorem KT.repl {H : Hp} {kvs : List (List Key × V)} {xs : List (List Key × Addr × Value)} (r : KT H kvs xs) (k : List Key) {y : V} {u : Value} (ry : RelV y u) :
    KT H (kvs.map fun kv => if kv.1 = k then (kv.1, y) else kv) (xs.map (putAt k u)) := by
  induction r with
  | nil => exact .nil
  | @cons p q ps qs h t ih =>
    rw [List.map_cons, List.map_cons]
    refine .cons ?_ ih
    obtain ⟨h1, h2, h3⟩ := h
    unfold putAt
    by_cases e : p.1 = k
    · rw [if_pos e, if_pos (h1.symm.trans e)]; exact ⟨h1, h2, ry⟩
    · rw [if_neg e, if_neg (fun z => e (h1.trans z))]; exact ⟨h1, h2, h3⟩
theorem KT.put {H : Hp} {kvs : List (List Key × V)} {xs : List (List Key × Addr × Value)} (r : KT H kvs xs) (k : List Key) {b : Addr} {y : V} {u : Value} (hb : H b = some (.tup (k.map kV))) (ry : RelV y u) :
    KT H (putK kvs k y) (storedH xs k b u) := by
  have e : (kvs.any fun kv => decide (kv.1 = k)) = (atKey xs k).isSome := by
    rw [valV_any, (r.val k).isSome_eq, Option.isSome_map]
  unfold putK storedH
  rw [e]
  by_cases q : (atKey xs k).isSome = true
  · rw [if_pos q, if_pos q]; exact r.repl k ry
  · rw [if_neg q, if_neg q]; exact Paired.snoc r ⟨rfl, hb, ry⟩
theorem KT.keeps {H H' : Hp} {kvs : List (List Key × V)} {xs : List (List Key × Addr × Value)} (r : KT H kvs xs) (ht : ∀ b ys, H b = some (.tup ys) → H' b = some (.tup ys)) : KT H' kvs xs :=
  Paired.mapP r fun _ _ z => ⟨z.1, ht _ _ z.2.1, z.2.2⟩

section
variable {P : Program} {w : World} {H : Hp} {h : Heap} {a : Addr}
theorem rd_of {u : HO} (ok : HOk P w H h) (e : Rd H a u) : ObjOk P w H h a u := e.ok ok
theorem dk_rd {kvs : List (Key × V)} (ok : HOk P w H h) (e : Rd H a (.dK kvs)) : kvs.length ≤ sizeLine ∧ (a == sysModules) = false ∧ ∃ vs, KV kvs vs ∧ h.DictOf (mixKind P w) a vs :=
  show ObjOk P w H h a (.dK kvs) from rd_of ok e
theorem dk_of {kvs : List (Key × V)} (ok : HOk P w H h) (e : H a = some (.dK kvs)) : kvs.length ≤ sizeLine ∧ (a == sysModules) = false ∧ ∃ vs, KV kvs vs ∧ h.DictOf (mixKind P w) a vs := dk_rd ok (.inl e)
/-- a tracked tuple of ints and texts is a key -/
theorem key_of {ks : List Key} (ok : HOk P w H h) (e : H a = some (.tup (ks.map kV))) : (tupleKind (mixKind P w)).is h ks a := by
  obtain ⟨_, its, r, o, h1, h2, n, h3⟩ := (show ObjOk P w H h a (.tup (ks.map kV)) from ok a _ e)
  exact ⟨o, its.toArray, n, h1, h2, h3, by simpa using items_are r⟩
theorem dt_rd {kvs : List (List Key × V)} (ok : HOk P w H h) (e : Rd H a (.dT kvs)) : kvs.length ≤ sizeLine ∧ (a == sysModules) = false ∧
    ∃ xs, KT H kvs xs ∧ h.DictOfH (tupleKind (mixKind P w)) a xs := by
  obtain ⟨z, y, xs, r, o, es, ep, h1, h2, h3, h4, h5⟩ := (show ObjOk P w H h a (.dT kvs) from rd_of ok e)
  refine ⟨z, y, xs, r, o, es, ep, h1, h2, h3, h4, fun x hx => ?_, h5⟩
  have all : ∀ {l : List (List Key × V)} {m : List (List Key × Addr × Value)}, KT H l m → ∀ x ∈ m, (tupleKind (mixKind P w)).is h x.1 x.2.1 := by
    intro l m q
    induction q with
    | nil => intro x hx; exact nomatch hx
    | @cons p q ps qs hq t ih =>
      intro x hx
      rcases List.mem_cons.mp hx with e | hx
      · subst e
        exact key_of ok (by rw [← hq.1]; exact hq.2.1)
      · exact ih x hx
  exact all r x hx
theorem dt_of {kvs : List (List Key × V)} (ok : HOk P w H h) (e : H a = some (.dT kvs)) : kvs.length ≤ sizeLine ∧ (a == sysModules) = false ∧
    ∃ xs, KT H kvs xs ∧ h.DictOfH (tupleKind (mixKind P w)) a xs := dt_rd ok (.inl e)
end

/-- what the dict at a holds at the key y -/
def DGet (H : Hp) (a : Addr) (y : V) (r : Option V) : Prop :=
  (∃ kvs k, Rd H a (.dK kvs) ∧ y = kV k ∧ r = valV kvs k) ∨ ∃ kvs k b, Rd H a (.dT kvs) ∧ y = .ref b ∧ H b = some (.tup (k.map kV)) ∧ r = valV kvs k
/-- the heap behind a[y] = v -/
def DPut (H : Hp) (a : Addr) (y v : V) (H' : Hp) : Prop :=
  (∃ kvs k, H a = some (.dK kvs) ∧ y = kV k ∧ kvs.length < sizeLine ∧ H' = upd H a (.dK (putK kvs k v))) ∨
  ∃ kvs k b, H a = some (.dT kvs) ∧ y = .ref b ∧ H b = some (.tup (k.map kV)) ∧ kvs.length < sizeLine ∧ H' = upd H a (.dT (putK kvs k v))
theorem DGet.k {H : Hp} {a : Addr} {kvs : List (Key × V)} {k : Key} (e : H a = some (.dK kvs)) : DGet H a (kV k) (valV kvs k) := .inl ⟨kvs, k, .inl e, rfl, rfl⟩
theorem DPut.k {H : Hp} {a : Addr} {kvs : List (Key × V)} {k : Key} {v : V} (e : H a = some (.dK kvs)) (hl : kvs.length < sizeLine) : DPut H a (kV k) v (upd H a (.dK (putK kvs k v))) := .inl ⟨kvs, k, e, rfl, hl, rfl⟩


section
variable {X : Cx} {pins : List (Addr × Obj)} {σ : St} {H : Hp} {s : Shared} {a : Addr} {y v : V} {u r : Value} {o : Option V} {A : Around} {E : Value → Shared → Prop}

theorem Inv.big (I : Inv X pins σ H s) : sysModules < s.heap.objs.size := by
  have h : mainGlobals < s.heap.objs.size := (I.mod.glob.keeps I.bk).lt
  exact Nat.lt_trans (by decide) h

theorem d_notIn {Q : Value → Shared → Prop} (hu : A.units + 1 < cLine) (I : Inv X pins σ H s) (g : DGet H a y o) (ry : RelV y u) (h : ∀ s', Inv X pins σ H s' → Q (.bool (!o.isSome)) s') :
    wpAny (model X.prog X.w) A (compareOp .NotIn u (.ref a)) Q E s := by
  rcases g with ⟨kvs, k, e, ey, l⟩ | ⟨kvs, k, b, e, ey, eb, l⟩
  · subst ey
    obtain ⟨z, hd, vs, rel, dd⟩ := dk_rd I.hok e
    refine wpAny_notIn_of (kV_is ry) hd dd.mapOf ?_
    rw [← (rel.val k).isSome_eq, ← l]
    exact h _ (I.tok _)
  · subst ey
    cases (show u = Value.ref b from ry)
    obtain ⟨z, hd, xs, rel, dd⟩ := dt_rd I.hok e
    refine wpAny_notIn_heap (tupleKind_room_in1 hu) (key_of I.hok eb) hd dd ?_
    have q := (rel.val k).isSome_eq
    rw [Option.isSome_map] at q
    rw [← q, ← l]
    exact h _ (I.tok _)
/-- a dict's object is replaced -/
theorem d_write {h' : Heap} {t' : Nat} {ob : HO} (I : Inv X pins σ H s) (mu : Mut (H a)) (hs : Heap.SameBut a s.heap h') (he : ∃ q, h'.get? a = some q) (new : ObjOk X.prog X.w (upd H a ob) h' a ob) :
    Inv X pins σ (upd H a ob) { s with heap := h', toks := t' } :=
  I.write (x := a) (e := a) mu (.inl rfl) (fun b q hb z => (hs.2 b hb).trans z) he new
theorem dk_new {P : Program} {w : World} {H' : Hp} {h' : Heap} {kvs : List (Key × V)} {vs : List (Key × Value)} (z : kvs.length ≤ sizeLine) (hd : (a == sysModules) = false) (rel : KV kvs vs) (dd : h'.DictOf (mixKind P w) a vs) :
    ObjOk P w H' h' a (.dK kvs) := ⟨z, hd, vs, rel, dd⟩
/-- d[y] = v -/
theorem d_setItem {H' : Hp} {Q : Unit → Shared → Prop} (hu : A.units + 1 < cLine) (I : Inv X pins σ H s) (g : DPut H a y v H') (ry : RelV y u) (rv : RelV v r) (h : ∀ s', Inv X pins σ H' s' → Q () s') :
    wpAny (model X.prog X.w) A (setItem (.ref a) u r) Q E s := by
  rcases g with ⟨kvs, k, e, ey, l, eH⟩ | ⟨kvs, k, b, e, ey, eb, l, eH⟩
  · subst ey eH
    obtain ⟨z, hd, vs, rel, dd⟩ := dk_of I.hok e
    have hz : vs.length ≤ sizeLine := by rw [← rel.length]; exact z
    have hl : (putK kvs k v).length ≤ sizeLine := by have := length_putK kvs k v; omega
    refine wpAny_setItem_pairs (hsz := hz) (kV_is ry) dd fun h' dd' hs => h _ ?_
    have he : ∃ q, h'.get? a = some q := let ⟨q, _, _, hq, _⟩ := dd'; ⟨q, hq⟩
    exact d_write I (by rw [e]; exact True.intro) hs he (dk_new hl hd (rel.put k rv) dd')
  · subst ey eH
    cases (show u = Value.ref b from ry)
    obtain ⟨z, hd, xs, rel, dd⟩ := dt_of I.hok e
    have hz : xs.length ≤ sizeLine := by rw [← Paired.length rel]; exact z
    have hl : (putK kvs k v).length ≤ sizeLine := by have := length_putK kvs k v; omega
    refine wpAny_setItem_heap (hsz := hz) (tupleKind_room_in1 hu) (key_of I.hok eb) dd fun h' dd' hs => h _ ?_
    obtain ⟨q, es, ep, hq, h2, h3, h4, _, h5⟩ := dd'
    refine d_write I (by rw [e]; exact True.intro) hs ⟨q, hq⟩ ⟨hl, hd, _, (rel.put k eb rv).keeps fun c ys ec => ?_, q, es, ep, hq, h2, h3, h4, h5⟩
    rw [upd_ne (ne_of ec e (fun z => nomatch z))]
    exact ec
end

section
variable {X : Cx} {pins : List (Addr × Obj)} {σ : St} {H : Hp} {s : Shared} {a : Addr} {kvs : List (Key × V)} {k : Key} {u : Value} {A : Around} {E : Value → Shared → Prop}
/-- d.pop(k[, x]), there -/
theorem d_pop {v : V} {more : List Value} {Q : Value → Shared → Prop} (I : Inv X pins σ H s) (e : H a = some (.dK kvs)) (ry : RelV (kV k) u) (l : valV kvs k = some v) (hm : more = [] ∨ ∃ x, more = [x])
    (h : ∀ w' s', Inv X pins σ (upd H a (.dK (dropK kvs k))) s' → RelV v w' → Q w' s') : wpAny (model X.prog X.w) A (call (.builtin "dict.pop") (.ref a :: u :: more)) Q E s := by
  obtain ⟨z, hd, vs, rel, dd⟩ := dk_of I.hok e
  obtain ⟨w', hw, rw'⟩ := RelO.some_of (v := v) (o := valueAt vs k) (by rw [← l]; exact rel.val k)
  have hp : (keyPart u).isSome = true := by
    cases k with
    | inl i => obtain ⟨t, q⟩ := (show ∃ t, u = Value.int i t from ry); subst q; rfl
    | inr x => obtain ⟨t, q⟩ := (show ∃ t, u = Value.str x t from ry); subst q; rfl
  have ha : argsOk "dict.pop" ⟨.ref a :: u :: more, []⟩ := by
    rcases hm with q | ⟨x, q⟩
    · subst q; exact PySem.F.args_dict_pop_2 _ _
    · subst q; exact PySem.F.args_dict_pop_3 _ _ _
  refine call_meetsIn PySem.F.slot_dict_pop dd.typeIs PySem.F.entry_dict_pop ha (meets_dict_pop_there (mixKind X.prog X.w) a (kV_is ry) more hm hp)
    ⟨vs, w', dd, by rw [← rel.length]; exact z, hw, fun h' dd' hs => h w' _ ?_ rw'⟩
  have he : ∃ q, h'.get? a = some q := let ⟨q, _, _, hq, _⟩ := dd'; ⟨q, hq⟩
  exact d_write I (by rw [e]; exact True.intro) hs he (dk_new (Nat.le_trans (dropK_le kvs k) z) hd (rel.drop k) dd')
end


/-! ### readings and rules -/


def tDNotIn (ty td : TE) : TE := fun σ H Q => ty σ H fun y H1 => td σ H1 fun x H2 => ∃ a o, x = .ref a ∧ DGet H2 a y o ∧ Q (.bl (!o.isSome)) H2
/-- d[y] = v -/
def sDPut (td ty tv : TE) : TS := fun D σ H => tv σ H fun v H1 => td σ H1 fun x H2 => ty σ H2 fun y H3 => ∃ a H4, x = .ref a ∧ DPut H3 a y v H4 ∧ D.nx σ H4

section
variable {X : Cx} {o i e value : Expr} {pos pos' tpos : Pos} {td ty tv : TE}
theorem pc_dnotin (hu : X.A.units + 1 < cLine) (hi : PE X i ty) (ho : PE X o td) : PC X .NotIn i o (tDNotIn ty td) := by
  intro pins s σ H Q I h
  refine thn (hi pins s σ H _ I h) fun iv s1 ⟨y, H1, I1, ry, q1⟩ => thn (ho pins s1 σ H1 _ I1 q1) fun u s2 ⟨x, H2, I2, rx, a, ov, ex, g, q2⟩ => ?_
  subst ex
  obtain rfl : u = Value.ref a := rx
  exact d_notIn hu I2 g ry fun s3 I3 => ⟨.bl (!ov.isSome), H2, I3, rfl, q2⟩
theorem ps_dput (hu : X.A.units + 1 < cLine) (ho : PE X o td) (hi : PE X i ty) (hv : PE X value tv) (hs : swapsWith value (some (.Subscript o i pos')) pos.line X.env = pure false) :
    PS X (.Assign [.Subscript o i pos'] value pos) (sDPut td ty tv) := by
  intro pins s σ H D I h
  refine wpAny_Assign_Subscript (thn (hv pins s σ H _ I h) fun r s1 ⟨v, H1, I1, rv, q1⟩ => thn (ho pins s1 σ H1 _ I1 q1) fun u s2 ⟨x, H2, I2, rx, q2⟩ => thn (hi pins s2 σ H2 _ I2 q2) fun iv s3 ⟨y, H3, I3, ry, a, H4, ex, g, q3⟩ => ?_) hs
  subst ex
  obtain rfl : u = Value.ref a := rx
  exact d_setItem hu I3 g ry rv fun s4 I4 => ⟨σ, H4, I4, q3⟩
end


/-! ### displays -/
theorem dk_empty {P : Program} {w : World} {H : Hp} (h : Heap) (hb : sysModules < h.objs.size) : ObjOk P w H (h.push { cls := .type "dict", data := .dict #[] }) h.objs.size (.dK []) :=
  ⟨Nat.zero_le _, beq_eq_false_iff_ne.mpr (Ne.symm (Nat.ne_of_lt hb)), [], .nil, Heap.DictOf.new h⟩
/-- {}, to be a dict of the kind that is wanted -/
def tDNewK : TE := fun _ H Q => ∀ p, H p = none → Q (.ref p) (upd H p (.dK []))
section
variable {X : Cx} {pos : Pos}
theorem pe_dnewK : PE X (.Dict [] [] pos) tDNewK := fun pins s σ H Q I h =>
  wpAny_Dict_empty ⟨.ref s.heap.objs.size, _, I.laid (a := s.heap.objs.size) (o := .dK []) (t' := s.toks) (fun _ _ q => Heap.get?_push_of_some _ q) (Nat.le_refl _) (dk_empty s.heap I.big), rfl, h _ (I.hok.fresh (Nat.le_refl _))⟩
end




/-! ### methods -/
/-- a method call o.m(e) of a built-in, with one argument: what must be seen of the text -/
structure M1 (X : Cx) (o : Expr) (m : Str) (apos : Pos) (e : Expr) (cpos : Pos) : Prop where
  base : attributeBase o m X.env (eval o X.env) = eval o X.env
  few : ((backTo cpos (starEach [e] X.env)).all (fun x => !x.1) && (backToKw cpos (keywordEach [] X.env)).all (fun x => x.1.isSome)
    && decide (([e] : List Expr).length + ([] : List Keyword).length + (if ([] : List Keyword).isEmpty then 0 else 1) < 30)) = true
  line : (apos.endLine == cpos.line) = true
  trees : backTo cpos (starEach [e] X.env) = [(false, eval e X.env)]

/-- a is a dict, whatever its keys -/
def IsD (H : Hp) (a : Addr) : Prop := (∃ kvs, Rd H a (.dK kvs)) ∨ ∃ kvs, Rd H a (.dT kvs)
theorem isD_at {X : Cx} {pins : List (Addr × Obj)} {σ : St} {H : Hp} {s : Shared} {a : Addr} (I : Inv X pins σ H s) (d : IsD H a) :
    s.TypeIs (.ref a) "dict" ∧ (∀ b, Value.ref a = .ref b → ∃ ob, s.heap.get? b = some ob ∧ ob.dict = none) ∧ (a == sysModules) = false := by
  rcases d with ⟨kvs, e⟩ | ⟨kvs, e⟩
  · obtain ⟨_, hd, vs, _, dd⟩ := dk_rd I.hok e
    refine ⟨dd.typeIs, fun b q => ?_, hd⟩
    cases q
    obtain ⟨ob, _, _, h1, h2, _⟩ := dd
    exact ⟨ob, h1, h2.2.1⟩
  · obtain ⟨_, hd, xs, _, dd⟩ := dt_rd I.hok e
    refine ⟨dd.typeIs, fun b q => ?_, hd⟩
    cases q
    obtain ⟨ob, _, _, h1, h2, _⟩ := dd
    exact ⟨ob, h1, h2.2.1⟩

section
variable {X : Cx} {pins : List (Addr × Obj)} {σ : St} {H : Hp} {s : Shared} {a : Addr} {y d : V} {u r : Value} {o : Option V} {A : Around} {E : Value → Shared → Prop}
end

/-- d.pop(k): there; d.pop(k, x): there or not -/
def tDPop1 (td ty : TE) : TE := fun σ H Q => td σ H fun x H1 => ∃ a, x = .ref a ∧ IsD H1 a ∧ ty σ H1 fun y H2 => ∃ kvs k v, H2 a = some (.dK kvs) ∧ y = kV k ∧ valV kvs k = some v ∧ Q v (upd H2 a (.dK (dropK kvs k)))
section
variable {X : Cx} {o e f : Expr} {apos cpos : Pos} {td ty tx : TE}
theorem pe_dpop1 (ho : PE X o td) (he : PE X e ty) (m : M1 X o "pop" apos e cpos) : PE X (.Call (.Attribute o "pop" apos) [e] [] cpos) (tDPop1 td ty) := by
  intro pins s σ H Q I h
  refine wpAny_Call_method m.base m.few m.line PySem.F.plainAttrs_dict PySem.F.slot_dict_pop PySem.F.type_dict_pop (thn (ho pins s σ H _ I h) fun u s1 ⟨x, H1, I1, rx, a, ex, d, q1⟩ => ?_)
  subst ex
  obtain rfl : u = Value.ref a := rx
  obtain ⟨t1, t2, _⟩ := isD_at I1 d
  refine ⟨t1, t2, ?_⟩
  rw [m.trees]
  refine Calls.callWith_builtin rfl (Calls.evalArgs_plain (Calls.spliced_cons (thn (he pins s1 σ H1 _ I1 q1) fun iv s2 ⟨y, H2, I2, ry, kvs, k, v, ea, ey, l, q2⟩ => Calls.spliced_nil ?_)))
  subst ey
  exact d_pop I2 ea ry l (.inl rfl) fun w' s3 I3 rw' => ⟨v, _, I3, rw', q2⟩
end

/-! ### dict(d): a copy -/
section
variable {X : Cx} {pins : List (Addr × Obj)} {σ : St} {H : Hp} {s : Shared} {a : Addr} {kvs : List (Key × V)} {A : Around} {E : Value → Shared → Prop}
end


section
variable {X : Cx} {pins : List (Addr × Obj)} {σ : St} {H : Hp} {s : Shared} {a : Addr} {y : V} {u : Value} {A : Around} {E : Value → Shared → Prop}
end
end L2
namespace L2
open PySem PySem.Spec PyProof.Rows
section
variable {X : Cx}
end
end L2
end
section
set_option maxRecDepth 100000
set_option maxHeartbeats 4000000
namespace LX
open PySem PySem.W

/-- an exception's object, as it stands: class, attributes' dict, its fields -/
def excRec (c : Value) (od : Option Addr) (fs : Array Value) (sl : Array (Option Value)) : Obj := { cls := c, dict := od, data := .fields fs, slots := sl }
/-- the object of a class of errors -/
def clsRec (dd : Option Addr) (cd : ClassData) (k0 k1 k2 k3 k5 : Option Value) : Obj := { cls := .type "type", dict := dd, data := .cls cd, slots := #[k0, k1, k2, k3, some (.builtin "ValueError.__new__"), k5] }

/-- a class of errors of the text's own, under ValueError -/
structure XCls (K : Frag) (C : Addr) (cd : ClassData) : Prop where
  ob : ∃ dd k0 k1 k2 k3 k5, K.lookup C = some (clsRec dd cd k0 k1 k2 k3 k5)
  del : cd.hasDel = false
  line : ∃ r, cd.mro = .ref C :: r
  val : cd.mro.contains (.type "ValueError") = true
  bas : cd.mro.contains (.type "BaseException") = true
  obj : cd.mro.contains (.type "object") = true
  atr : cd.mro.contains (.type "AttributeError") = false
  nam : cd.mro.contains (.type "NameError") = false

/-- the same as a test -/
def xclsIn (K : Frag) (C : Addr) : Bool := match K.lookup C with
  | some ⟨.type "type", _, .cls cd, sl⟩ => (match cd.mro, sl.toList with
    | .ref D :: _, [_, _, _, _, some (.builtin n), _] => D == C && n == "ValueError.__new__" && !cd.hasDel && cd.mro.contains (.type "ValueError") && cd.mro.contains (.type "BaseException") &&
        cd.mro.contains (.type "object") && !cd.mro.contains (.type "AttributeError") && !cd.mro.contains (.type "NameError")
    | _, _ => false)
  | _ => false
theorem xcls_of {K : Frag} {C : Addr} (e : xclsIn K C = true) : ∃ cd, clsIn K C = some cd ∧ XCls K C cd := by
  unfold xclsIn at e
  split at e
  · rename_i dd cd sl ho
    split at e
    · rename_i D r k0 k1 k2 k3 n k5 hm hs
      simp only [Bool.and_eq_true, beq_iff_eq, Bool.not_eq_true'] at e
      obtain ⟨⟨⟨⟨⟨⟨⟨rfl, rfl⟩, e1⟩, e2⟩, e3⟩, e4⟩, e5⟩, e6⟩ := e
      obtain ⟨sl⟩ := sl
      simp only at hs
      subst hs
      exact ⟨cd, by unfold clsIn; rw [ho], ⟨dd, k0, k1, k2, k3, k5, ho⟩, e1, ⟨r, hm⟩, e2, e3, e4, e5, e6⟩
    · cases e
  · cases e

section
variable {K : Frag} {C : Addr} {cd : ClassData} {M : Model} {h : Heap}
theorem XCls.cls (x : XCls K C cd) : clsIn K C = some cd := by
  obtain ⟨dd, k0, k1, k2, k3, k5, e⟩ := x.ob
  unfold clsIn
  rw [e]
  rfl
theorem XCls.notEmpty (x : XCls K C cd) : cd.mro.isEmpty = false := by
  obtain ⟨r, e⟩ := x.line
  rw [e]
  rfl
theorem XCls.sub (x : XCls K C cd) (X : K.In h) (v : Value) : Looks M h (isSubtype (.ref C) v) (cd.mro.contains v) :=
  looks_mroIn X (by unfold mroIn; rw [x.cls, Option.bind_some, if_neg (by rw [x.notEmpty]; decide)])
theorem XCls.mro (x : XCls K C cd) (X : K.In h) : Looks M h (mroOf (.ref C)) cd.mro := (looks_clsIn X x.cls).andThen .now
theorem XCls.typ (x : XCls K C cd) (X : K.In h) : Looks M h (typeOf (.ref C)) (.type "type") := by
  obtain ⟨dd, k0, k1, k2, k3, k5, e⟩ := x.ob
  exact (Looks.ld (X _ _ e)).andThen .now
theorem XCls.isTy (x : XCls K C cd) (X : K.In h) : Looks M h (isType (.ref C)) true := by
  obtain ⟨dd, k0, k1, k2, k3, k5, e⟩ := x.ob
  intro A Q E s k q
  unfold isType loadHead
  exact wpAny_bind (wpAny_loadPart (k _ _ (X _ _ e)) (wpAny_pure q))
theorem XCls.madeBy (x : XCls K C cd) (X : K.In h) : Looks M h (Bind.madeBy (.ref C)) (some "ValueError.__new__") := by
  obtain ⟨dd, k0, k1, k2, k3, k5, e⟩ := x.ob
  obtain ⟨r, hr⟩ := x.line
  intro A Q E s k q
  unfold Bind.madeBy
  refine wpAny_bind (x.mro X A _ E s k ?_)
  rw [hr, List.forIn_cons]
  refine wpAny_bind (wpAny_bind (wpAny_bind (wpAny_bind (wpAny_loadPart (k _ _ (X _ _ e)) (wpAny_pure ?_)))))
  exact wpAny_pure (wpAny_pure (wpAny_pure q))
theorem XCls.static (x : XCls K C cd) (X : K.In h) : Looks M h (Bind.staticBase (.ref C)) (.ref C) := by
  obtain ⟨r, hr⟩ := x.line
  intro A Q E s k q
  unfold Bind.staticBase
  refine wpAny_bind (x.mro X A _ E s k ?_)
  rw [hr, List.forIn_cons]
  exact wpAny_bind (wpAny_bind (wpAny_bind (x.madeBy X A _ E s k (wpAny_pure (wpAny_pure (wpAny_pure q))))))
theorem canonVE : Manifest.canonical "ValueError.__new__" = Manifest.canonical "BaseException.__new__" := PySem.F.excBase_ValueError.canon
theorem XCls.here (x : XCls K C cd) (X : K.In h) : Looks M h (Bind.madeHere "BaseException.__new__" (.ref C)) () :=
  (x.static X).andThen ((x.madeBy X).andThen (Looks.of_pure (by simp only [Option.map_some, canonVE, bne_self_eq_false, Bool.false_eq_true, if_false])))
end

/-- behind __init__ -/
def Back (x : Addr) (R : Result → Shared → Prop) (r : Result) (s' : Shared) : Prop := match r with
  | .ok (.ret v) => v = .none ∧ R (.ok (.ret (.ref x))) s'
  | .ok _ => False
  | .error e => R (.error e) s'
/-- a new exception's record -/
abbrev newRec (C t : Addr) : Obj := excRec (.ref C) none #[.ref t, .none, .none, .none, .bool false, .none] #[]
abbrev tupRec (vs : List Value) : Obj := { cls := .type "tuple", data := .seq vs.toArray }
/-- the heap with a new exception -/
abbrev withNew (h : Heap) (C : Addr) (vs : List Value) : Heap := (h.push (tupRec vs)).push (newRec C h.objs.size)

section
variable {prog : Program} {w : World} {A : Around} {R : Result → Shared → Prop} {h : Heap} {g : Array GenState} {d : Drawn} {t : Nat} {os : OsState} {K : Frag} {C : Addr} {cd : ClassData} {vs : List Value}

theorem made_new (x : XCls K C cd) (X : K.In h) (hv : vs.length ≤ sizeLine) (k : R (.ok (.ret (.ref (h.objs.size + 1)))) ⟨withNew h C vs, g, d, t, os⟩) :
    codeAny (model prog w) A (.call (.builtin "ValueError.__new__") ⟨.ref C :: vs, []⟩) R ⟨h, g, d, t, os⟩ := by
  have F := PySem.F.excBase_ValueError
  have st := x.static (M := model prog w) X
  have ty := x.isTy (M := model prog w) X
  have mb := x.madeBy (M := model prog w) X
  have hh := x.here (M := model prog w) X
  have s1 := x.sub (M := model prog w) X (.type "ValueError")
  rw [x.val] at s1
  have s2 := x.sub (M := model prog w) X (.type "AttributeError")
  rw [x.atr] at s2
  have s3 := x.sub (M := model prog w) X (.type "NameError")
  rw [x.nam] at s3
  refine codeAny_call_builtin_code (Code.quiet_builtin _ F.quiet) ?_
  have star := F.noStar
  simp only [checkBuiltinCall, F.newKind, F.newSplit, F.newRow]
  repeat (first | simp only [bne_self_eq_false, Bool.false_eq_true, if_false, Bool.not_true] | lk)
  refine codeAny_builtinAt F.entry ?_
  unfold Builtin.«BaseException.__new__»
  refine wpAt_bind ?_
  show wpAt _ _ _ (stack >>= _) _ _ _
  refine wpAt_bind (wpAt_stack fun p below => wpAt_of_wpAny ?_)
  have hends := F.ends
  wp_walk
  refine wpAt_of_wpAny ?_
  rw [F.owner]
  repeat (first | simp only [bne_self_eq_false, Bool.false_eq_true, if_false, Bool.not_true] | lk)
  rw [if_neg (by rw [List.size_toArray]; omega)]
  obtain ⟨dd, k0, k1, k2, k3, k5, ho⟩ := x.ob
  repeat lk
  refine nd_load (Heap.get?_push_of_some _ (Heap.get?_push_of_some _ (X _ _ ho))) (wpAny_pure (wpAny_pure ?_))
  rw [x.del, if_neg Bool.false_ne_true]
  refine wpAny_pure (wpAny_pure ?_)
  show R _ _
  rw [Heap.size_push]
  exact k

/-- C(..) of an error class of the text's own whose __init__ is a def of the text -/
theorem exc_made {f : Addr} (x : XCls K C cd) (X : K.In h) (hi : findIn K (.ref C) "__init__" = some (some (.ref f))) (hf : typeIn K (.ref f) = some (.type "function")) (hv : vs.length ≤ sizeLine)
    (k : codeAny (model prog w) (A.under (.builtin "type.__call__" ⟨.ref C :: vs, []⟩)) (.call (.ref f) ⟨.ref (h.objs.size + 1) :: vs, []⟩) (Back (h.objs.size + 1) R) ⟨withNew h C vs, g, d, t, os⟩) :
    codeAny (model prog w) A (.call (.ref C) ⟨vs, []⟩) R ⟨h, g, d, t, os⟩ := by
  obtain ⟨dd, k0, k1, k2, k3, k5, ho⟩ := x.ob
  have hC := X _ _ ho
  have ht := x.typ (M := model prog w) X
  refine codeAny_of_tree ?_
  show wpAny _ _ (callAny (.ref C) _) _ _ _
  refine nd_load hC ?_
  show wpAny _ _ (callAny.viaDunder (.ref C) _) _ _ _
  unfold callAny.viaDunder
  have sp : Looks (model prog w) h (specialOf (.ref C) "__call__") (some (.builtin "type.__call__")) := ht.andThen (Looks.of_pure tc_lookup)
  refine wpAny_bind (sp.at ?_)
  dsimp only
  rw [tc_bind]
  refine wpAny_bind (wpAny_pure (wpAny_bind (wpAny_pure ?_)))
  refine wpAny_pure (a := Fin.again (.call (.builtin "type.__call__") ⟨.ref C :: vs, []⟩)) (And.intro rfl ?_)
  refine codeAny_call_builtin_at (Code.quiet_builtin _ (by decide +kernel)) entry_typeCall (check_slot tc_kind tc_split (ht.andThen (Looks.of_pure tc_sub)) (tc_args _ _ _) ?_)
  unfold Builtin.«type.__call__»
  have hm := x.mro (M := model prog w) X
  have em := x.notEmpty
  have mb := x.madeBy (M := model prog w) X
  repeat (first | simp only [em, Bool.false_eq_true, if_false] | with_reducible refine wpAny_call ?_ | lk)
  refine made_new x X hv ?_
  have kp : ∀ b o, h.get? b = some o → (withNew h C vs).get? b = some o := fun b o e => Heap.get?_push_of_some _ (Heap.get?_push_of_some _ e)
  have X1 : K.In (withNew h C vs) := X.keeps kp
  have hx : (withNew h C vs).get? (h.objs.size + 1) = some (newRec C h.objs.size) := by heap_get
  have t1 : Looks (model prog w) (withNew h C vs) (typeOf (.ref (h.objs.size + 1))) (.ref C) := (Looks.ld hx).andThen .now
  have s1 := x.sub (M := model prog w) X1 (.ref C)
  obtain ⟨r, hr⟩ := x.line
  rw [show cd.mro.contains (.ref C) = true by rw [hr]; simp] at s1
  have i1 := looks_findIn (M := model prog w) X1 hi
  have b1 := bind_fn (M := model prog w) X1 (.ref (h.objs.size + 1)) hf
  unfold isInstance callSpecial? specialOf
  repeat (first | with_reducible refine wpAny_call ?_ | lk)
  refine codeAny_mono k fun r s' z => ?_
  rcases r with e | (v | _ | _ | _) <;> first | exact z | exact z.elim | skip
  obtain ⟨rfl, z⟩ := z
  exact wpAny_pure (wpAny_pure z)
end
end LX
end
section
set_option maxRecDepth 100000
set_option maxHeartbeats 4000000
namespace LX
open PySem PySem.W
section
variable {prog : Program} {w : World} {A : Around} {E : Value → Shared → Prop} {h : Heap} {g : Array GenState} {d : Drawn} {t : Nat} {os : OsState} {K : Frag} {C e t0 : Addr} {cd : ClassData} {vs : List Value} {od : Option Addr} {fs : Array Value} {sl : Array (Option Value)}

theorem rec_type {M : Model} (he : h.get? e = some (excRec (.ref C) od fs sl)) : Looks M h (typeOf (.ref e)) (.ref C) := (Looks.ld he).andThen .now

/-- ValueError.__init__(e, ..): the arguments are kept anew -/
theorem init_called {Q : Value → Shared → Prop} (x : XCls K C cd) (X : K.In h) (he : h.get? e = some (excRec (.ref C) od fs sl)) (h0 : fs[0]? = some (.ref t0)) (hv : vs.length ≤ sizeLine)
    (k : Q .none ⟨(h.push (tupRec vs)).update e (Obj.mapFields (·.setIfInBounds 0 (.ref h.objs.size))), g, d, t, os⟩) :
    wpAny (model prog w) A (call (.builtin "ValueError.__init__") (.ref e :: vs)) Q E ⟨h, g, d, t, os⟩ := by
  have F := PySem.F.excBase_ValueError
  have ty := rec_type (M := model prog w) he
  have s1 := x.sub (M := model prog w) X (.type "ValueError")
  rw [x.val] at s1
  obtain ⟨dd, k0, k1, k2, k3, k5, ho⟩ := x.ob
  have hC : h.get? C = some ⟨.type "type", dd, .cls cd, #[k0, k1, k2, k3, some (.builtin "ValueError.__new__"), k5]⟩ := X _ _ ho
  have star := F.noStar
  refine wpAny_call (codeAny_call_builtin F.init.plain F.initEntry ?_)
  simp only [checkBuiltinCall, F.initKind, F.initSplit, F.initRow]
  unfold isInstance Bind.checkArgs
  refine wpAny_bind (wpAny_bind (ty.at (s1.at ?_)))
  simp only [Bool.false_eq_true, if_false, Bool.not_true]
  refine wpAny_bind (m := Bind.printed "*" true _ _) ?_
  unfold Bind.printed Bind.receiverType typeNameWhole
  rw [if_neg (by decide)]
  dsimp only
  rw [if_neg (by decide)]
  refine wpAny_bind (ty.at ?_)
  refine wpAny_bind (wpAny_bind ((looks_clsIn X x.cls).at (wpAny_pure (wpAny_pure ?_))))
  refine wpAny_bind (m := if ("ValueError" != "*") = true then pure "ValueError" else _) ?_
  rw [if_pos star]
  refine wpAny_pure (wpAny_onRaise ?_)
  show wpAny _ _ (Bind.check _ _ _ _ []) _ _ _
  rw [PyProof.Rows.check_varPos]
  refine wpAny_pure ?_
  unfold Builtin.«BaseException.__init__»
  dsimp only
  rw [if_neg (by simp)]
  unfold newTuple Builtin.BaseException.bexcPut
  have hsz : 0 < fs.size := (Array.getElem?_eq_some_iff.mp h0).1
  have e1 := Heap.get?_push_of_some (h := h) (tupRec vs) he
  refine wpAny_bind (wpAny_newObj_type ?_ (by show vs.toArray.size ≤ sizeLine; rw [List.size_toArray]; exact hv))
  refine wpAny_bind (wpAny_bind (wpAny_field (s := ⟨h.push (tupRec vs), g, d, t, os⟩) e1 rfl h0 ?_))
  refine wpAny_bind (wpAny_setField (s := ⟨h.push (tupRec vs), g, d, t, os⟩) e1 rfl hsz ?_)
  exact wpAny_letGo (wpAny_pure k)
end
end LX
end
section
set_option maxRecDepth 100000
set_option maxHeartbeats 4000000
namespace LX
open PySem PySem.W
section
variable {prog : Program} {w : World} {A : Around} {E : Value → Shared → Prop} {s : Shared} {K : Frag}
theorem ve_find : findCls K (.type "ValueError") (.type "type") "__init__" = some (.val (.builtin "ValueError.__init__")) := by kernel_rfl
theorem ve_ga : findIn K (.type "type") "__getattribute__" = some (some (.builtin "type.__getattribute__")) := by kernel_rfl
theorem ve_typ {M : Model} {h : Heap} : Looks M h (typeOf (.type "ValueError")) (.type "type") := Looks.of_pure (by kernel_rfl)
theorem ve_sub : subIn K (.type "type") (.type "type") = some true := by kernel_rfl
theorem ve_opq {M : Model} {h : Heap} : Looks M h (opaqueClassAbove (.type "ValueError")) none := Looks.of_pure (by kernel_rfl)
/-- ValueError.__init__, as it is called -/
theorem ve_init {pl : Sem Bool} {Q : Value × List Value → Shared → Prop} (X : K.In s.heap) (k : Q (.builtin "ValueError.__init__", []) { s with toks := s.toks + 1 }) :
    wpAny (model prog w) A (getMethod (.type "ValueError") "__init__" pl) Q E s := by
  have sp : Looks (model prog w) s.heap (specialOf (.type "ValueError") "__getattribute__") (some (.builtin "type.__getattribute__")) := ve_typ.andThen (looks_findIn X ve_ga)
  unfold getMethod
  refine wpAny_bind (sp.here ?_)
  dsimp only
  rw [if_pos canon_tga]
  refine wpAny_bind (cls_open (hook := none) X ve_opq ve_typ ve_ga (Looks.of_pure (by kernel_rfl)) ve_sub ve_find ?_)
  refine wpAny_pure ?_
  show wpAny _ _ (handedOut _) _ _ _
  rw [handedOut_of (by kernel_rfl)]
  exact wpAny_pure (wpAny_pure k)
end
end LX
end
section
set_option maxRecDepth 100000
set_option maxHeartbeats 4000000
namespace LX
open PySem PySem.W
section
variable {prog : Program} {w : World} {A : Around} {E : Value → Shared → Prop} {s : Shared} {K : Frag} {env : Env}
/-- what is raised: an exception of a class of the text's own, not raised yet -/
def RaisableX (K : Frag) (E : Value → Shared → Prop) (v : Value) (s1 : Shared) : Prop :=
  ∃ (ea C : Addr) (cd : ClassData) (od : Option Addr) (fs : Array Value) (sl : Array (Option Value)), v = .ref ea ∧ s1.heap.get? ea = some (excRec (.ref C) od fs sl) ∧ fs[1]? = some .none ∧ XCls K C cd ∧ K.In s1.heap ∧ E (.ref ea) s1
theorem raise_own {e : Expr} {pos : Pos} {Q : Flow → Shared → Prop} (hh : A.handled = none) (k : wpAny (model prog w) A (eval e env) (RaisableX K E) E s) :
    wpAny (model prog w) A (exec (.Raise (some e) none pos) env) Q E s := by
  show wpAny (model prog w) A (do standAt pos; raiseStmt env (some (do let v ← eval e env; standAt pos; pure v)) none) Q E s
  refine wpAny_bind (wpAny_standAt ?_)
  unfold raiseStmt
  dsimp only
  refine wpAny_bind (wpAny_bind (wpAny_mono k (fun v s1 q => wpAny_bind (wpAny_standAt (wpAny_pure ?_))) fun _ _ z => z))
  obtain ⟨ea, C, cd, od, fs, sl, rfl, he, h1, x, X, hE⟩ := q
  obtain ⟨hp, g, d, tk, os⟩ := s1
  have ty := rec_type (M := model prog w) he
  have nt : Looks (model prog w) hp (isType (.ref ea)) false := by
    intro A' Q' E' s' kk q
    unfold isType loadHead
    exact wpAny_bind (wpAny_loadPart (kk _ _ he) (wpAny_pure q))
  have sb := x.sub (M := model prog w) X (.type "BaseException")
  rw [x.bas] at sb
  have ct := x.typ (M := model prog w) X
  have f1 : Looks (model prog w) hp (field (.ref ea) 1) .none := looks_field he 1 h1
  refine wpAny_bind (wpAny_pure ?_)
  dsimp only
  refine wpAny_bind (wpAny_holding ?_)
  unfold excFromValue isExcClass isInstance
  repeat (first | simp only [Bool.false_eq_true, if_false, if_true] | lk)
  show wpAny _ _ handled _ _ _
  refine wpAny_handled ?_
  rw [hh]
  exact wpAny_throw hE
/-- does an exception of one class of ours match another one -/
theorem matches_own {ea C D : Addr} {cd cd' : ClassData} {od : Option Addr} {fs : Array Value} {sl : Array (Option Value)} {h : Heap} {g : Array GenState} {d : Drawn} {t : Nat} {os : OsState} {Q : Bool → Shared → Prop} {M : Model} (x : XCls K C cd) (y : XCls K D cd') (X : K.In h)
    (he : h.get? ea = some (excRec (.ref C) od fs sl)) (q : Q (cd.mro.contains (.ref D)) ⟨h, g, d, t, os⟩) : wpAny M A (excMatches (.ref ea) (.ref D)) Q E ⟨h, g, d, t, os⟩ := by
  have ty := rec_type (M := M) he
  have td := y.typ (M := M) X
  have ti := y.isTy (M := M) X
  have tn : Looks M h (isSubtype (.type "type") (.type "tuple")) false := Looks.of_pure tc_notTuple
  have yb := y.sub (M := M) X (.type "BaseException")
  rw [y.bas] at yb
  have xs := x.sub (M := M) X (.ref D)
  unfold excMatches isInstance isExcClass
  repeat (first | simp only [Bool.false_eq_true, if_false, if_true, Bool.not_true] | lk)
  cases hb : cd.mro.contains (.ref D) with
  | true =>
    rw [hb] at q
    simp only [if_true]
    repeat lk
    exact q
  | false =>
    rw [hb] at q
    simp only [Bool.false_eq_true, if_false]
    repeat lk
    exact q

/-- an exception as an instance of its class -/
theorem inst_none {ea C : Addr} {fs : Array Value} {sl : Array (Option Value)} {h : Heap} (he : h.get? ea = some (excRec (.ref C) none fs sl)) : InstAt h ea (excRec (.ref C) none fs sl) C none := ⟨he, rfl, rfl, True.intro⟩
theorem inst_some {ea C dx : Addr} {o : Obj} {fs : Array Value} {sl : Array (Option Value)} {h : Heap} (he : h.get? ea = some (excRec (.ref C) (some dx) fs sl)) (hd : h.get? dx = some o) : InstAt h ea (excRec (.ref C) (some dx) fs sl) C (some o) := ⟨he, rfl, rfl, hd⟩
end
end LX
end
section
set_option maxRecDepth 100000
set_option maxHeartbeats 4000000
namespace LX
open PySem PySem.W
/-- what attributes of an exception's class ask -/
structure XGet (K : Frag) (C : Addr) : Prop where
  ga : findIn K (.ref C) "__getattribute__" = some (some (.builtin "BaseException.__getattribute__"))
  gt : findIn K (.ref C) "__getattr__" = some none
section
variable {prog : Program} {w : World} {A : Around} {E : Value → Shared → Prop} {h : Heap} {g : Array GenState} {d : Drawn} {t : Nat} {os : OsState} {K : Frag} {C ea : Addr} {cd : ClassData} {ox : Obj} {od : Option Obj} {name : Str}
/-- e.name, whatever is found -/
theorem getby_exc {tk : Tok} {fill expr : Bool} {r : Builtin.ObjectAttr.Found} {Q : Value → Shared → Prop} (x : XCls K C cd) (G : XGet K C) (X : K.In h) (I : InstAt h ea ox C od) (hf : findObj K C od name = some r)
    (k : match r with
      | .value v => handedIn v = true ∧ Q v ⟨h, g, d, t, os⟩
      | .bind gg a => wpAny (model prog w) A.in1 (call gg [a, .ref ea, .ref C]) (fun v s' => handedIn v = true ∧ Q v s') (fun _ _ => False) ⟨h, g, d, t, os⟩
      | .missing => False) :
    wpAny (model prog w) A (getAttrBy (.ref ea) (.str name tk) fill expr) Q E ⟨h, g, d, t, os⟩ := by
  have ty := I.type (M := model prog w)
  have l1 := looks_findIn (M := model prog w) X G.ga
  have l2 := looks_findIn (M := model prog w) X G.gt
  have l3 := looks_find (M := model prog w) X I hf
  have sb := x.sub (M := model prog w) X (.type "BaseException")
  rw [x.bas] at sb
  have S := PySem.F.excAttr_ValueError.ga
  unfold getAttrBy
  refine wpAny_holding (wpAny_bind (ty.at (wpAny_bind (l1.at ?_))))
  dsimp only
  rw [show (onTheHeap (Value.ref C) && Value.builtin "BaseException.__getattribute__" == Value.builtin "object.__getattribute__") = false by rw [show (Value.builtin "BaseException.__getattribute__" == Value.builtin "object.__getattribute__") = false by decide +kernel, Bool.and_false], if_neg Bool.false_ne_true]
  unfold getAttrByItsOwn
  have hb : Looks (model prog w) h (hookBefore (.ref C)) none := looks_hook X (by rw [if_pos (by rfl)]; exact G.gt)
  refine wpAny_bind (hb.at (wpAny_bind (wpAny_attempt (wpAny_holding ?_))))
  unfold callGetattribute
  rw [show (expr && onTheHeap (Value.builtin "BaseException.__getattribute__")) = false from Bool.and_false _, if_neg Bool.false_ne_true]
  unfold boundAndCalled
  rw [S.bind]
  refine wpAny_bind (wpAny_pure ?_)
  show wpAny _ _ (call (.builtin "BaseException.__getattribute__") [.ref ea, .str name tk]) _ _ _
  refine wpAny_call (codeAny_call_builtin S.plain PySem.F.entry_bexc_ga ?_)
  refine @check_slot (model prog w) _ _ ⟨h, g, d, t, os⟩ "BaseException.__getattribute__" "BaseException" "__getattribute__" (.ref ea) [.str name tk] [] _ (by decide +kernel) (by decide +kernel) (ty.andThen sb) (PySem.F.args_bexc_ga (.ref ea) (.str name tk)) ?_
  unfold Builtin.«object.__getattribute__»
  refine wpAny_bind (wpAny_pure (wpAny_bind (wpAny_pure (wpAny_bind (ty.at (wpAny_bind (l3.at ?_)))))))
  cases r with
  | value v =>
    refine wpAny_pure ?_
    show wpAny _ _ (handedOut v) _ _ _
    rw [handedOut_of k.1]
    exact wpAny_pure k.2
  | bind gg a =>
    refine wpAny_bind (wpAny_holding (wpAny_mono k (fun v s' z => wpAny_pure ?_) fun _ _ z => z.elim))
    show wpAny _ _ (handedOut v) _ _ _
    rw [handedOut_of z.1]
    exact wpAny_pure z.2
  | missing => exact k.elim
/-- e.__class__ as isinstance asks it -/
theorem class_exc {Q : Option Value → Shared → Prop} (x : XCls K C cd) (G : XGet K C) (X : K.In h) (I : InstAt h ea ox C od) (hc : findIn K (.ref C) "__class__" = some (some (.builtin "object.__class__")))
    (k : Q (some (.ref C)) ⟨h, g, d, t + 1, os⟩) : wpAny (model prog w) A (getAttr? (.ref ea) "__class__") Q E ⟨h, g, d, t, os⟩ := by
  have hn : specialIn K (.builtin "object.__class__") "__get__" = some (some (.builtin "getset_descriptor.__get__")) := by kernel_rfl
  have ht : takesIn K (.builtin "object.__class__") = some true := by kernel_rfl
  have hf : findObj K C od "__class__" = some (.bind (.builtin "getset_descriptor.__get__") (.builtin "object.__class__")) := by
    unfold findObj
    rw [x.cls, Option.bind_some, hc, Option.bind_some]
    dsimp only
    rw [hn, Option.bind_some]
    dsimp only
    rw [ht]
    rfl
  have mo : mroIn K C (.type "object") = some true := by
    unfold mroIn
    rw [x.cls, Option.bind_some, if_neg (by rw [x.notEmpty]; decide), x.obj]
  unfold getAttr? getAttrBy?
  refine wpAny_bind (wpAny_mkText (wpAny_bind (wpAny_attempt ?_)))
  refine getby_exc (t := t + 1) x G X I hf ?_
  refine wpAny_call ?_
  refine class_get (s := ⟨h, g, d, t + 1, os⟩) (ox := ox) (od := od) X I mo ⟨rfl, ?_⟩
  exact wpAny_pure k
/-- isinstance's ways with an exception -/
theorem kit_exc (x : XCls K C cd) (G : XGet K C) (hc : findIn K (.ref C) "__class__" = some (some (.builtin "object.__class__"))) : KitX K (.ref ea) (.ref C) (fun h => ∃ ox od, InstAt h ea ox C od) where
  ty := fun _ _ _ ⟨_, _, I⟩ => I.type
  it := fun _ _ X _ => x.isTy X
  ne := fun h tp dd its n sl X htp => by
    obtain ⟨d2, k0, k1, k2, k3, k5, e⟩ := x.ob
    refine Bool.eq_false_iff.mpr fun q => ?_
    have e2 : C = tp := Value.ref.inj (beq_iff_eq.mp q)
    subst e2
    have z := congrArg (fun o : Option Obj => o.map (·.data)) ((X _ _ e).symm.trans htp)
    simp [clsRec] at z
  ca := fun {_ _ _ _ _ s} X ⟨_, _, I⟩ k => by
    obtain ⟨hh, gg, dd, tt, oo⟩ := s
    exact class_exc x G X I hc k
end
end LX
end
section
set_option maxRecDepth 100000
set_option maxHeartbeats 4000000
namespace LX
open PySem PySem.W
section
variable {prog : Program} {w : World} {A : Around} {E : Value → Shared → Prop} {h : Heap} {g : Array GenState} {d : Drawn} {t : Nat} {os : OsState} {K : Frag} {C CH ea : Addr} {cd : ClassData} {fs : Array Value} {sl : Array (Option Value)} {name : Str} {v : Value}

end
end LX
end
section
set_option maxRecDepth 100000
set_option maxHeartbeats 4000000
namespace LX
open PySem

/-- of a heap all is kept but the records at xs; the frames at fr keep all but their slots -/
structure Kept (fr xs : List Addr) (h k : Heap) : Prop where
  plain : ∀ b o, h.get? b = some o → b ∉ fr → b ∉ xs → k.get? b = some o
  frame : ∀ b o, h.get? b = some o → b ∈ fr → b ∉ xs → ∃ sl, k.get? b = some { o with slots := sl }
theorem Kept.trans {fr xs ys : List Addr} {h k m : Heap} (x : Kept fr xs h k) (y : Kept fr ys k m) : Kept fr (xs ++ ys) h m where
  plain := fun b o e hb hx => y.plain b o (x.plain b o e hb fun z => hx (List.mem_append_left _ z)) hb fun z => hx (List.mem_append_right _ z)
  frame := fun b o e hb hx => by
    obtain ⟨sl, e1⟩ := x.frame b o e hb fun z => hx (List.mem_append_left _ z)
    obtain ⟨sm, e2⟩ := y.frame b _ e1 hb fun z => hx (List.mem_append_right _ z)
    exact ⟨sm, e2⟩
theorem Kept.weak {fr xs ys : List Addr} {h k : Heap} (x : Kept fr xs h k) (s : ∀ b o, h.get? b = some o → b ∈ xs → b ∈ ys) : Kept fr ys h k :=
  ⟨fun b o e hb hy => x.plain b o e hb fun z => hy (s b o e z), fun b o e hb hy => x.frame b o e hb fun z => hy (s b o e z)⟩

abbrev framesOf (l : List Env) : List Addr := l.filterMap (·.frame)

section
variable {M : Model} {A : Around} {E : Value → Shared → Prop} {s : Shared} {base : Heap} {env : Env} {outer : List Env} {L e : Addr} {c : Value} {od : Option Addr} {fs : Array Value} {sl : Array (Option Value)}

/-- a frame is no record of fields -/
theorem frame_ne {l : List Env} (F : s.heap.FunFrames base l) (he : s.heap.get? e = some (excRec c od fs sl)) : e ∉ framesOf l := fun z => by
  obtain ⟨_, o, ho, hn⟩ := F.mem z
  rw [he] at ho
  cases ho
  exact hn fs rfl

theorem upd_rec {h : Heap} {a : Addr} {i : Nat} {x : Value} (ha : h.get? a = some (excRec c od fs sl)) :
    (h.update a (Obj.mapFields (·.setIfInBounds i x))).get? a = some (excRec c od (fs.setIfInBounds i x) sl) := Heap.get?_update_self _ ha rfl

/-- the entry of a traceback is laid and hung at the exception -/
theorem entry_laid {head : Value} {had : Bool} {Q : Unit → Shared → Prop} (hA : A.frames = some (env :: outer)) (F : s.heap.FunFrames base (env :: outer)) (hL : env.frame = some L)
    (he : s.heap.get? e = some (excRec c od fs sl)) (h1 : 1 < fs.size)
    (k : ∀ m T oc ts, s.heap.objs.size ≤ T → Kept (framesOf (env :: outer)) [e] s.heap m → m.get? e = some (excRec c od (fs.setIfInBounds 1 (.ref T)) sl) → m.get? T = some (excRec oc none ts #[]) → ts[3]? = some (rawInt L) → Q () { s with heap := m }) :
    wpAny M A (do let a ← frameOf env; let pl ← entryPlaceOf L had; let b ← EntryCells.newEntry head a .none (rawInt L) .none pl; setField (.ref e) 1 b) Q E s := by
  have ne := frame_ne F he
  refine wpAny_bind (wpAny_frameOf_fun hA F hL fun g hg => ?_)
  obtain ⟨g0, g1, g2⟩ := hg
  refine wpAny_bind (wpAny_entryPlaceOf fun pl hp => ?_)
  unfold EntryCells.newEntry newFields
  refine wpAny_bind (wpAny_newObj_type ?_ (hp.sizeOk5 _ _ _ _ _))
  have e1 : g.get? e = some (excRec c od fs sl) := (g1 e ne).trans he
  have e2 := Heap.get?_push_of_some (h := g) { cls := .type "traceback", dict := none, data := .fields ([head, .ref L, .none, rawInt L, .none] ++ (if pl.isEmpty then List.replicate 6 Value.none else pl)).toArray } e1
  refine wpAny_setField e2 rfl h1 ?_
  have Te : g.objs.size ≠ e := Nat.ne_of_gt (Heap.lt_size e1)
  refine k _ g.objs.size (.type "traceback") ([head, .ref L, .none, rawInt L, .none] ++ (if pl.isEmpty then List.replicate 6 Value.none else pl)).toArray (Nat.le_of_eq g0.symm) ⟨fun b o q hb hx => ?_, fun b o q hb hx => ?_⟩ (upd_rec e2) ?_ ?_
  · have be : b ≠ e := fun z => hx (by rw [z]; exact List.mem_singleton.mpr rfl)
    rw [Heap.get?_update_other _ _ (Ne.symm be)]
    exact Heap.get?_push_of_some _ ((g1 b hb).trans q)
  · have be : b ≠ e := fun z => hx (by rw [z]; exact List.mem_singleton.mpr rfl)
    obtain ⟨sm, q2⟩ := g2 b o q
    refine ⟨sm, ?_⟩
    rw [Heap.get?_update_other _ _ (Ne.symm be)]
    exact Heap.get?_push_of_some _ q2
  · rw [Heap.get?_update_other _ _ (Ne.symm Te)]
    exact Heap.get?_push_size g rfl
  · first | (simp; done) | (rcases hp with rfl | ⟨_, _, _, _, _, _, _, rfl⟩ <;> simp)

/-- how an exception's traceback lies: none, or an entry that no frame holds -/
inductive Trail (h : Heap) (e : Addr) (fs : Array Value) : Option Addr → Prop where
  | none (h1 : fs[1]? = some .none) : Trail h e fs none
  | some {T : Addr} {oc : Value} {ts : Array Value} {d : Option Addr} {sl : Array (Option Value)} (h1 : fs[1]? = some (.ref T)) (ne : T ≠ e) (hT : h.get? T = some (excRec oc d ts sl)) (h3 : ts[3]? = some .none) : Trail h e fs (some T)
theorem Trail.size {h : Heap} {fs : Array Value} {T : Option Addr} (t : Trail h e fs T) : 1 < fs.size := by
  cases t with
  | none h1 => exact (Array.getElem?_eq_some_iff.mp h1).1
  | some h1 => exact (Array.getElem?_eq_some_iff.mp h1).1

/-- noteFrame at a frame that the exception has not been noted at -/
theorem note_on {T0 : Option Addr} {Q : Unit → Shared → Prop} (hA : A.frames = some (env :: outer)) (F : s.heap.FunFrames base (env :: outer)) (hL : env.frame = some L) (he : s.heap.get? e = some (excRec c od fs sl)) (t : Trail s.heap e fs T0)
    (k : ∀ m T oc ts, s.heap.objs.size ≤ T → Kept (framesOf (env :: outer)) (e :: T0.toList) s.heap m → m.get? e = some (excRec c od (fs.setIfInBounds 1 (.ref T)) sl) → m.get? T = some (excRec oc none ts #[]) → ts[3]? = some (rawInt L) → Q () { s with heap := m }) :
    wpAny M A (noteFrame (.ref e) env) Q E s := by
  unfold noteFrame
  simp only [hL]
  have h1s := t.size
  cases t with
  | none h1 =>
    refine wpAny_bind (wpAny_field he rfl h1 ?_)
    rw [if_neg (by decide)]
    exact entry_laid hA F hL he h1s k
  | @some T oc ts d sm h1 ne hT h3 =>
    refine wpAny_bind (wpAny_field he rfl h1 ?_)
    rw [if_pos (show (Value.ref T != Value.none) = true by simp)]
    refine wpAny_bind (wpAny_field hT rfl h3 ?_)
    rw [if_neg (show ¬ ((Value.none == rawInt L) = true) by simp [rawInt])]
    have h3s : 3 < ts.size := (Array.getElem?_eq_some_iff.mp h3).1
    refine wpAny_bind (wpAny_setField hT rfl h3s ?_)
    have oth : ∀ b, b ≠ T → (s.heap.update T (Obj.mapFields (·.setIfInBounds 3 Value.none))).get? b = s.heap.get? b := fun b hb => Heap.get?_update_other _ _ (Ne.symm hb)
    have nT := frame_ne F hT
    have F1 : (s.heap.update T (Obj.mapFields (·.setIfInBounds 3 Value.none))).FunFrames base (env :: outer) := F.of_keeps fun b o hb hn => ⟨o, (oth b fun z => by rw [z, hT] at hb; cases hb; exact hn ts rfl).trans hb, rfl⟩
    refine entry_laid (s := { s with heap := s.heap.update T (Obj.mapFields (·.setIfInBounds 3 Value.none)) }) hA F1 hL ((oth e (Ne.symm ne)).trans he) h1s fun m T' oc' ts' z1 z2 z3 z4 z5 => k m T' oc' ts' ?_ ?_ z3 z4 z5
    · have zz : (s.heap.update T (Obj.mapFields (·.setIfInBounds 3 Value.none))).objs.size = s.heap.objs.size := (Heap.SameBut.update (h := s.heap) (a := T) (f := Obj.mapFields (·.setIfInBounds 3 Value.none))).1
      rw [← zz]; exact z1
    · have kk : Kept (framesOf (env :: outer)) [T] s.heap (s.heap.update T (Obj.mapFields (·.setIfInBounds 3 Value.none))) :=
        ⟨fun b o q _ hx => (oth b fun z => hx (by rw [z]; exact List.mem_singleton.mpr rfl)).trans q, fun b o q _ hx => ⟨o.slots, (oth b fun z => hx (by rw [z]; exact List.mem_singleton.mpr rfl)).trans q⟩⟩
      refine (kk.trans z2).weak fun b o _ q => ?_
      simp only [List.mem_append, List.mem_singleton] at q
      simp only [Option.toList_some, List.mem_cons, List.not_mem_nil, or_false]
      exact q.symm

/-- setFlight none at an exception whose entry stands -/
theorem flight_off {T : Addr} {oc : Value} {ts : Array Value} {d : Option Addr} {sm : Array (Option Value)} {Q : Unit → Shared → Prop} (he : s.heap.get? e = some (excRec c od fs sl)) (h1 : fs[1]? = some (.ref T)) (ne : T ≠ e)
    (hT : s.heap.get? T = some (excRec oc d ts sm)) (h3 : 3 < ts.size)
    (k : ∀ m, (∀ b o, b ≠ T → s.heap.get? b = some o → m.get? b = some o) → Trail m e fs (some T) → m.get? e = some (excRec c od fs sl) → Q () { s with heap := m }) : wpAny M A (setFlight (.ref e) none) Q E s := by
  unfold setFlight
  refine wpAny_bind (wpAny_field he rfl h1 ?_)
  rw [if_pos (show (Value.ref T != Value.none) = true by simp)]
  have oth : ∀ b o, b ≠ T → s.heap.get? b = some o → (s.heap.update T (Obj.mapFields (·.setIfInBounds 3 Value.none))).get? b = some o := fun b o hb q => (Heap.get?_update_other _ _ (Ne.symm hb)).trans q
  exact wpAny_setField hT rfl h3 (k _ oth (.some h1 ne (upd_rec hT) (by simp [h3])) (oth e _ (Ne.symm ne) he))

/-- an exception leaves a frame -/
theorem leaves {T0 : Option Addr} {Q : Unit → Shared → Prop} (hA : A.frames = some (env :: outer)) (F : s.heap.FunFrames base (env :: outer)) (hL : env.frame = some L) (he : s.heap.get? e = some (excRec c od fs sl)) (t : Trail s.heap e fs T0)
    (k : ∀ m T fs', s.heap.objs.size ≤ T → Kept (framesOf (env :: outer)) (e :: T0.toList) s.heap m → m.get? e = some (excRec c od fs' sl) → fs'[0]? = fs[0]? → Trail m e fs' (some T) → Q () { s with heap := m }) :
    wpAny M A (leaving env (.ref e)) Q E s := by
  unfold leaving
  refine wpAny_bind (note_on hA F hL he t fun m T oc ts z1 z2 z3 z4 z5 => ?_)
  have Te : T ≠ e := Nat.ne_of_gt (Nat.lt_of_lt_of_le (Heap.lt_size he) z1)
  have f1 : (fs.setIfInBounds 1 (Value.ref T))[1]? = some (.ref T) := by
    have := t.size
    simp [this]
  refine flight_off (s := { s with heap := m }) z3 f1 Te z4 (Array.getElem?_eq_some_iff.mp z5).1 fun m' q1 q2 q3 => k m' T _ z1 ⟨fun b o q hb hx => ?_, fun b o q hb hx => ?_⟩ q3 (by simp) q2
  · exact q1 b o (Nat.ne_of_lt (Nat.lt_of_lt_of_le (Heap.lt_size q) z1)) (z2.plain b o q hb hx)
  · obtain ⟨sm, r⟩ := z2.frame b o q hb hx
    exact ⟨sm, q1 b _ (Nat.ne_of_lt (Nat.lt_of_lt_of_le (Heap.lt_size q) z1)) r⟩
end
end LX
end
section
set_option Elab.async false
set_option linter.all false
set_option maxRecDepth 100000
set_option maxHeartbeats 4000000
namespace L2
open PySem PySem.Spec PyProof.Rows LX

/-! ### an exception as a tracked thing -/
/-- class C, the dict of its attributes at od; fresh: not raised yet -/
def ExP (fresh : Bool) (C e : Addr) (od : Option Addr) (h : Heap) : Prop := ∃ fs sl t0, h.get? e = some (excRec (.ref C) od fs sl) ∧ fs[0]? = some (.ref t0) ∧ (fresh = true → fs[1]? = some .none)
def exo (fresh : Bool) (C e : Addr) (od : Option Addr) : HO := .ext (ExP fresh C e od)
section
variable {P : Program} {w : World} {H : Hp} {h : Heap} {b : Bool} {C e : Addr} {od : Option Addr}
theorem exo_ok (x : ExP b C e od h) : ObjOk P w H h e (exo b C e od) := by
  refine ⟨x, ?_, fun h1 h2 p k => ?_⟩
  · obtain ⟨fs, sl, t0, z, _⟩ := x
    exact ⟨_, z⟩
  · obtain ⟨fs, sl, t0, z, r⟩ := p
    exact ⟨fs, sl, t0, k _ z, r⟩
theorem exo_get (ok : HOk P w H h) (z : H e = some (exo b C e od)) : ExP b C e od h := (show ObjOk P w H h e (exo b C e od) from ok e _ z).1
end
/-- no longer tracked -/
def del (H : Hp) (a : Addr) : Hp := fun b => if b = a then none else H b
theorem del_same {H : Hp} {a : Addr} : del H a a = none := by unfold del; rw [if_pos rfl]
theorem del_ne {H : Hp} {a b : Addr} (h : b ≠ a) : del H a b = H b := by unfold del; rw [if_neg h]
theorem del_some {H : Hp} {a b : Addr} {o : HO} (h : del H a b = some o) : H b = some o ∧ b ≠ a := by
  unfold del at h
  by_cases q : b = a
  · rw [if_pos q] at h; cases h
  · rw [if_neg q] at h; exact ⟨h, q⟩

/-! ### heaps that keep what is tracked -/
section
variable {P : Program} {w : World} {H H' : Hp} {h h' : Heap} {a : Addr}
theorem HOk.keeps (ok : HOk P w H h) (k : ∀ b u o, H b = some u → h.get? b = some o → h'.get? b = some o) : HOk P w H h' := fun b u q =>
  (ok b u q).stay (fun c v hc r => by
    rcases hc with rfl | hc
    · exact k c u v q r
    · exact k c _ v hc r) (fun _ z => z) fun _ _ z => z
theorem HOk.del (ok : HOk P w H h) (ha : ∀ y, H a ≠ some (.own y)) (hb : ∀ xs, H a ≠ some (.tup xs)) : HOk P w (del H a) h := fun b u q => by
  obtain ⟨q1, q2⟩ := del_some q
  refine (ok b u q1).stay (fun _ _ _ r => r) (fun c z => ?_) fun c xs z => ?_
  · rw [del_ne fun e => ha b (by rw [← e]; exact z)]; exact z
  · rw [del_ne fun e => hb xs (by rw [← e]; exact z)]; exact z
theorem HOk.add (ok : HOk P w H h) {o : HO} (ha : H a = none) (new : ObjOk P w (upd H a o) h a o) : HOk P w (upd H a o) h := fun b u q => by
  by_cases e : b = a
  · subst e
    rw [upd_same] at q
    cases q
    exact new
  · rw [upd_ne e] at q
    refine (ok b u q).stay (fun _ _ _ r => r) (fun c z => ?_) fun c xs z => ?_
    · rw [upd_ne fun e => by rw [e, ha] at z; cases z]; exact z
    · rw [upd_ne fun e => by rw [e, ha] at z; cases z]; exact z
end
theorem funFrames_kept {h k base : Heap} : ∀ {l : List Env}, h.FunFrames base l → (∀ b ∈ frs l, ∀ o, h.get? b = some o → ∃ sl, k.get? b = some { o with slots := sl }) → k.FunFrames base l
  | [], _, _ => True.intro
  | env :: r, ⟨h1, ⟨L, o, e1, e2, e3, e4⟩, h2⟩, q => by
    have hm : L ∈ frs (env :: r) := List.mem_filterMap.mpr ⟨env, List.mem_cons_self, e1⟩
    obtain ⟨sl, z⟩ := q L hm o e3
    refine ⟨h1, ⟨L, _, e1, e2, z, e4⟩, funFrames_kept h2 fun b hb o' z' => q b ?_ o' z'⟩
    obtain ⟨x, hx, hy⟩ := List.mem_filterMap.mp hb
    exact List.mem_filterMap.mpr ⟨x, List.mem_cons_of_mem _ hx, hy⟩

/-! ### how an exception lies behind a call -/
structure Lies (P : Program) (w : World) (outer : List Env) (H H' : Hp) (s : Shared) (ea C T : Addr) (od : Option Addr) (fs : Array Value) (sl : Array (Option Value)) (s' : Shared) : Prop where
  os : s'.os = s.os
  bare : AllBare s'.gens
  un : Un (frs outer) [] H H' s.heap s'.heap
  hok : HOk P w H' s'.heap
  newE : s.heap.get? ea = none
  newT : s.heap.get? T = none
  freeE : H' ea = none
  freeT : H' T = none
  at_ : s'.heap.get? ea = some (excRec (.ref C) od fs sl)
  args : ∃ t0, fs[0]? = some (.ref t0)
  trail : Trail s'.heap ea fs (some T)
def CXE (P : Program) (w : World) : CXT := fun outer H s E e s' => ∃ ea C T od fs sl H', e = .ref ea ∧ Lies P w outer H H' s ea C T od fs sl s' ∧ E (.ref C) od H'

section
variable {X : Cx} {pins : List (Addr × Obj)} {σ : St} {H H' : Hp} {s s' : Shared} {ea C T : Addr} {od : Option Addr} {fs : Array Value} {sl : Array (Option Value)}
/-- the frames behind it -/
theorem Lies.frames (I : Inv X pins σ H s) (l : Lies X.prog X.w X.stack H H' s ea C T od fs sl s') : s'.heap.FunFrames X.base X.stack :=
  funFrames_kept I.stack fun b hb o z => l.un.any z (I.stkFree b hb) (by simp)
/-- what is kept of the state ahead of the call when the exception is noted in this frame -/
theorem Lies.on {m : Heap} {t' : Nat} (I : Inv X pins σ H s) (l : Lies X.prog X.w X.stack H H' s ea C T od fs sl s') (k : Kept (framesOf X.stack) [ea, T] s'.heap m) :
    Un (frs X.stack) [] H H' s.heap m ∧ HOk X.prog X.w H' m := by
  have fr : ∀ b, b ∈ frs X.stack → H' b = none := fun b hb => by
    obtain ⟨_, o, z, _⟩ := I.stack.mem hb
    exact l.un.free b o z (I.stkFree b hb) (by simp)
  have ne : ∀ b o, s.heap.get? b = some o → b ∉ [ea, T] := fun b o z q => by
    rcases List.mem_cons.mp q with e | q
    · rw [e, l.newE] at z; cases z
    · rw [List.mem_singleton.mp q, l.newT] at z; cases z
  refine ⟨⟨fun b o z n hb hx => ?_, fun b o z n hb hx => ?_, l.un.free, fun b o z hx => ?_, l.un.tups, l.un.frzs, l.un.tbls⟩, ?_⟩
  · exact k.plain b o (l.un.keep b o z n hb hx) hb (ne b o z)
  · obtain ⟨s1, z1⟩ := l.un.slot b o z n hb hx
    obtain ⟨s2, z2⟩ := k.frame b _ z1 hb (ne b o z)
    exact ⟨s2, z2⟩
  · obtain ⟨o1, z1⟩ := l.un.there b o z hx
    by_cases hb : b ∈ framesOf X.stack
    · obtain ⟨s2, z2⟩ := k.frame b _ z1 hb (ne b o z)
      exact ⟨_, z2⟩
    · exact ⟨_, k.plain b _ z1 hb (ne b o z)⟩
  · refine l.hok.keeps fun b u o z q => k.plain b o q (fun hb => ?_) fun hx => ?_
    · rw [fr b hb] at z; cases z
    · rcases List.mem_cons.mp hx with e | hx
      · rw [e, l.freeE] at z; cases z
      · rw [List.mem_singleton.mp hx, l.freeT] at z; cases z
end
end L2
end
section
set_option Elab.async false
set_option linter.all false
set_option maxRecDepth 100000
set_option maxHeartbeats 4000000
namespace L2
open PySem PySem.Spec PyProof.Rows LX

/-! ### an exception passes a def's frame -/
section
variable {P : Program} {w : World} {K : PySem.W.Frag} {mg : Str → Option Value} {base : Heap} {N : List Str} {qual : Str} {scope : Scope} {f : Addr} {cdv : Value} {A : Around} {outer : List Env} {s₀ : Shared} {H₀ : Hp} {E₀ : XK}
abbrev cxE (P : Program) (w : World) (K : PySem.W.Frag) (mg : Str → Option Value) (base : Heap) (N : List Str) (qual : Str) (scope : Scope) (f : Addr) (cdv : Value) (A : Around) (outer : List Env) (s₀ : Shared) (H₀ : Hp) (E₀ : XK) : Cx :=
  cxOf (CXE P w) P w K mg base N qual scope f cdv A outer s₀ H₀ E₀

theorem leave_lies {pins : List (Addr × Obj)} {σ : St} {H H' : Hp} {s s' : Shared} {ea C T : Addr} {od : Option Addr} {fs : Array Value} {sl : Array (Option Value)} (I : Inv (cxE P w K mg base N qual scope f cdv A outer s₀ H₀ E₀) pins σ H s)
    (l : Lies P w (cxE P w K mg base N qual scope f cdv A outer s₀ H₀ E₀).stack H H' s ea C T od fs sl s') (hE : E₀ (.ref C) od H') : (cxE P w K mg base N qual scope f cdv A outer s₀ H₀ E₀).xe (.ref ea) s' := by
  refine leaves I.ok.frames (Lies.frames I l) rfl l.at_ l.trail fun m T' fs' z1 z2 z3 z4 z5 => ?_
  obtain ⟨un, hok⟩ := l.on (t' := s'.toks) I z2
  have J : Inv (cxE P w K mg base N qual scope f cdv A outer s₀ H₀ E₀) pins σ H' { s' with heap := m } := I.call' l.os un hok l.bare (fun b z => absurd z (by simp))
  have old : ∀ b o, s₀.heap.get? b = some o → ∃ o', s.heap.get? b = some o' := fun b o z => I.base.there b o z (List.not_mem_nil)
  have e0 : s₀.heap.get? ea = none := by
    cases q : s₀.heap.get? ea with
    | none => rfl
    | some o =>
      obtain ⟨o', z⟩ := old ea o q
      rw [l.newE] at z; cases z
  have t0 : s₀.heap.get? T' = none := by
    cases q : s₀.heap.get? T' with
    | none => rfl
    | some o =>
      obtain ⟨o1, y1⟩ := old T' o q
      obtain ⟨o2, y2⟩ := l.un.there T' o1 y1 (by simp)
      exact absurd (Heap.lt_size y2) (Nat.not_lt.mpr z1)
  obtain ⟨a0, ha⟩ := l.args
  exact ⟨ea, C, T', od, fs', sl, H', rfl, ⟨J.os, J.bare, J.base, J.hok, e0, t0, l.freeE, l.hok.fresh z1, z3, ⟨a0, by rw [z4]; exact ha⟩, z5⟩, hE⟩
theorem passE {E : XK} (hE : ∀ c od H', E c od H' → E₀ c od H') : Passes (CXE P w) (cxE P w K mg base N qual scope f cdv A outer s₀ H₀ E₀) E := fun pins σ H s e s' I h => by
  obtain ⟨ea, C, T, od, fs, sl, H', rfl, l, q⟩ := h
  exact leave_lies I l (hE _ _ _ q)

/-- a new exception is raised in the def's own body -/
theorem leave_new {pins : List (Addr × Obj)} {σ : St} {H : Hp} {s : Shared} {ea C : Addr} {od : Option Addr} (I : Inv (cxE P w K mg base N qual scope f cdv A outer s₀ H₀ E₀) pins σ H s) (h1 : H ea = some (exo true C ea od)) (h0 : H₀ ea = none)
    (hE : E₀ (.ref C) od (del H ea)) : (cxE P w K mg base N qual scope f cdv A outer s₀ H₀ E₀).xe (.ref ea) s := by
  obtain ⟨fs, sl, a0, z, ha, hf⟩ := exo_get I.hok h1
  have frz : ∀ b, b ∈ frs (cxE P w K mg base N qual scope f cdv A outer s₀ H₀ E₀).stack → H b = none := I.stkFree
  have e0 : s₀.heap.get? ea = none := by
    cases q : s₀.heap.get? ea with
    | none => rfl
    | some o =>
      have := I.base.free ea o q h0 List.not_mem_nil
      rw [h1] at this; cases this
  refine leaves I.ok.frames I.stack rfl z (.none (hf rfl)) fun m T' fs' z1 z2 z3 z4 z5 => ?_
  have hd : HOk P w (del H ea) s.heap := I.hok.del (fun y q => by rw [h1] at q; cases q) fun xs q => by rw [h1] at q; cases q
  have hm : HOk P w (del H ea) m := hd.keeps fun b u o q r => by
    obtain ⟨q1, q2⟩ := del_some q
    exact z2.plain b o r (fun hb => by rw [frz b hb] at q1; cases q1) (by simpa using q2)
  have neE : ∀ b o, s₀.heap.get? b = some o → b ≠ ea := fun b o q r => by rw [r, e0] at q; cases q
  have t0 : s₀.heap.get? T' = none := by
    cases q : s₀.heap.get? T' with
    | none => rfl
    | some o =>
      obtain ⟨o2, y2⟩ := I.base.there T' o q List.not_mem_nil
      exact absurd (Heap.lt_size y2) (Nat.not_lt.mpr z1)
  have neL : ∀ b o, s₀.heap.get? b = some o → b ∈ framesOf (cxE P w K mg base N qual scope f cdv A outer s₀ H₀ E₀).stack → b ∈ frs outer := fun b o q hb => by
    rcases List.mem_cons.mp (I.stkSub b hb) with r | r
    · exact absurd (Heap.lt_size q) (by rw [r]; exact Nat.not_lt.mpr I.ok.above)
    · exact r
  have sub : ∀ b, b ∈ frs outer → b ∈ framesOf (cxE P w K mg base N qual scope f cdv A outer s₀ H₀ E₀).stack := fun b hb => by
    obtain ⟨x, hx, hy⟩ := List.mem_filterMap.mp hb
    exact List.mem_filterMap.mpr ⟨x, List.mem_cons_of_mem _ hx, hy⟩
  refine ⟨ea, C, T', od, fs', sl, del H ea, rfl, ⟨I.os, I.bare, ⟨fun b o q n hb hx => ?_, fun b o q n hb hx => ?_, fun b o q n hx => ?_, fun b o q hx => ?_, fun b xs q => ?_, fun b o u q => ?_, fun b ps q => ?_⟩, hm, e0, t0, del_same, ?_, z3, ⟨a0, by rw [z4]; exact ha⟩, z5⟩, hE⟩
  · exact z2.plain b o (I.base.keep b o q n hb hx) (fun z => hb (neL b o q z)) (by simpa using neE b o q)
  · obtain ⟨s1, y1⟩ := I.base.slot b o q n hb hx
    obtain ⟨s2, y2⟩ := z2.frame b _ y1 (sub b hb) (by simpa using neE b o q)
    exact ⟨s2, y2⟩
  · rw [del_ne (neE b o q)]
    exact I.base.free b o q n hx
  · obtain ⟨o1, y1⟩ := I.base.there b o q hx
    by_cases hb : b ∈ framesOf (cxE P w K mg base N qual scope f cdv A outer s₀ H₀ E₀).stack
    · obtain ⟨s2, y2⟩ := z2.frame b _ y1 hb (by simpa using neE b o q)
      exact ⟨_, y2⟩
    · exact ⟨_, z2.plain b _ y1 hb (by simpa using neE b o q)⟩
  · have r := I.base.tups b xs q
    rw [del_ne fun e => by rw [e, h1] at r; cases r]; exact r
  · have r := I.base.frzs b o u q
    rw [del_ne fun e => by rw [e, h1] at r; cases r]; exact r
  · obtain ⟨more, r⟩ := I.base.tbls b ps q
    exact ⟨more, by rw [del_ne fun e => by rw [e, h1] at r; cases r]; exact r⟩
  · by_cases q : T' = ea
    · rw [q]; exact del_same
    · rw [del_ne q]; exact I.hok.fresh z1
end
end L2
end
section
set_option Elab.async false
set_option linter.all false
set_option maxRecDepth 100000
set_option maxHeartbeats 4000000
namespace L2
open PySem PySem.Spec PyProof.Rows LX

/-! ### a def, with exceptions -/
theorem Fun.okE {P : Program} {w : World} {K : PySem.W.Frag} {mg : Str → Option Value} {base : Heap} {x qual : Str} {st : Stmt} {f : Addr} {fd : FuncData} {N ps : List Str} {k : Nat} {sp : Sp} (F : Fun K x qual st f fd) (S : FnScope N ps (defScope st)) (len : ∀ vs H Q E, sp vs H Q E → vs.length = ps.length)
    (hbody : ∀ (cdv : Value) (A : Around) (outer : List Env) (s : Shared) (H : Hp) (vs : List V) (Q : VK) (E : XK), Room k (A.deeper (envOfC qual (defScope st) s.heap.objs.size f cdv)) → sp vs H Q E →
      ∃ t, PSs (cxE P w K mg base N qual (defScope st) f cdv A outer s H E) (defBody st) t ∧ t { nx := fun _ H' => Q .non H', rt := Q } (start N vs) H) : FnOk P w K mg base (CXE P w) (k + 1) f fd ps sp := by
  obtain ⟨oc, od, kV, doc, pm, an, cdv, ct, osl, rfl, lk, hcd⟩ := F.ex
  exact fn_of lk hcd S len fun A outer s H vs Q E hr hsp => hbody cdv A outer s H vs Q E hr hsp

/-! ### raise -/
def RaisesTo (X : Cx) (E : XK) : Prop := ∀ (pins : List (Addr × Obj)) (σ : St) (H : Hp) (s : Shared) (ea C : Addr) (od : Option Addr), Inv X pins σ H s → H ea = some (exo true C ea od) → X.H₀ ea = none → E (.ref C) od (del H ea) → X.xe (.ref ea) s
theorem raiseE {P : Program} {w : World} {K : PySem.W.Frag} {mg : Str → Option Value} {base : Heap} {N : List Str} {qual : Str} {scope : Scope} {f : Addr} {cdv : Value} {A : Around} {outer : List Env} {s₀ : Shared} {H₀ : Hp} {E₀ : XK} :
    RaisesTo (cxE P w K mg base N qual scope f cdv A outer s₀ H₀ E₀) E₀ := fun _ _ _ _ _ _ _ I h1 h0 q => leave_new I h1 h0 q
def tRaise (H₀ : Hp) (K : PySem.W.Frag) (E : XK) (te : TE) : TS := fun _ σ H => te σ H fun v H1 => ∃ ea C od, v = .ref ea ∧ H1 ea = some (exo true C ea od) ∧ (∃ cd, XCls K C cd) ∧ H₀ ea = none ∧ E (.ref C) od (del H1 ea)
section
variable {X : Cx}
theorem ps_raise {e : Expr} {te : TE} {pos : Pos} {E : XK} (hc : X.calm = true) (hx : RaisesTo X E) (he : PE X e te) : PS X (.Raise (some e) none pos) (tRaise X.H₀ X.K E te) := by
  intro pins s σ H D I h
  refine raise_own (K := X.K) (I.ok.hd hc) (thn (he pins s σ H _ I h) fun u s1 ⟨v, H1, I1, r, ea, C, od, ev, h1, ⟨cd, xc⟩, h0, q⟩ => ?_)
  subst ev
  obtain rfl : u = Value.ref ea := r
  obtain ⟨fs, sl, a0, z, ha, hf⟩ := exo_get I1.hok h1
  exact ⟨ea, C, cd, od, fs, sl, rfl, z, hf rfl, xc, I1.kIn, hx pins σ H1 s1 ea C od I1 h1 h0 q⟩

/-! ### calls whose exceptions this body wants, by the names' values at the call -/
def PassesX (CX : CXT) (X : Cx) (EK : St → XK) : Prop := ∀ (pins : List (Addr × Obj)) (σ : St) (H : Hp) (s : Shared) (e : Value) (s' : Shared), Inv X pins σ H s → CX X.stack H s (EK σ) e s' → X.xe e s'
theorem Passes.x {CX : CXT} {E : XK} (h : Passes CX X E) : PassesX CX X (fun _ => E) := fun pins σ H s e s' I q => h pins σ H s e s' I q

def xCall (sp : Sp) (dvs : List V) (EK : St → XK) (t : TA) : TE := fun σ H Q => t σ H fun vs H1 => sp (vs ++ dvs) H1 Q (EK σ)
def xMeth (C : Addr) (m : Str) (sp : Sp) (dvs : List V) (EK : St → XK) (ta : TE) (t : TA) : TE := fun σ H Q => ta σ H fun x H1 => ∃ a dx fs, x = .ref a ∧ H1 a = some (.ins C dx fs) ∧ fs.lookup m = none ∧
  t σ H1 fun vs H2 => sp (x :: (vs ++ dvs)) H2 Q (EK σ)
/-- C(..), C a class of errors -/
def xErr (C : Addr) (sp : Sp) (EK : St → XK) (t : TA) : TE := fun σ H Q => t σ H fun vs H1 => ∀ ea, H1 ea = none → sp (.ref ea :: vs) (upd H1 ea (exo true C ea none)) (fun v H2 => v = .non ∧ Q (.ref ea) H2) (EK σ)

variable {CX : CXT} {k : Nat} {f C : Addr} {fd : FuncData} {ps : List Str} {sp : Sp} {dvs : List V} {ds : List Value} {EK : St → XK} {x m : Str} {p pos apos : Pos} {e o : Expr} {es : List Expr} {ta : TE} {t : TA}

theorem xrun {pins : List (Addr × Obj)} {σ : St} {H : Hp} {s : Shared} {Q : VK} {us : List Value} {vs : List V} (F : FnOk X.prog X.w X.K X.mg X.base CX k f fd ps sp) (hr : Room k X.A) (hb : Binds X.K fd ps ds) (hd : Vals dvs ds) (hx : PassesX CX X EK)
    (I : Inv X pins σ H s) (r : Vals vs us) (h : sp (vs ++ dvs) H Q (EK σ)) : wpAny (model X.prog X.w) X.A (call (.ref f) us) (EP X pins σ Q) X.xe s := by
  have r2 : Vals (vs ++ dvs) (us ++ ds) := r.append hd
  have hl : (us ++ ds).length = ps.length := by rw [← r2.length]; exact F.len _ _ _ _ h
  refine wpAny_call (codeAny_mono (F.run X.A X.stack s H ⟨us, []⟩ (us ++ ds) (vs ++ dvs) Q (EK σ) hr I.env0 (hb s us I.kIn hl) r2 h) fun r s' hq => ?_)
  cases r with
  | error e => exact hx pins σ H s e s' I hq
  | ok fl =>
    cases fl with
    | ret u => exact I.after hq
    | _ => exact False.elim hq
theorem xe_call (F : FnOk X.prog X.w X.K X.mg X.base CX k f fd ps sp) (hr : Room k X.A) (hg : Gl X x) (hm : X.mg x = some (.ref f)) (hk : PySem.W.keepIn X.K (.ref f) = true) (hb : Binds X.K fd ps ds) (hd : Vals dvs ds) (hx : PassesX CX X EK)
    (ha : PA X (e :: es) t) (hdb : (x == ("__debug__" : Str)) = false := by decide) (he : starEach (e :: es) X.env = (false, eval e X.env) :: starEach es X.env := by rfl) (hpl : (backTo pos (starEach es X.env)).any (·.1) = false := by rfl) :
    PE X (.Call (.Name x p) (e :: es) [] pos) (xCall sp dvs EK t) := by
  intro pins s σ H Q I h
  refine wpAny_Call_Name_kw (ld_glob I hg hm ?_ hdb)
  exact PySem.W.callWith_K (h₀ := X.base) I.ok.mod.kin hk (thn (ha pos pins s σ H _ I h) fun us s1 ⟨vs, H1, I1, r, q⟩ => ⟨I1.kIn, xrun F hr hb hd hx I1 r q⟩) he hpl
theorem xe_meth {pl : Sem Bool} (he : PE X o ta) (c : Cls X.K C) (hm : Meth X.K C m f) (F : FnOk X.prog X.w X.K X.mg X.base CX k f fd ps sp) (hr : Room k X.A) (hb : Binds X.K fd ps ds) (hd : Vals dvs ds) (hx : PassesX CX X EK) (ha : PA X (e :: es) t)
    (hst : starEach (e :: es) X.env = (false, eval e X.env) :: starEach es X.env := by rfl) (hpl : (backTo pos (starEach es X.env)).any (·.1) = false := by rfl)
    (ht : eval (.Call (.Attribute o m apos) (e :: es) [] pos) X.env = (do
      let ov ← eval o X.env
      standAt apos.atName
      let (f, first) ← holding [ov] (getMethod ov m pl)
      callWith pos f first (backTo pos (starEach (e :: es) X.env)) (backToKw pos (keywordEach [] X.env))) := by rfl) :
    PE X (.Call (.Attribute o m apos) (e :: es) [] pos) (xMeth C m sp dvs EK ta t) := by
  intro pins s σ H Q I h
  refine PySem.W.methodCall_KW (pl := pl) (thn (he pins s σ H _ I h) fun u s1 ⟨x, H1, I1, rx, a, dx, fs, ex, ea, l, q⟩ => ?_) ht
  subst ex
  obtain rfl : u = Value.ref a := rx
  refine getmeth_ok I1 ea c hm l ?_
  exact PySem.W.callWith_K (first := [.ref a]) (h₀ := X.base) I.ok.mod.kin hm.kp (thn (ha pos pins s1 σ H1 _ I1 q) fun us s2 ⟨vs, H2, I2, r, q2⟩ => ⟨I2.kIn, xrun (us := .ref a :: us) (vs := .ref a :: vs) F hr hb hd hx I2 (.cons rfl r) q2⟩) hst hpl
theorem xe_meth0 {pl : Sem Bool} (he : PE X o ta) (c : Cls X.K C) (hm : Meth X.K C m f) (F : FnOk X.prog X.w X.K X.mg X.base CX k f fd ps sp) (hr : Room k X.A) (hb : Binds X.K fd ps ds) (hd : Vals dvs ds) (hx : PassesX CX X EK)
    (ht : eval (.Call (.Attribute o m apos) [] [] pos) X.env = (do
      let ov ← eval o X.env
      standAt apos.atName
      let (f, first) ← holding [ov] (getMethod ov m pl)
      callWith pos f first (backTo pos (starEach [] X.env)) (backToKw pos (keywordEach [] X.env))) := by rfl) :
    PE X (.Call (.Attribute o m apos) [] [] pos) (xMeth C m sp dvs EK ta tNil) := by
  intro pins s σ H Q I h
  refine PySem.W.methodCall_KW (pl := pl) (thn (he pins s σ H _ I h) fun u s1 ⟨x, H1, I1, rx, a, dx, fs, ex, ea, l, q⟩ => ?_) ht
  subst ex
  obtain rfl : u = Value.ref a := rx
  refine getmeth_ok I1 ea c hm l ?_
  exact PySem.W.callWith_K0 (first := [.ref a]) I1.kIn hm.kp (xrun (us := [.ref a]) (vs := [.ref a]) F hr hb hd hx I1 (.cons rfl .nil) q)

/-- what a class of errors must have to be made -/
structure MkX (K : PySem.W.Frag) (C f : Addr) : Prop where
  cls : ∃ cd, XCls K C cd
  init : PySem.W.findIn K (.ref C) "__init__" = some (some (.ref f))
  fn : PySem.W.isFn K (.ref f) = true
  kp : PySem.W.keepIn K (.ref C) = true
theorem xrunErr {pins : List (Addr × Obj)} {σ : St} {H : Hp} {s : Shared} {Q : VK} {us : List Value} {vs : List V} (M : MkX X.K C f) (F : FnOk X.prog X.w X.K X.mg X.base CX k f fd ps sp) (hr : Room (k + 1) X.A) (hb : Binds X.K fd ps []) (hx : PassesX CX X EK) (hps : ps.length ≤ 1000)
    (I : Inv X pins σ H s) (r : Vals vs us) (h : ∀ ea, H ea = none → sp (.ref ea :: vs) (upd H ea (exo true C ea none)) (fun v H2 => v = .non ∧ Q (.ref ea) H2) (EK σ)) :
    wpAny (model X.prog X.w) X.A (call (.ref C) us) (EP X pins σ Q) X.xe s := by
  have hq := h (s.heap.objs.size + 1) (I.hok.fresh (Nat.le_succ _))
  obtain ⟨cd, xc⟩ := M.cls
  have r2 : Vals (V.ref (s.heap.objs.size + 1) :: vs) (Value.ref (s.heap.objs.size + 1) :: us) := .cons rfl r
  have hl : (Value.ref (s.heap.objs.size + 1) :: us).length = ps.length := by rw [← r2.length]; exact F.len _ _ _ _ hq
  have hz : us.length ≤ sizeLine := by rw [List.length_cons] at hl; rw [sizeLine_eq]; omega
  have I2 : Inv X pins σ (upd H (s.heap.objs.size + 1) (exo true C (s.heap.objs.size + 1) none)) { s with heap := withNew s.heap C us } := by
    refine I.laid (t' := s.toks) (fun b u q => Heap.get?_push_of_some _ (Heap.get?_push_of_some _ q)) (Nat.le_succ _) (exo_ok ⟨#[.ref s.heap.objs.size, .none, .none, .none, .bool false, .none], #[], s.heap.objs.size, ?_, rfl, fun _ => rfl⟩)
    show (withNew s.heap C us).get? (s.heap.objs.size + 1) = some (newRec C s.heap.objs.size)
    heap_get
  obtain ⟨hh, g, d, tk, os⟩ := s
  refine wpAny_call (exc_made xc I.kIn M.init (beq_iff_eq.mp M.fn) hz (codeAny_mono (F.run _ X.stack _ _ ⟨Value.ref (hh.objs.size + 1) :: us, []⟩ (Value.ref (hh.objs.size + 1) :: us) _ _ (EK σ) (hr.make C us []) (I2.env0.make C us [])
    (by have := hb _ (Value.ref (hh.objs.size + 1) :: us) I2.kIn (by rw [List.append_nil]; exact hl); rw [List.append_nil] at this; exact this) r2 hq) fun r s' hq' => ?_))
  cases r with
  | error e => exact hx pins σ _ _ e s' I2 hq'
  | ok fl =>
    cases fl with
    | ret u =>
      obtain ⟨v, H', I3, rv, ev, q3⟩ := I2.after hq'
      subst ev
      exact ⟨rv, ⟨V.ref (hh.objs.size + 1), H', I3, rfl, q3⟩⟩
    | _ => exact False.elim hq'
theorem xe_err (M : MkX X.K C f) (F : FnOk X.prog X.w X.K X.mg X.base CX k f fd ps sp) (hr : Room (k + 1) X.A) (hg : Gl X x) (hm : X.mg x = some (.ref C)) (hb : Binds X.K fd ps []) (hx : PassesX CX X EK)
    (ha : PA X (e :: es) t) (hps : ps.length ≤ 1000 := by decide) (hdb : (x == ("__debug__" : Str)) = false := by decide) (he : starEach (e :: es) X.env = (false, eval e X.env) :: starEach es X.env := by rfl) (hpl : (backTo pos (starEach es X.env)).any (·.1) = false := by rfl) :
    PE X (.Call (.Name x p) (e :: es) [] pos) (xErr C sp EK t) := by
  intro pins s σ H Q I h
  refine wpAny_Call_Name_kw (ld_glob I hg hm ?_ hdb)
  exact PySem.W.callWith_K (h₀ := X.base) I.ok.mod.kin M.kp (thn (ha pos pins s σ H _ I h) fun us s1 ⟨vs, H1, I1, r, q⟩ => ⟨I1.kIn, xrunErr M F hr hb hx hps I1 r q⟩) he hpl
end
end L2
end
section
set_option Elab.async false
set_option linter.all false
set_option maxRecDepth 100000
set_option maxHeartbeats 4000000
namespace L2
open PySem PySem.Spec PyProof.Rows LX

theorem upd_self {H : Hp} {a : Addr} {o : HO} (h : H a = some o) : upd H a o = H := by
  funext b
  by_cases e : b = a
  · rw [e, upd_same, h]
  · rw [upd_ne e]
section
variable {X : Cx}
/-! ### ValueError.__init__(self, ..) -/
def tVe (K : PySem.W.Frag) (t : TA) : TE := fun σ H Q => t σ H fun vs H1 => ∃ ea C od r, vs = .ref ea :: r ∧ r.length ≤ 1000 ∧ H1 ea = some (exo true C ea od) ∧ (∃ cd, XCls K C cd) ∧ Q .non H1
theorem pe_ve {p apos pos : Pos} {e : Expr} {es : List Expr} {t : TA} {pl : Sem Bool} (hg : Gl X "ValueError") (hm : X.mg "ValueError" = none) (ha : PA X (e :: es) t)
    (hst : starEach (e :: es) X.env = (false, eval e X.env) :: starEach es X.env := by rfl) (hpl : (backTo pos (starEach es X.env)).any (·.1) = false := by rfl)
    (ht : eval (.Call (.Attribute (.Name "ValueError" p) "__init__" apos) (e :: es) [] pos) X.env = (do
      let ov ← eval (.Name "ValueError" p) X.env
      standAt apos.atName
      let (f, first) ← holding [ov] (getMethod ov "__init__" pl)
      callWith pos f first (backTo pos (starEach (e :: es) X.env)) (backToKw pos (keywordEach [] X.env))) := by rfl) :
    PE X (.Call (.Attribute (.Name "ValueError" p) "__init__" apos) (e :: es) [] pos) (tVe X.K t) := by
  intro pins s σ H Q I h
  refine PySem.W.methodCall_KW (pl := pl) (ld_blt I hg hm PyProof.Rows.Boot.«ValueError» ?_) ht
  refine ve_init I.kIn ?_
  refine PyProof.Rows.callWith_builtin1 (thn (ha pos pins _ σ H _ (I.tok _) h) fun us s1 ⟨vs, H1, I1, r, ea, C, od, rr, ev, hl, h1, ⟨cd, xc⟩, q⟩ => ?_) hst hpl
  subst ev
  cases r with
  | @cons _ u _ us' r1 r2 =>
  obtain rfl : u = Value.ref ea := r1
  obtain ⟨fs, sl, a0, z, ha, hf⟩ := exo_get I1.hok h1
  have hz : us'.length ≤ sizeLine := by rw [← r2.length, sizeLine_eq]; omega
  have I2 : Inv X pins σ H1 { s1 with heap := s1.heap.push (tupRec us') } := I1.kept (t' := s1.toks) fun b u q => Heap.get?_push_of_some _ q
  have z2 := Heap.get?_push_of_some (h := s1.heap) (tupRec us') z
  have hs0 : 0 < fs.size := (Array.getElem?_eq_some_iff.mp ha).1
  have I3 : Inv X pins σ (upd H1 ea (exo true C ea od)) { s1 with heap := (s1.heap.push (tupRec us')).update ea (Obj.mapFields (·.setIfInBounds 0 (.ref s1.heap.objs.size))) } := by
    refine I2.write (x := ea) (e := ea) (t' := s1.toks) (by rw [h1]; exact True.intro) (.inl rfl) (fun b u hb q => (Heap.get?_update_other _ _ (Ne.symm hb)).trans q) ⟨_, upd_rec z2⟩ (exo_ok ⟨_, _, s1.heap.objs.size, upd_rec z2, by simp [hs0], fun _ => ?_⟩)
    have := hf rfl
    simpa using this
  rw [upd_self h1] at I3
  obtain ⟨hh, g, d, tk, os⟩ := s1
  exact init_called xc I1.kIn z ha hz ⟨.non, H1, I3, rfl, q⟩

/-! ### f-strings: some text -/
abbrev TF := St → Hp → (Hp → Prop) → Prop
/-- a part of an f-string: a text of at most 2000 signs -/
def PF (X : Cx) (e : Expr) (t : TF) : Prop :=
  ∀ (pins : List (Addr × Obj)) (s : Shared) (σ : St) (H : Hp) (Q : Hp → Prop), Inv X pins σ H s → t σ H Q → wpAny (model X.prog X.w) X.A (eval e X.env) (fun v s1 => ∃ y tk H1, v = .str y tk ∧ y.length ≤ 2000 ∧ Inv X pins σ H1 s1 ∧ Q H1) X.xe s
def PFs (X : Cx) (es : List Expr) (t : TF) : Prop :=
  ∀ (out : Str) (pins : List (Addr × Obj)) (s : Shared) (σ : St) (H : Hp) (Q : V → Hp → Prop), out.length + 2000 * es.length ≤ 100000 → Inv X pins σ H s → t σ H (fun H1 => ∀ y, y.length ≤ 100000 → Q (.str y) H1) →
    wpAny (model X.prog X.w) X.A (joinParts out (evalEach es X.env)) (EP X pins σ Q) X.xe s
def tText : TF := fun _ H Q => Q H
def tNum (te : TE) : TF := fun σ H Q => te σ H fun v H1 => ∃ i, v = .int i ∧ i.natAbs.log2 < 1920 ∧ Q H1
def tParts (t u : TF) : TF := fun σ H Q => t σ H fun H1 => u σ H1 Q
theorem line_big : (100000 : Nat) ≤ sizeLine := by rw [sizeLine_eq]; omega
theorem pf_text {x j pos} (hl : x.length ≤ 2000 := by decide +kernel) : PF X (.Constant (.str x) j pos) tText := fun _ _ _ H _ I h => Calls.Constant_str ⟨_, _, H, rfl, hl, I.tok _, h⟩
theorem pf_num {e : Expr} {te : TE} {pos : Pos} (he : PE X e te) : PF X (.FormattedValue e (-1) none pos) (tNum te) := by
  intro pins s σ H Q I h
  refine FormattedValue_plain (thn (he pins s σ H _ I h) fun u s1 ⟨v, H1, I1, r, i, ev, hi, q⟩ => ?_)
  subst ev
  obtain ⟨t, rfl⟩ := (show ∃ t, u = Value.int i t from r)
  exact formatField_int_small hi ⟨_, _, H1, rfl, Nat.le_trans (int_text_len_1921 hi) (by decide), I1.tok _, q⟩
theorem pfs_nil : PFs X [] tText := fun out pins s σ H Q hl I h =>
  joinParts_nil ⟨.str out, H, I.tok _, ⟨_, rfl⟩, h out (by simpa using hl)⟩ (Nat.le_trans (by simpa using hl) line_big)
theorem pfs_cons {e : Expr} {es : List Expr} {t u : TF} (h1 : PF X e t) (h2 : PFs X es u) : PFs X (e :: es) (tParts t u) := by
  intro out pins s σ H Q hl I h
  rw [List.length_cons] at hl
  refine joinParts_consE (joinParts_cons (thn (h1 pins s σ H _ I h) fun v s1 ⟨y, tk, H1, ev, hy, I1, q⟩ => ?_))
  subst ev
  have hz : (out ++ y).length + 2000 * es.length ≤ 100000 := by rw [strLen_append]; omega
  exact ⟨Nat.le_trans (by omega) line_big, h2 (out ++ y) pins s1 σ H1 Q hz I1 q⟩
def tFstr (t : TF) : TE := fun σ H Q => t σ H fun H1 => ∀ y, y.length ≤ 100000 → Q (.str y) H1
theorem pe_fstr {e e' : Expr} {es : List Expr} {t : TF} {pos : Pos} (h : PFs X (e :: e' :: es) t) (hl : 2000 * (e :: e' :: es).length ≤ 100000 := by decide) : PE X (.JoinedStr (e :: e' :: es) pos) (tFstr t) :=
  fun pins s σ H Q I q => JoinedStr_many (h Str.empty pins s σ H Q (by have z : Str.empty.length = 0 := rfl; rw [z]; omega) I q)

/-! ### isinstance, of exceptions too -/
inductive TyX (K : PySem.W.Frag) (H : Hp) : V → Value → Prop where
  | of {x : V} {t : Value} (h : TyOf K H x t) : TyX K H x t
  | exc {b : Bool} {a C : Addr} {od : Option Addr} {cd : ClassData} (e : H a = some (exo b C a od)) (hd : od = none ∨ ∃ dx fs, od = some dx ∧ H dx = some (.xd fs)) (x : XCls K C cd) (g : XGet K C)
      (hc : PySem.W.findIn K (.ref C) "__class__" = some (some (.builtin "object.__class__"))) : TyX K H (.ref a) (.ref C)
/-- a class as isinstance takes it -/
def clsV : V → Value
  | .ref a => .ref a
  | .ty n => .type n
  | _ => .none
theorem exo_inst {P : Program} {w : World} {H : Hp} {h : Heap} {b : Bool} {C a : Addr} {od : Option Addr} (ok : HOk P w H h) (e : H a = some (exo b C a od)) (hd : od = none ∨ ∃ dx fs, od = some dx ∧ H dx = some (.xd fs)) :
    ∃ ox o, PySem.W.InstAt h a ox C o := by
  obtain ⟨fs, sl, a0, z, _⟩ := exo_get ok e
  rcases hd with rfl | ⟨dx, gs, rfl, q⟩
  · exact ⟨_, _, inst_none z⟩
  · obtain ⟨mA, n, _⟩ := (show ObjOk P w H h dx (.xd gs) from ok dx _ q)
    obtain ⟨o, _, _, ho, _⟩ := n
    exact ⟨_, _, inst_some z ho⟩
def rIsi (K : PySem.W.Frag) : List V → Hp → VK → Prop := fun vs H Q => ∃ x c t b, vs = [x, c] ∧ TyX K H x t ∧ (∃ a, c = .ref a) ∧ PySem.W.kitOne K t (clsV c) = some b ∧ Q (.bl b) H
def rIsiT (K : PySem.W.Frag) : List V → Hp → VK → Prop := fun vs H Q => ∃ x c t b, vs = [x, c] ∧ TyX K H x t ∧ (∃ n, c = .ty n) ∧ PySem.W.kitOne K t (clsV c) = some b ∧ Q (.bl b) H
theorem isi_any {pins : List (Addr × Obj)} {s : Shared} {σ : St} {H : Hp} {x : V} {u c t : Value} {b : Bool} {Q : VK} (I : Inv X pins σ H s) (rx : RelV x u) (ty : TyX X.K H x t) (e : PySem.W.kitOne X.K t c = some b) (q : Q (.bl b) H) :
    wpAny (model X.prog X.w) X.A (call (.builtin "isinstance") [u, c]) (EP X pins σ Q) X.xe s := by
  have fin : ∀ tk, EP X pins σ Q (.bool b) { s with toks := tk } := fun tk => ⟨.bl b, H, I.tok tk, rfl, q⟩
  cases ty with
  | of h => exact isinst_ok I rx h e fin
  | exc ea hd xc g hc =>
    cases (show u = Value.ref _ from rx)
    obtain ⟨ox, o, J⟩ := exo_inst I.hok ea hd
    exact PySem.W.kia_one (kit_exc xc g hc) I.kIn ⟨ox, o, J⟩ e (fun z => nomatch z) fin
theorem call_isi : CallR X (.builtin "isinstance") (rIsi X.K) := by
  rintro pins s σ H xs us Q I r ⟨x, c, t, b, rfl, ty, ⟨a, rfl⟩, e, q⟩
  obtain ⟨u, v, rfl, ru, rv⟩ := vals2 r
  cases (show v = Value.ref a from rv)
  exact isi_any I ru ty e q
theorem call_isiT : CallR X (.builtin "isinstance") (rIsiT X.K) := by
  rintro pins s σ H xs us Q I r ⟨x, c, t, b, rfl, ty, ⟨n, rfl⟩, e, q⟩
  obtain ⟨u, v, rfl, ru, rv⟩ := vals2 r
  cases (show v = Value.type n from rv)
  exact isi_any I ru ty e q

/-! ### e.m() of an exception -/
end
end L2
end
section
set_option Elab.async false
set_option linter.all false
set_option maxRecDepth 100000
set_option maxHeartbeats 4000000
namespace L2
open PySem PySem.Spec PyProof.Rows LX

/-! ### try: .. except C as n: .. -/
/-- within the body of a try: another wish, the pins kept -/
abbrev Cx.tried (X : Cx) (pins : List (Addr × Obj)) (E : Value → Shared → Prop) : Cx := { X with xe := E, pn := X.pn ++ pins }
/-- within an except suite -/
abbrev Cx.caught (X : Cx) (ea : Addr) : Cx := { X with A := X.A.mark (some (.ref ea)), calm := false, xe := fun _ _ => False }
section
variable {X : Cx} {pins : List (Addr × Obj)} {σ : St} {H : Hp} {s : Shared} {E : Value → Shared → Prop} {ea : Addr}
theorem Inv.tried (I : Inv X pins σ H s) (E : Value → Shared → Prop) : Inv (X.tried pins E) [] σ H s :=
  ⟨⟨I.ok.mod, I.ok.kind, I.ok.glob, I.ok.blt, I.ok.above, I.ok.inj, I.ok.has, I.ok.cab, I.ok.hd, I.ok.frames, I.ok.stk, I.ok.exf, I.ok.bs, I.ok.bsz, I.ok.noex, I.ok.exfs, I.ok.funs, I.ok.frf⟩,
    I.os, I.bare, I.base, I.loc, I.cell, I.free, I.freeC, fun p hp => I.pin p (by simpa using hp), I.hok, I.len⟩
theorem Inv.untried {pins' : List (Addr × Obj)} (I : Inv (X.tried pins E) pins' σ H s) : Inv X pins σ H s :=
  ⟨⟨I.ok.mod, I.ok.kind, I.ok.glob, I.ok.blt, I.ok.above, I.ok.inj, I.ok.has, I.ok.cab, I.ok.hd, I.ok.frames, I.ok.stk, I.ok.exf, I.ok.bs, I.ok.bsz, I.ok.noex, I.ok.exfs, I.ok.funs, I.ok.frf⟩,
    I.os, I.bare, I.base, I.loc, I.cell, I.free, I.freeC, fun p hp => I.pin p (List.mem_append_left _ hp), I.hok, I.len⟩
theorem Inv.caught (I : Inv X pins σ H s) (ea : Addr) : Inv (X.caught ea) pins σ H s :=
  ⟨⟨I.ok.mod, I.ok.kind, I.ok.glob, I.ok.blt, I.ok.above, I.ok.inj, I.ok.has, I.ok.cab, (fun z => nomatch z), I.ok.frames, I.ok.stk, I.ok.exf, I.ok.bs, I.ok.bsz, I.ok.noex, I.ok.exfs, I.ok.funs, I.ok.frf⟩,
    I.os, I.bare, I.base, I.loc, I.cell, I.free, I.freeC, I.pin, I.hok, I.len⟩
theorem Inv.uncaught {Y : Cx} (I : Inv (Y.caught ea) pins σ H s) (ok : Y.Ok) : Inv Y pins σ H s := ⟨ok, I.os, I.bare, I.base, I.loc, I.cell, I.free, I.freeC, I.pin, I.hok, I.len⟩
/-- an untracked exception of ours is tracked from now on -/
theorem Inv.track {o : HO} {c : Value} {od : Option Addr} {fs : Array Value} {sl : Array (Option Value)} (I : Inv X pins σ H s) (hn : H ea = none) (h0 : X.s₀.heap.get? ea = none) (hr : s.heap.get? ea = some (excRec c od fs sl))
    (hp : ∀ p ∈ X.pn ++ pins, p.1 ≠ ea) (new : ObjOk X.prog X.w (upd H ea o) s.heap ea o) : Inv X pins σ (upd H ea o) s := by
  have ne : ∀ b u, H b = some u → b ≠ ea := fun b u q e => by rw [e, hn] at q; cases q
  refine ⟨I.ok, I.os, I.bare, ⟨I.base.keep, I.base.slot, fun b u q n hx => ?_, I.base.there, fun b xs q => ?_, fun b u v q => ?_, fun b ps q => ?_⟩, I.loc, I.cell, ?_, fun x c' q => ?_, fun p hq => ?_, I.hok.add hn new, I.len⟩
  · rw [upd_ne fun e => by rw [e, h0] at q; cases q]
    exact I.base.free b u q n hx
  · have r := I.base.tups b xs q
    rw [upd_ne (ne b _ r)]; exact r
  · have r := I.base.frzs b u v q
    rw [upd_ne (ne b _ r)]; exact r
  · obtain ⟨more, r⟩ := I.base.tbls b ps q
    exact ⟨more, by rw [upd_ne (ne b _ r)]; exact r⟩
  · rw [upd_ne fun e => ?_]
    · exact I.free
    · obtain ⟨m, ⟨oL, es, ep, ho, hd, _⟩, _⟩ := I.loc
      rw [e, hr] at ho
      cases ho
      cases hd
  · rw [upd_ne fun e => ?_]
    · exact I.freeC x c' q
    · obtain ⟨v, oc, ho, hd⟩ := I.cell x c' q
      rw [e, hr] at ho
      cases ho
      cases hd
  · obtain ⟨e, n, z⟩ := I.pin p hq
    exact ⟨e, by rw [upd_ne (hp p hq)]; exact n, z⟩
end
/-- the suite's ends: the name goes -/
def endsOff (i : Nat) (D : Ends) : Ends := { nx := fun σ H => D.nx (σ.set i none) H, rt := D.rt, bk := fun σ H => D.bk (σ.set i none) H, ct := fun σ H => D.ct (σ.set i none) H }
def tLand (K : PySem.W.Frag) (Dc : Addr) (i : Nat) (ts : TS) (D : Ends) : St → XK := fun σ c od H => ∃ C cd, c = .ref C ∧ XCls K C cd ∧ cd.mro.contains (.ref Dc) = true ∧ ∀ ea, H ea = none → ts (endsOff i D) (σ.set i (some (.ref ea))) (upd H ea (exo false C ea od))
def tTry (K : PySem.W.Frag) (Dc : Addr) (i : Nat) (tb : (St → XK) → TS) (ts : TS) : TS := fun D σ H => tb (tLand K Dc i ts D) D σ H

section
variable {X : Cx}
/-- the name of the exception goes -/
theorem name_off {pins : List (Addr × Obj)} {σ : St} {H : Hp} {s : Shared} {E : Value → Shared → Prop} {n : Str} {i : Nat} {pos : Pos} {Q : Unit → Shared → Prop} (I : Inv X pins σ H s) (hN : X.N.Nodup) (hi : X.N[i]? = some n) (hx : X.env.scope.names.lookup n = some .local)
    (k : ∀ s', Inv X pins (σ.set i none) H s' → Q () s') : wpAny (model X.prog X.w) X.A (do bindName X.env n .none; unbindBehindTheSuite X.env n pos) Q E s := by
  obtain ⟨m, hn, hl⟩ := id I.loc
  have hcls : (X.env.scope.kind == .class || (X.env.scope.kind == .module && X.env.locals != X.env.globals)) = false := by rw [I.ok.kind]; rfl
  refine wpAny_nameGoes_keeps hx hn hcls fun h' v hn' hs => k _ ?_
  obtain ⟨oL, _, _, hoL, _⟩ := id hn
  have tr : HOk X.prog X.w H h' := I.hok.keeps fun b u o q r => (hs.2 b fun e => by rw [e, I.free] at q; cases q).trans r
  refine ⟨I.ok, I.os, I.bare, ⟨fun b o e n hb hx => ?_, fun b o e n hb hx => ?_, I.base.free, fun b o e hx => ?_, I.base.tups, I.base.frzs, I.base.tbls⟩, ⟨_, hn', fun j y v' e1 e2 e3 => ?_⟩, fun y c e => ?_, I.free, I.freeC, fun p hp => ?_, tr, by simpa using I.len⟩
  · exact (hs.2 b (Nat.ne_of_lt (Nat.lt_of_lt_of_le (Heap.lt_size e) I.ok.above))).trans (I.base.keep b o e n hb hx)
  · obtain ⟨sl, e1⟩ := I.base.slot b o e n hb hx
    exact ⟨sl, (hs.2 b (Nat.ne_of_lt (Nat.lt_of_lt_of_le (Heap.lt_size e) I.ok.above))).trans e1⟩
  · obtain ⟨o', e1⟩ := I.base.there b o e hx
    exact ⟨o', (hs.2 b (Nat.ne_of_lt (Nat.lt_of_lt_of_le (Heap.lt_size e) I.ok.above))).trans e1⟩
  · by_cases hj : j = i
    · subst hj
      rw [List.getElem?_set] at e2
      simp only [if_true] at e2
      split at e2 <;> cases e2
    · rw [List.getElem?_set_ne (Ne.symm hj)] at e2
      obtain ⟨u', r', q⟩ := hl j y v' e1 e2 e3
      refine ⟨u', r', ?_⟩
      rcases q with ⟨kk, e⟩ | ⟨kk, c, e, z⟩
      · refine .inl ⟨kk, ?_⟩
        have : y ≠ n := fun e => hj (nodup_ix hN e1 (e ▸ hi))
        simp [this, e]
      · exact .inr ⟨kk, c, e, z.sameBut hs (I.cne y c e)⟩
  · obtain ⟨w', z⟩ := I.cell y c e
    exact ⟨w', z.sameBut hs (I.cne y c e)⟩
  · obtain ⟨e, n, ne, nf, d⟩ := I.pin p hp
    exact ⟨(hs.2 p.1 ne).trans e, n, ne, nf, d⟩

theorem ps_try {body suite : List Stmt} {b₀ : Stmt} {x n : Str} {np hpos pos : Pos} {i : Nat} {Dc : Addr} {cdD : ClassData} {tb : (St → XK) → TS} {ts : TS} (hex : X.ex = []) (hst : X.stack = X.env :: X.outer) (hfr : X.env.frame = some X.env.locals) (hg : Gl X x) (hm : X.mg x = some (.ref Dc))
    (hD : XCls X.K Dc cdD) (hN : X.N.Nodup) (hi : X.N[i]? = some n) (hx : X.env.scope.names.lookup n = some .local)
    (hb : ∀ (pins : List (Addr × Obj)) (E : Value → Shared → Prop) (EK : St → XK), PassesX (CXE X.prog X.w) (X.tried pins E) EK → PSs (X.tried pins E) body (tb EK))
    (hs : ∀ ea, PSs (X.caught ea) (b₀ :: suite) ts) (hdb : (x == ("__debug__" : Str)) = false := by decide) :
    PS X (.Try body [.ExceptHandler (some (.Name x np)) (some n) (b₀ :: suite) hpos] [] [] pos) (tTry X.K Dc i tb ts) := by
  intro pins s σ H D I h
  refine wpAny_Try_except ?_
  refine wpAny_mono (hb pins (fun e s₁ => ∃ σ' H1 sc, Inv X pins σ' H1 sc ∧ CXE X.prog X.w X.stack H1 sc (tLand X.K Dc i ts D σ') e s₁) (tLand X.K Dc i ts D)
    (fun pins' σ' H1 sc e s' J q => ⟨σ', H1, sc, J.untried, q⟩) [] s σ H D (I.tried _) h) (fun fl s1 q => ?_) fun e s1 q => ?_
  · cases fl with
    | next =>
      obtain ⟨σ', H', J, q⟩ := q
      exact wpAny_execs_nil ⟨σ', H', J.untried, q⟩
    | brk => obtain ⟨σ', H', J, q⟩ := q; exact ⟨σ', H', J.untried, q⟩
    | cont => obtain ⟨σ', H', J, q⟩ := q; exact ⟨σ', H', J.untried, q⟩
    | ret u => obtain ⟨v, σ', H', J, r, q⟩ := q; exact ⟨v, σ', H', J.untried, r, q⟩
  · obtain ⟨σ', H1, sc, J, ea, Cv, T, od, fs, sl, H', rfl, l, C, cd, ec, xc, hmr, q⟩ := q
    cases ec
    have hA : X.A.frames = some (X.env :: X.outer) := by rw [J.ok.frames, hst]
    have hF : s1.heap.FunFrames X.base (X.env :: X.outer) := by rw [← hst]; exact l.frames J
    have e0 : X.s₀.heap.get? ea = none := by
      cases z : X.s₀.heap.get? ea with
      | none => rfl
      | some o =>
        obtain ⟨o', z'⟩ := J.base.there ea o z (by rw [hex]; exact List.not_mem_nil)
        rw [l.newE] at z'; cases z'
    -- the state behind each step
    have st : ∀ (m : Heap) (tk : Nat), Kept (framesOf X.stack) [ea, T] s1.heap m → Inv X pins σ' H' { s1 with heap := m, toks := tk } := fun m tk k => by
      obtain ⟨un, hok⟩ := l.on (t' := s1.toks) J k
      exact J.call' l.os un hok l.bare fun b z => absurd z (by simp)
    have pn : ∀ p ∈ X.pn ++ pins, p.1 ≠ ea := fun p hp e => by
      obtain ⟨z, _⟩ := J.pin p hp
      rw [e, l.newE] at z; cases z
    refine note_on hA hF hfr l.at_ l.trail fun m T' oc tsx z1 z2 z3 z4 z5 => ?_
    have Te : T' ≠ ea := Nat.ne_of_gt (Nat.lt_of_lt_of_le (Heap.lt_size l.at_) z1)
    have f1 : (fs.setIfInBounds 1 (Value.ref T'))[1]? = some (.ref T') := by
      have := l.trail.size
      simp [this]
    have k1 : Kept (framesOf X.stack) [ea, T] s1.heap m := by rw [hst]; exact z2
    refine flight_off (s := { s1 with heap := m }) z3 f1 Te z4 (Array.getElem?_eq_some_iff.mp z5).1 fun m' q1 q2 q3 => ?_
    have nT : ∀ b o, s1.heap.get? b = some o → b ≠ T' := fun b o q => Nat.ne_of_lt (Nat.lt_of_lt_of_le (Heap.lt_size q) z1)
    have k2 : Kept (framesOf X.stack) [ea, T] s1.heap m' := ⟨fun b o q hb hx => q1 b o (nT b o q) (k1.plain b o q hb hx), fun b o q hb hx => by
      obtain ⟨sm, r⟩ := k1.frame b o q hb hx
      exact ⟨sm, q1 b _ (nT b o q) r⟩⟩
    have J2 := st m' s1.toks k2
    refine wpAny_handleBy_cons (codeAny_handlers_test ?_) (by intro z; cases z)
    refine ld_glob (X := X.caught ea) (J2.caught ea) hg hm ?_ hdb
    refine matches_own xc hD J2.kIn q3 ?_
    rw [hmr]
    refine codeAny_handlers_suite_as ?_
    cases q2 with
    | @some _ oc2 ts2 d2 sm2 y1 y2 y3 y4 =>
    refine flight_off (s := { s1 with heap := m' }) q3 y1 y2 y3 (Array.getElem?_eq_some_iff.mp y4).1 fun m3 r1 r2 r3 => ?_
    have k3 : Kept (framesOf X.stack) [ea, T] s1.heap m3 := ⟨fun b o q hb hx => r1 b o (nT b o q) (k2.plain b o q hb hx), fun b o q hb hx => by
      obtain ⟨sm, r⟩ := k2.frame b o q hb hx
      exact ⟨sm, r1 b _ (nT b o q) r⟩⟩
    have J3 := st m3 s1.toks k3
    obtain ⟨a0, ha⟩ := l.args
    have J4 : Inv X pins σ' (upd H' ea (exo false Cv ea od)) { s1 with heap := m3 } := J3.track l.freeE e0 r3 pn (exo_ok ⟨_, _, a0, r3, by simpa using ha, fun z => nomatch z⟩)
    refine store_ok (X := X.caught ea) (J4.caught ea) hN hi (.inl hx) (v := .ref ea) rfl (fun s5 J5 => ?_) (.inr hx)
    refine wpAny_mono (hs ea pins s5 _ _ (endsOff i D) J5 (q ea l.freeE)) (fun fl s6 w => ?_) fun _ _ z => False.elim z
    have off : ∀ {σ6 : St} {H6 : Hp} {Q6 : Unit → Shared → Prop}, Inv (X.caught ea) pins σ6 H6 s6 → (∀ s7, Inv X pins (σ6.set i none) H6 s7 → Q6 () s7) → wpAny (model X.prog X.w) X.A (do bindName X.env n .none; unbindBehindTheSuite X.env n hpos) Q6 X.xe s6 :=
      fun J6 k => name_off (J6.uncaught J.ok) hN hi hx k
    cases fl with
    | next => obtain ⟨σ6, H6, J6, w⟩ := w; exact off J6 fun s7 J7 => ⟨_, _, J7, w⟩
    | brk => obtain ⟨σ6, H6, J6, w⟩ := w; exact off J6 fun s7 J7 => ⟨_, _, J7, w⟩
    | cont => obtain ⟨σ6, H6, J6, w⟩ := w; exact off J6 fun s7 J7 => ⟨_, _, J7, w⟩
    | ret u => obtain ⟨v, σ6, H6, J6, r, w⟩ := w; exact off J6 fun s7 J7 => ⟨v, _, _, J7, r, w⟩
end
end L2
end
section
set_option Elab.async false
set_option linter.all false
set_option maxRecDepth 100000
set_option maxHeartbeats 4000000
namespace L2
open PySem PySem.Spec PyProof.Rows LX

/-! ### lists: + of any two, count of flat items -/
section
variable {X : Cx}
end
/-! ### what is tracked stays -/
theorem Same.upd {H : Hp} {a : Addr} {o : HO} (h : H a = none) : Same H (L2.upd H a o) := fun b u q => by rw [upd_ne fun e => by rw [e, h] at q; cases q]; exact q

/-! ### the classes of errors that the text has, and HeapError.__init__ -/
/-- a class of errors: its name's address, what the walk asks of it -/
structure ErrC (K : PySem.W.Frag) (C : Addr) : Prop where
  cls : ∃ cd, XCls K C cd
  get : XGet K C
  own : PySem.W.findIn K (.ref C) "__class__" = some (some (.builtin "object.__class__"))
theorem ErrC.ty {K : PySem.W.Frag} {C a : Addr} {H : Hp} {b : Bool} (c : ErrC K C) (e : H a = some (exo b C a none)) : TyX K H (.ref a) (.ref C) := by
  obtain ⟨cd, x⟩ := c.cls
  exact .exc e (.inl rfl) x c.get c.own
/-- __init__(self, text) of HeapError -/
def spXI (K : PySem.W.Frag) : Sp := fun vs H Q _ => ∃ ea C od x, vs = [.ref ea, x] ∧ H ea = some (exo true C ea od) ∧ (∃ cd, XCls K C cd) ∧ Q .non H
/-- isinstance(e, D), e the first name -/
theorem isi_read {K : PySem.W.Frag} {i : Nat} {σ : St} {H : Hp} {Q : VK} {x : V} {D : Addr} {t : Value} {b : Bool} (h0 : σ[i]? = some (some x)) (ty : TyX K H x t) (hk : PySem.W.kitOne K t (.ref D) = some b) (q : Q (.bl b) H) :
    tCB (rIsi K) (tCons (tVar i) (tCons (tC (.ref D)) tNil)) σ H Q := ⟨x, h0, x, .ref D, t, b, rfl, ty, ⟨_, rfl⟩, hk, q⟩
theorem isi_readT {K : PySem.W.Frag} {i : Nat} {σ : St} {H : Hp} {Q : VK} {x : V} {D : String} {t : Value} {b : Bool} (h0 : σ[i]? = some (some x)) (ty : TyX K H x t) (hk : PySem.W.kitOne K t (.type D) = some b) (q : Q (.bl b) H) :
    tCB (rIsiT K) (tCons (tVar i) (tCons (tC (.ty D)) tNil)) σ H Q := ⟨x, h0, x, .ty D, t, b, rfl, ty, ⟨_, rfl⟩, hk, q⟩
/-- a built-in's name as a value -/
theorem pe_ty {X : Cx} {x : Str} {T : String} {pos : Pos} (hg : Gl X x) (hm : X.mg x = none) (hv : bootBuiltins x = some (.type T)) (hn : x ≠ "__name__" := by decide) (hd : (x == ("__debug__" : Str)) = false := by decide) : PE X (.Name x pos) (tC (.ty T)) :=
  fun _ _ _ H _ I h => ld_blt I hg hm hv ⟨.ty T, H, I, rfl, h⟩ hn hd
/-- no exception leaves: calls in a body under nox -/
theorem passN {P : Program} {w : World} {X : Cx} : PassesX (CXE P w) X.nox (fun _ _ _ _ => False) := fun _ _ _ _ _ _ _ ⟨_, _, _, _, _, _, _, _, _, q⟩ => q.elim
theorem log_small {n : Int} (h : n.natAbs < 2 ^ 1920) : n.natAbs.log2 < 1920 := by
  by_cases z : n.natAbs = 0
  · rw [z]; decide
  · exact (Nat.log2_lt z).mpr h
theorem noneE {P : Program} {w : World} {outer : List Env} {H : Hp} {s : Shared} {e : Value} {s' : Shared} (h : CXE P w outer H s (fun _ _ _ => False) e s') : False := by
  obtain ⟨_, _, _, _, _, _, _, _, _, q⟩ := h
  exact q
end L2
end
section
set_option Elab.async false
set_option linter.all false
set_option maxRecDepth 100000
set_option maxHeartbeats 4000000
namespace L2
open PySem PySem.Spec PyProof.Rows LX
/-! ### == of two lists of flat items, as long as one another -/
def eqAll (xs ys : List V) : Bool := (List.range xs.length).all fun j => eqV (xs.getD j .non) (ys.getD j .non)
def rEqL (K : PySem.W.Frag) : R2 := fun x y H Q => ∃ a b xs ys, x = .ref a ∧ y = .ref b ∧ SqL K H a xs ∧ SqL K H b ys ∧ xs.length = ys.length ∧ xs.all flatV = true ∧ ys.all flatV = true ∧ Q (.bl (eqAll xs ys)) H
theorem op_eqL {X : Cx} (hu : X.A.units < cLine) : OpR X (compareOp .Eq) (rEqL X.K) := by
  intro pins s σ H x y v u Q I rx ry h
  obtain ⟨a, b, xs, ys, rfl, rfl, ha, hb, hl, fx, fy, q⟩ := h
  cases rx
  cases ry
  obtain ⟨vs, r1, ⟨o1, n1, e1, c1, _, g1⟩, _⟩ := I.list ha
  obtain ⟨ws, r2, ⟨o2, n2, e2, c2, _, g2⟩, _⟩ := I.list hb
  have l1 := r1.length
  have l2 := r2.length
  refine SeqAt.eq_listAt (e := fun j => eqV (xs.getD j .non) (ys.getD j .non)) ⟨o1, e1, c1, n1, g1⟩ ⟨o2, e2, c2, n2, g2⟩ (by simp only [List.size_toArray]; omega) hu (fun j h1 h2 => ?_) ⟨.bl _, H, I, rfl, ?_⟩
  · simp only [List.size_toArray] at h1 h2
    obtain ⟨w1, z1, rz1⟩ := r1.get (i := j) (x := xs[j]'(by omega)) (List.getElem?_eq_getElem (by omega))
    obtain ⟨w2, z2, rz2⟩ := r2.get (i := j) (x := ys[j]'(by omega)) (List.getElem?_eq_getElem (by omega))
    have a1 : vs.toArray[j] = w1 := by
      have := (List.getElem?_eq_some_iff.mp z1).2
      simpa using this
    have a2 : ws.toArray[j] = w2 := by
      have := (List.getElem?_eq_some_iff.mp z2).2
      simpa using this
    rw [a1, a2]
    have d1 : xs.getD j .non = xs[j]'(by omega) := by simp [List.getD, List.getElem?_eq_getElem (show j < xs.length by omega)]
    have d2 : ys.getD j .non = ys[j]'(by omega) := by simp [List.getD, List.getElem?_eq_getElem (show j < ys.length by omega)]
    show SeqAt.EqAt _ _ _ _ (eqV (xs.getD j .non) (ys.getD j .non))
    rw [d1, d2]
    exact eqAt_V rz1 rz2 (List.all_eq_true.mp fx _ (List.getElem_mem _)) (List.all_eq_true.mp fy _ (List.getElem_mem _))
  · have : vs.toArray.size = xs.length := by simp only [List.size_toArray]; omega
    rw [this]
    exact q
end L2
end
section
set_option Elab.async false
set_option linter.all false
set_option maxRecDepth 100000
set_option maxHeartbeats 4000000
namespace L2
open PySem PySem.Spec PyProof.Rows LX
/-! ### attributes of an exception -/
section
variable {X : Cx}
variable {o e value : Expr} {f : Str} {pos pos' : Pos} {ta tv : TE}

/-! ### C.f(..): a def of a class, called by the class's name -/

/-! ### e.m() of an exception, whichever its class -/

/-! ### a short text times a small number: some text -/
end
end L2
end
section
set_option Elab.async false
set_option linter.all false
set_option maxRecDepth 100000
set_option maxHeartbeats 4000000
namespace L2
open PySem PySem.Spec PyProof.Rows LX
/-! ### a list comprehension of one clause, its target a name, no test; nothing leaves it -/
theorem compLoop_any {prog : Program} {w : World} {A : Around} {R : Result → Shared → Prop} {s : Shared} {elt target iter : Expr} {scope : Scope} {pos : Pos} {it acc : Value} {env : Env} (I : Nat → Shared → Prop)
    (turn : ∀ n s, I n s → wpAny (model prog w) A (pyNext it) (fun r s₁ => match r with
      | none => R (.ok .next) s₁
      | some v => wpAny (model prog w) A (letOwnedTupleGo target it v) (fun _ s5 => wpAny (model prog w) A (assign target env v) (fun _ s₂ => wpAny (model prog w) A (eval elt env) (fun x s₃ =>
          wpAny (model prog w) A (call (.builtin "list.append") [acc, x]) (fun _ s₄ => ∃ m, m < n ∧ I m s₄) (notedBy (model prog w) A env fun e s' => R (.error e) s') s₃)
          (notedBy (model prog w) A env fun e s' => R (.error e) s') s₂) (notedBy (model prog w) A env fun e s' => R (.error e) s') s5) (notedBy (model prog w) A env fun e s' => R (.error e) s') s₁) (notedBy (model prog w) A env fun e s' => R (.error e) s') s)
    (n : Nat) (h : I n s) : codeAny (model prog w) A (.compLoop (.ListComp elt [⟨target, iter, [], 0⟩] scope pos) 0 it acc env) R s := by
  refine codeAny_loop rfl I (fun n s hI => ?_) n h
  show wpAny _ _ ((compTurn (.ListComp elt [⟨target, iter, [], 0⟩] scope pos) 0 it acc env).onRaise (fun x => do noteFrame x env; theTreesLotGoes x)) _ _ s
  refine wpAny_noted ?_
  rw [compTurn_list1]
  refine wpAny_bind (wpAny_standAt (wpAny_bind (wpAny_mono (turn n s hI) (fun r s₁ h₁ => ?_) fun _ _ h' => h')))
  cases r with
  | none => exact wpAny_pure h₁
  | some v =>
    refine wpAny_bind (wpAny_mono h₁ (fun _ s5 h5 => ?_) fun _ _ h' => h')
    exact wpAny_bind (wpAny_mono h5 (fun _ s₂ h₂ => wpAny_bind (wpAny_bind (wpAny_mono h₂ (fun x s₃ h₃ => wpAny_bind (wpAny_mono h₃
      (fun _ s₄ h₄ => wpAny_pure (wpAny_pure ⟨rfl, h₄⟩)) fun _ _ h' => h')) fun _ _ h' => h'))) fun _ _ h' => h')

/-- the block's context -/
abbrev cxC (X : Cx) (scope : Scope) (cl : List (Str × Addr)) (NC : List Str) (C : Addr) (fp : List Addr) (s₀ : Shared) (H₀ : Hp) : Cx :=
  { X with N := NC, s₀ := s₀, H₀ := H₀, env := compEnvC scope cl C X.env, outer := X.stack, ex := fp, fn := fun _ => false, pn := [], xe := fun _ _ => False }
def caps (σ : St) (idx : List Nat) : St := idx.map fun i => (σ[i]?).getD none
/-- what the block's scope has: its own name, and those of the def that it reads -/
structure CompOk (X : Cx) (scope : Scope) (cl : List (Str × Addr)) (x : Str) (idx : List Nat) (NC : List Str) : Prop where
  clos : closureFor scope X.env = pure cl
  sub : ∀ y c, cl.lookup y = some c → X.env.cells.lookup y = some c
  has : ∀ y, ((relabel scope X.env).names.lookup y = some .cell ∨ (relabel scope X.env).names.lookup y = some .free) → ∃ c, cl.lookup y = some c
  nocell : ∀ y ∈ scope.names, y.2 ≠ .cell
  kind : scope.kind = .function
  loc : ∀ y ∈ scope.names, y.2 = .local → scope.names.lookup y.1 = some .local
  xl : scope.names.lookup x = some .local
  nc : NC = x :: idx.map fun i => X.N.getD i x
  nd : NC.Nodup
  cap : ∀ i ∈ idx, i < X.N.length ∧ ((X.env.scope.names.lookup (X.N.getD i x) = some .cell ∨ X.env.scope.names.lookup (X.N.getD i x) = some .free) ∧ ((relabel scope X.env).names.lookup (X.N.getD i x) = some .cell ∨ (relabel scope X.env).names.lookup (X.N.getD i x) = some .free))
section
variable {X : Cx} {scope : Scope} {cl : List (Str × Addr)} {x : Str} {idx : List Nat} {NC : List Str} {C : Addr} {fp : List Addr} {pins : List (Addr × Obj)} {σ : St} {H : Hp} {s : Shared}
theorem inv_comp {h1 : Heap} {t' : Nat} (c : CompOk X scope cl x idx NC) (I : Inv X pins σ H s) (hf : ∀ b ∈ fp, FpOk X pins H b) (hlt : ∀ b ∈ fp, b < s.heap.objs.size) (ns : h1.Ns s.heap.objs.size (fun _ => none))
    (k : ∀ b o, s.heap.get? b = some o → h1.get? b = some o) : Inv (cxC X scope cl NC s.heap.objs.size fp s H) [] (none :: caps σ idx) H { s with heap := h1, toks := t' } := by
  have sub : ∀ b, b ∈ frs X.stack → b ∈ X.env.locals :: X.fs := I.stkSub
  refine ⟨⟨I.ok.mod, c.kind, I.ok.glob, I.ok.blt, Nat.le_refl _, fun y z a h1 h2 => I.ok.inj y z a (c.sub _ _ h1) (c.sub _ _ h2), c.has, fun y a z => (by cases z), I.ok.hd, I.ok.frames, .inl rfl, fun b hb => ⟨Nat.ne_of_lt (hlt b hb), fun y a q => (hf b hb).2.2.2.2.1 y a (c.sub _ _ q)⟩,
    fun b o q => I.bs b o q, Nat.le_trans I.ok.bsz I.sz, fun b o q hb => ?_, fun b hb z => ?_, I.stack, I.stkFree⟩, rfl, I.bare, Un.kept k, ⟨_, ns, fun i y v e1 e2 e3 => ?_⟩, fun y a q => ?_, I.hok.fresh (Nat.le_refl _), fun y a q => I.freeC _ _ (c.sub _ _ q), fun p hp => (by cases hp), I.hok.keeps fun b u o _ q => k b o q, ?_⟩
  · rcases (hf b hb).2.2.2.1 with z | z
    · exact I.ok.noex b o q z
    · exact absurd (Nat.lt_of_lt_of_le (Heap.lt_size (I.ok.bs b o q).1) z) (Nat.lt_irrefl _)
  · rcases List.mem_cons.mp (sub b z) with r | r
    · exact (hf b hb).2.1 r
    · exact (hf b hb).2.2.1 r
  · cases i with
    | zero => cases e2
    | succ j =>
      have e1' : (idx.map fun i => X.N.getD i x)[j]? = some y := by
        have : (cxC X scope cl NC s.heap.objs.size fp s H).N = NC := rfl
        rw [this, c.nc] at e1
        exact e1
      have e2' : (caps σ idx)[j]? = some (some v) := e2
      rw [List.getElem?_map] at e1'
      unfold caps at e2'
      rw [List.getElem?_map] at e2'
      cases ei : idx[j]? with
      | none => rw [ei] at e1'; cases e1'
      | some i =>
        rw [ei] at e1' e2'
        simp only [Option.map_some, Option.some.injEq] at e1' e2'
        obtain ⟨hi, h2, h3⟩ := c.cap i (List.mem_of_getElem? ei)
        rw [e1'] at h2 h3
        have hN : X.N[i]? = some y := by
          rw [← e1']
          simp [List.getD, List.getElem?_eq_getElem hi]
        have hσ : σ[i]? = some (some v) := by
          cases q : σ[i]? with
          | none => rw [q] at e2'; cases e2'
          | some o => rw [q] at e2'; simp only [Option.getD_some] at e2'; rw [e2']
        obtain ⟨m, hn, hl⟩ := I.loc
        obtain ⟨u, r, l⟩ := hl i y v hN hσ (h2.elim (fun z => .inr (.inl z)) fun z => .inr (.inr z))
        refine ⟨u, r, .inr ⟨h3, ?_⟩⟩
        rcases l with ⟨l, _⟩ | ⟨_, a, ha, hc⟩
        · exfalso
          have l' : X.env.scope.names.lookup y = some .local := l
          rcases h2 with z | z <;> (rw [l'] at z; cases z)
        · obtain ⟨a', ha'⟩ := c.has y h3
          have := c.sub _ _ ha'
          rw [ha] at this
          cases this
          exact ⟨a, ha', hc.keeps k⟩
  · obtain ⟨v, z⟩ := I.cell _ _ (c.sub _ _ q)
    exact ⟨v, z.keeps k⟩
  · show _ = NC.length
    rw [c.nc]
    simp [caps]
/-- the list at D grows by an item a turn -/
def CompTo (J : It) (D : Addr) (τ : St) (te : TE) (Q : VK) (H : Hp) : Prop := ∃ W : Nat → Nat → List V → Hp → Prop, (∃ m, W 0 m [] H) ∧ ∀ i m ys H2, W i m ys H2 → H2 D = some (.lst ys) ∧
  ((J.stop i H2 ∧ Q (.ref D) H2) ∨ (J.go i H2 ∧ ys.length < sizeLine ∧ ∃ N : List V → Hp → Prop, (∀ zs H', N zs H' → ∃ m', m' < m ∧ W (i + 1) m' zs H') ∧ ∀ y H3, J.yld i H2 y H3 → te (some y :: τ) H3 fun v H4 => H4 D = some (.lst ys) ∧ N (ys ++ [v]) (upd H4 D (.lst (ys ++ [v])))))
def tComp (wi : TI) (idx : List Nat) (te : TE) : TE := fun σ H Q => wi σ H fun J H1 => ∀ D, H1 D = none → CompTo J D (caps σ idx) te Q (upd H1 D (.lst []))
theorem appended {X : Cx} {pins : List (Addr × Obj)} {σ : St} {H : Hp} {s : Shared} {D : Addr} {ys : List V} {v : V} {u : Value} (I : Inv X pins σ H s) (h : H D = some (.lst ys)) (hz : ys.length < sizeLine) (r : RelV v u) :
    wpAny (model X.prog X.w) X.A (call (.builtin "list.append") [.ref D, u]) (fun _ s' => Inv X pins σ (upd H D (.lst (ys ++ [v]))) s') X.xe s := by
  refine thn (mt_append pins s σ H (.ref D) [v] (.ref D) [u] (fun _ H' => H' = upd H D (.lst (ys ++ [v]))) I rfl (.cons r .nil) ⟨D, ys, v, rfl, rfl, h, hz, rfl⟩) fun w s' ⟨_, H', I', _, e⟩ => ?_
  rw [← e]
  exact I'
theorem pe_comp {elt iter : Expr} {px pos : Pos} {wi : TI} {te : TE} (c : CompOk X scope cl x idx NC) (hc : X.calm = true) (hi : PI X (.Name x px) iter wi) (he : ∀ C fp s₀ H₀, PE (cxC X scope cl NC C fp s₀ H₀) elt te)
    (hs : ∀ x, foldedSetIterable iter X.env x = pure x := by intro _; rfl) : PE X (.ListComp elt [⟨.Name x px, iter, [], 0⟩] scope pos) (tComp wi idx te) := by
  intro pins s σ H Q I h
  rw [eval_ListComp]
  refine wpAny_comprehension_free (use := none) rfl hs c.clos c.kind c.loc (thn (hi pins s σ H _ I h) fun v s1 h1 => thn h1 fun itv s2 h2 => ?_)
  obtain ⟨it, fp, tn, J, H2, rfl, I2, T, st2, f2, q⟩ := h2
  refine wpAny_newObj_type (wpAny_newFunctionEnv c.nocell (by intro y hy; simp at hy) (fun h₁ hns₁ hsb₁ => ?_) c.kind)
  dsimp only at hns₁ hsb₁ ⊢
  have I3 : Inv X pins σ (upd H2 s2.heap.objs.size (.lst [])) { s2 with heap := s2.heap.push { cls := .type "list", data := .seq ([] : List Value).toArray }, toks := s2.toks } := I2.lnew (ys := []) (its := []) .nil (Nat.zero_le _)
  obtain ⟨W, ⟨m0, w0⟩, turn⟩ := q s2.heap.objs.size I2.fresh
  generalize hD : s2.heap.objs.size = D at *
  generalize hH : s2.heap.push { cls := .type "list", data := .seq ([] : List Value).toArray } = h3 at *
  have hlt2 : ∀ b ∈ fp, b < D := fun b hb => by
    obtain ⟨o, e, _⟩ := T.obj _ _ st2 b hb
    rw [← hD]
    exact Heap.lt_size e
  have hlt : ∀ b ∈ fp, b < h3.objs.size := fun b hb => by
    rw [← hH, Heap.size_push, hD]
    exact Nat.lt_succ_of_lt (hlt2 b hb)
  have hf : ∀ b ∈ fp, FpOk X pins (upd H2 D (.lst [])) b := fun b hb => ⟨by rw [upd_ne (Nat.ne_of_lt (hlt2 b hb))]; exact (f2 b hb).1, (f2 b hb).2⟩
  have kp : ∀ b o, h3.get? b = some o → h₁.get? b = some o := fun b o e => hsb₁.extBut b o (Nat.ne_of_lt (Heap.lt_size e)) (Heap.get?_push_of_some _ e)
  have I4 : Inv (cxC X scope cl NC h3.objs.size fp { s2 with heap := h3, toks := s2.toks } (upd H2 D (.lst []))) [] (none :: caps σ idx) (upd H2 D (.lst [])) { s2 with heap := h₁, toks := s2.toks + ([] : List (Str × Value)).length } :=
    inv_comp (s := { s2 with heap := h3, toks := s2.toks }) c I3 hf hlt hns₁ kp
  have stat : ∀ {H' : Hp}, (∀ b ∈ fp, H' b = none) → ∀ b ∈ fp, FpOk (cxC X scope cl NC h3.objs.size fp { s2 with heap := h3, toks := s2.toks } (upd H2 D (.lst []))) [] H' b := fun hn b hb =>
    ⟨hn b hb, Nat.ne_of_lt (hlt b hb), fun z => (List.mem_cons.mp (I3.stkSub b z)).elim (hf b hb).2.1 (hf b hb).2.2.1, .inl hb, fun y a q => (hf b hb).2.2.2.2.1 y a (c.sub _ _ q), fun p hp => (by cases hp)⟩
  have st1 : tn 0 h₁ := T.keep 0 _ _ st2 fun b hb o e => kp b o (by rw [← hH]; exact Heap.get?_push_of_some _ e)
  have loop : ∀ s4 : Shared, s4 = { s2 with heap := h₁, toks := s2.toks + ([] : List (Str × Value)).length } →
      codeAny (model X.prog X.w) X.A (.compLoop (.ListComp elt [⟨.Name x px, iter, [], 0⟩] scope pos) 0 (.ref it) (.ref D) (compEnvC scope cl h3.objs.size X.env)) (compPost (model X.prog X.w) X.A X.xe none (EP X pins σ Q) (.ref D) h3.objs.size) s4 := by
    rintro s4 rfl
    refine compLoop_any (fun n s' => ∃ i ys H' v0, Inv (cxC X scope cl NC h3.objs.size fp { s2 with heap := h3, toks := s2.toks } (upd H2 D (.lst []))) [] (v0 :: caps σ idx) H' s' ∧ tn i s'.heap ∧ (∀ b ∈ fp, H' b = none) ∧ W i n ys H')
      ?_ m0 ⟨0, [], _, none, I4, st1, fun b hb => (hf b hb).1, w0⟩
    rintro n s5 ⟨i, ys, H5, v0, I5, st5, fr5, w5⟩
    obtain ⟨hDl, alt⟩ := turn i n ys H5 w5
    rcases alt with ⟨stop, qn⟩ | ⟨go, hz, N, hN, step⟩
    · refine thn (T.done (cxC X scope cl NC h3.objs.size fp { s2 with heap := h3, toks := s2.toks } (upd H2 D (.lst []))) rfl rfl rfl hc i [] s5 _ H5 _ I5 (stat fr5) st5 stop) fun r s6 ⟨hr, I6⟩ => ?_
      subst hr
      obtain ⟨m, ns6, _⟩ := id I6.loc
      refine ⟨m, ns6, fun h' hs' => ⟨.ref D, H5, ?_, rfl, qn⟩⟩
      have J6 : Inv X pins σ H5 s6 := I3.call' (ch := fp) I6.os I6.base I6.hok I6.bare fun b hb => ⟨(hf b hb).2.2.2.1, (hf b hb).2.1, (hf b hb).2.2.2.2.1, (hf b hb).2.2.2.2.2⟩
      refine J6.turned (t' := s6.toks) (it := h3.objs.size) (fun b o hb e => hs'.extBut b o hb e) I6.free (Nat.ne_of_gt I3.lt) (.inr I3.sz) (fun y a q z => ?_) (fun p hp z => ?_)
      · obtain ⟨v, q'⟩ := I3.cell y a q
        exact absurd q'.lt (by rw [z]; exact Nat.lt_irrefl _)
      · exact absurd (Heap.lt_size (I3.pin p hp).1) (by rw [z]; exact Nat.lt_irrefl _)
    · refine thn (T.item (cxC X scope cl NC h3.objs.size fp { s2 with heap := h3, toks := s2.toks } (upd H2 D (.lst []))) rfl rfl rfl hc i [] s5 _ H5 _ I5 (stat fr5) st5 go) fun r s6 ⟨u, hr, h6⟩ => ?_
      subst hr
      refine thn h6 fun _ s7 ⟨y, H7, I7, r7, y7, st7, fr7⟩ => ?_
      have I7' := I7.pinned (stat fr7) (T.obj _ _ st7)
      have hnl : (relabel scope X.env).names.lookup x = some .local := lookup_relabel_local c.xl
      refine wpAny_mono (pg_name (X := cxC X scope cl NC h3.objs.size fp { s2 with heap := h3, toks := s2.toks } (upd H2 D (.lst []))) (i := 0) (x := x) (pos := px) c.nd (by show NC[0]? = some x; rw [c.nc]; rfl) (.inl hnl) (.inr hnl) _ s7 _ H7 y u
        (fun σ' H' => σ' = some y :: caps σ idx ∧ H' = H7) I7' r7 ⟨rfl, rfl⟩) (fun _ s8 ⟨σ8, H8, I8, e8, e8'⟩ => ?_) fun _ _ z => z.elim
      subst e8 e8'
      refine wpAny_mono (he _ _ _ _ _ s8 _ H8 _ I8 (step y H8 y7)) (fun w s9 ⟨v, H9, I9, r9, hD9, n9⟩ => ?_) fun _ _ z => z.elim
      obtain ⟨m', hm, w9⟩ := hN _ _ n9
      refine wpAny_mono (appended (X := (cxC X scope cl NC h3.objs.size fp { s2 with heap := h3, toks := s2.toks } (upd H2 D (.lst [])))) I9 hD9 hz r9) (fun _ s10 I10 => ?_) fun _ _ z => z.elim
      refine ⟨m', hm, i + 1, ys ++ [v], _, some y, I10.unpinned, T.keep _ _ _ st7 fun b hb o e => (I10.pin (b, o) (List.mem_append_right _ (List.mem_append_right _ (mem_pinsAt hb e)))).1, fun b hb => ?_, w9⟩
      obtain ⟨o, e, d⟩ := T.obj _ _ st7 b hb
      exact (I10.pin (b, o) (List.mem_append_right _ (List.mem_append_right _ (mem_pinsAt hb e)))).2.1
  exact codeAny_compStart_list (loop _ rfl) (T.self _ 0 _ _ _ st1 (loop _ rfl))
end
end L2
end
section
set_option Elab.async false
set_option linter.all false
set_option maxRecDepth 100000
set_option maxHeartbeats 4000000
namespace L2
open PySem PySem.Spec PyProof.Rows LX
section
variable {X : Cx}
/-! ### all of a list of bools -/
/-! ### a comprehension with one test -/
theorem compLoop_test {prog : Program} {w : World} {A : Around} {R : Result → Shared → Prop} {s : Shared} {elt target iter c : Expr} {scope : Scope} {pos : Pos} {it acc : Value} {env : Env} (I : Nat → Shared → Prop)
    (turn : ∀ n s, I n s → wpAny (model prog w) A (pyNext it) (fun r s₁ => match r with
      | none => R (.ok .next) s₁
      | some v => wpAny (model prog w) A (letOwnedTupleGo target it v) (fun _ s5 => wpAny (model prog w) A (assign target env v) (fun _ s₂ => wpAny (model prog w) A (isTrue c env (eval c env)) (fun ok s6 => if ok = true then wpAny (model prog w) A (eval elt env) (fun x s₃ =>
          wpAny (model prog w) A (call (.builtin "list.append") [acc, x]) (fun _ s₄ => ∃ m, m < n ∧ I m s₄) (notedBy (model prog w) A env fun e s' => R (.error e) s') s₃)
          (notedBy (model prog w) A env fun e s' => R (.error e) s') s6 else ∃ m, m < n ∧ I m s6) (notedBy (model prog w) A env fun e s' => R (.error e) s') s₂) (notedBy (model prog w) A env fun e s' => R (.error e) s') s5) (notedBy (model prog w) A env fun e s' => R (.error e) s') s₁) (notedBy (model prog w) A env fun e s' => R (.error e) s') s)
    (n : Nat) (h : I n s) : codeAny (model prog w) A (.compLoop (.ListComp elt [⟨target, iter, [c], 0⟩] scope pos) 0 it acc env) R s := by
  refine codeAny_loop rfl I (fun n s hI => ?_) n h
  show wpAny _ _ ((compTurn (.ListComp elt [⟨target, iter, [c], 0⟩] scope pos) 0 it acc env).onRaise (fun x => do noteFrame x env; theTreesLotGoes x)) _ _ s
  refine wpAny_noted ?_
  rw [compTurn_list]
  refine wpAny_bind (wpAny_standAt (wpAny_bind (wpAny_mono (turn n s hI) (fun r s₁ h₁ => ?_) fun _ _ h' => h')))
  cases r with
  | none => exact wpAny_pure h₁
  | some v =>
    refine wpAny_bind (wpAny_mono h₁ (fun _ s5 h5 => ?_) fun _ _ h' => h')
    refine wpAny_bind (wpAny_mono h5 (fun _ s₂ h₂ => wpAny_bind (wpAny_mono (wpAny_tests_one h₂) (fun ok s₃ h₃ => ?_) fun _ _ h' => h')) fun _ _ h' => h')
    cases ok with
    | false => exact wpAny_pure ⟨rfl, h₃⟩
    | true =>
      exact wpAny_bind (wpAny_bind (wpAny_mono h₃ (fun x s₄ h₄ => wpAny_bind (wpAny_mono h₄ (fun _ s₅ h₅ => wpAny_pure (wpAny_pure ⟨rfl, h₅⟩)) fun _ _ h' => h')) fun _ _ h' => h'))
variable {scope : Scope} {cl : List (Str × Addr)} {x : Str} {idx : List Nat} {NC : List Str} {C : Addr} {fp : List Addr} {pins : List (Addr × Obj)} {σ : St} {H : Hp} {s : Shared}
/-- the list at D grows by an item where the test holds -/
def tCompT (wi : TI) (idx : List Nat) (tc : TT) (te : TE) : TE := fun σ H Q => wi σ H fun J H1 => ∀ D, H1 D = none → ∃ W : Nat → Nat → List V → Hp → Prop, (∃ m, W 0 m [] (upd H1 D (.lst []))) ∧ ∀ i m ys H2, W i m ys H2 → H2 D = some (.lst ys) ∧
  ((J.stop i H2 ∧ Q (.ref D) H2) ∨ (J.go i H2 ∧ ys.length < sizeLine ∧ ∃ N : List V → Hp → Prop, (∀ zs H', N zs H' → ∃ m', m' < m ∧ W (i + 1) m' zs H') ∧ ∀ y H3, J.yld i H2 y H3 → tc (some y :: caps σ idx) H3 fun b H4 => if b = true then te (some y :: caps σ idx) H4 fun v H5 => H5 D = some (.lst ys) ∧ N (ys ++ [v]) (upd H5 D (.lst (ys ++ [v])))
    else N ys H4))
end
end L2
end
section
set_option Elab.async false
set_option linter.all false
set_option maxRecDepth 100000
set_option maxHeartbeats 4000000
namespace L2
open PySem PySem.Spec PyProof.Rows LX
/-! ### enumerate of a list, unpacked -/
def Ite (K : PySem.W.Frag) (a : Addr) : It :=
  ⟨fun i H => ∃ xs x, SqL K H a xs ∧ xs[i]? = some x, fun i H y H' => ∃ t x, H t = none ∧ y = .ref t ∧ (∀ xs, SqL K H a xs → xs[i]? = some x) ∧ H' = upd H t (.tup [.int (i : Int), x]), fun i H => ∃ xs, SqL K H a xs ∧ xs.length ≤ i⟩
theorem turn_enum {P : Program} {w : World} {K : PySem.W.Frag} {es : List Expr} {x1 : Nat} {pos : Pos} (a it e : Addr) (hne : e ≠ it) :
    Turn P w K (.Tuple es x1 pos) (Ite K a) [e, it] e (fun i h => ∃ old, IsEnum h e it i old ∧ h.IsListIter it a i) where
  mem := by simp
  obj := fun i h st b hb => by
    obtain ⟨old, h1, o, q, c, d⟩ := st
    rcases List.mem_cons.mp hb with z | z
    · rw [z]
      exact ⟨_, h1, fun v z => by
        have z' : Data.fields _ = Data.cell v := z
        cases z'⟩
    · rw [List.mem_singleton.mp z]
      exact ⟨o, q, fun v z => by rw [d] at z; cases z⟩
  keep := fun i h h' st k => by
    obtain ⟨old, h1, h2⟩ := st
    exact ⟨old, k e (by simp) _ h1, h2.at fun o q => k it (by simp) o q⟩
  item := by
    intro X hP hw hK hc i pins s σ H E I hf st hg
    subst hP hw hK
    obtain ⟨xs, x, hq, hx⟩ := hg
    obtain ⟨its, rv, p, hz⟩ := I.list hq
    obtain ⟨u, hu, ru⟩ := rv.get hx
    obtain ⟨old, he, hit⟩ := st
    have fr : H s.heap.objs.size = none := I.hok.fresh (Nat.le_refl _)
    refine wpAny_pyNext_enum_item he hit p.isList (x := u) (by simpa using hu) hne fun h1 heo hit1 ht1 hz1 hk1 => ⟨_, rfl, wpAny_letOwnedTupleGo_enum heo fun h2 he2 hs2 => ?_⟩
    replace hs2 : Heap.SameBut e h1 h2 := hs2
    have hel : e < s.heap.objs.size := Heap.lt_size he
    have k2 : ∀ b o, b ≠ e → b ≠ it → s.heap.get? b = some o → h2.get? b = some o := fun b o z1 z2 q => (hs2.2 b z1).trans (hk1 b o z1 z2 q)
    have ht2 : h2.get? s.heap.objs.size = some { cls := .type "tuple", data := .seq #[.int i s.toks, u] } := (hs2.2 _ (Nat.ne_of_gt hel)).trans ht1
    have hit2 : h2.IsListIter it a (i + 1) := hit1.extBut hs2.extBut (Ne.symm hne)
    have nt : ∀ b o, s.heap.get? b = some o → b ≠ s.heap.objs.size := fun b o q => Nat.ne_of_lt (Heap.lt_size q)
    have nh : ∀ b v, H b = some v → b ≠ s.heap.objs.size := fun b v q => ne_of_none q fr
    have ne' : ∀ b v, H b = some v → b ≠ e ∧ b ≠ it := fun b v q => ⟨ne_of_none q (hf e (by simp)).1, ne_of_none q (hf it (by simp)).1⟩
    refine ⟨.ref s.heap.objs.size, upd H s.heap.objs.size (.tup [.int (i : Int), x]), ?_, rfl, ⟨_, x, fr, rfl, fun ys hy => by rw [I.list_inj hy hq]; exact hx, rfl⟩, ⟨_, he2, hit2⟩, fun b hb => ?_⟩
    · refine Inv.step (s := s) (h' := h2) (t' := s.toks + 1) (H := H) (g' := s.gens) (d' := s.drawn) (ch := [e, it]) I (fun b hb => ⟨(hf b hb).2.2.2.1, (hf b hb).2.1, (hf b hb).2.2.2.2.1, (hf b hb).2.2.2.2.2⟩)
        (fun b o _ _ z q _ => k2 b o (fun y => z (by simp [y])) (fun y => z (by simp [y])) q) (fun b o _ _ z q _ => ⟨o.slots, k2 b o (fun y => z (by simp [y])) (fun y => z (by simp [y])) q⟩)
        (fun b o _ q n => by rw [upd_ne (nt b o q)]; exact n) (fun b o z q => ⟨o, k2 b o (fun y => z (by simp [y])) (fun y => z (by simp [y])) q⟩)
        (fun b xs q => by rw [upd_ne (nh b _ q)]; exact q) (fun b o v q => by rw [upd_ne (nh b _ q)]; exact q) (fun b ps q => ⟨#[], by rw [upd_ne (nh b _ q), q]; simp⟩) (fun m hm => ?_) (fun b v q => ?_) I.bare
      · obtain ⟨o, es', ep, ho, r⟩ := hm
        exact ⟨o, es', ep, k2 _ o (Ne.symm (hf e (by simp)).2.1) (Ne.symm (hf it (by simp)).2.1) ho, r⟩
      · by_cases z : b = s.heap.objs.size
        · subst z
          rw [upd_same] at q
          cases q
          exact ⟨by show 2 ≤ sizeLine; decide, [.int i s.toks, u], .cons ⟨_, rfl⟩ (.cons ru .nil), _, ht2, rfl, _, rfl⟩
        · rw [upd_ne z] at q
          refine (I.hok b v q).stay (fun c o hc w => ?_) (fun c w => by rw [upd_ne (nh c _ w)]; exact w) fun c xs w => by rw [upd_ne (nh c _ w)]; exact w
          rcases hc with y | y
          · rw [y] at w ⊢
            exact k2 b o (ne' b v q).1 (ne' b v q).2 w
          · exact k2 c o (ne' c _ y).1 (ne' c _ y).2 w
    · have hb' : b < s.heap.objs.size := by
        rcases List.mem_cons.mp hb with z | z
        · rw [z]; exact hel
        · rw [List.mem_singleton.mp z]
          obtain ⟨o, q, _⟩ := hit
          exact Heap.lt_size q
      rw [upd_ne (Nat.ne_of_lt hb')]
      exact (hf b hb).1
  done := by
    intro X hP hw hK hc i pins s σ H E I hf st hg
    subst hP hw hK
    obtain ⟨xs, hq, hx⟩ := hg
    obtain ⟨its, rv, p, hz⟩ := I.list hq
    obtain ⟨f0, f1, f2, f3, f4, f5⟩ := hf it (by simp)
    have hl := rv.length
    obtain ⟨old, he, hit⟩ := st
    exact wpAny_pyNext_enum_end (I.ok.hd hc) he hit p.isList (by simp; omega) fun h' eb => ⟨rfl, I.turned (t' := s.toks) (fun b o hb q => eb b o hb q) f0 f1 f3 f4 f5⟩
  self := fun A i s Q E st h => by
    obtain ⟨old, he, hit⟩ := st
    exact wpAny_pyIter_enum he h
section
variable {X : Cx} {es : List Expr} {x1 : Nat} {tp : Pos}
def iEnum (K : PySem.W.Frag) (ta : TA) : TI := fun σ H R => ta σ H fun vs H1 => ∃ a, vs = [.ref a] ∧ (∃ xs, SqL K H1 a xs) ∧ R (Ite K a) H1
theorem pi_enum {a : Expr} {ta : TA} {p pos : Pos} (hg : Gl X "enumerate") (hm : X.mg "enumerate" = none) (ha : PA X [a] ta) (hs : starEach [a] X.env = [(false, eval a X.env)] := by rfl) : PI X (.Tuple es x1 tp) (.Call (.Name "enumerate" p) [a] [] pos) (iEnum X.K ta) := by
  intro pins s σ H R I h
  refine Call_ (ld_blt I hg hm PyProof.Rows.Boot.«enumerate» (PyProof.Rows.callWith_type1 (thn (ha pos pins s σ H _ I h) fun us s1 ⟨vs, H1, I1, r1, q1⟩ => ?_) hs rfl))
  obtain ⟨l, e, ⟨xs, hq⟩, q⟩ := q1
  subst e
  cases r1 with
  | cons r rr =>
    cases rr
    cases r
    obtain ⟨its, rv, pl, hz⟩ := I1.list hq
    refine call_enumerate_list pl.isList fun h' he hit hsz hk => ?_
    refine wpAny_pyIter_enum he ?_
    refine ⟨s1.heap.objs.size + 1, [s1.heap.objs.size + 1, s1.heap.objs.size], _, _, H1, rfl, I1.kept (t' := s1.toks) hk, turn_enum l s1.heap.objs.size (s1.heap.objs.size + 1) (Nat.succ_ne_self _), ⟨_, he, hit⟩, fun b hb => ?_, q⟩
    have hb' : s1.heap.objs.size ≤ b := by
      rcases List.mem_cons.mp hb with z | z
      · rw [z]; exact Nat.le_succ _
      · rw [List.mem_singleton.mp z]
        exact Nat.le_refl _
    exact I1.fpOk hb' (I1.hok.fresh hb')
end
/-- over a list that the body leaves as it is, by pairs -/
theorem for_enum {K : PySem.W.Frag} {a : Addr} {xs : List V} {g : TG} {tb : TS} {D : Ends} {σ : St} {H : Hp} (Pv : Nat → St → Hp → Prop) (h0 : Pv 0 σ H) (hl : ∀ i σ H, i ≤ xs.length → Pv i σ H → SqL K H a xs)
    (hs : ∀ i x σ H t, xs[i]? = some x → Pv i σ H → H t = none → g (.ref t) σ (upd H t (.tup [.int (i : Int), x])) fun σ2 H2 => tb { D with nx := Pv (i + 1), ct := Pv (i + 1), bk := D.nx } σ2 H2) (hd : ∀ σ H, Pv xs.length σ H → D.nx σ H) :
    ∃ W : Nat → Nat → St → Hp → Prop, (∃ m, W 0 m σ H) ∧ ∀ i m σ H, W i m σ H →
      ((Ite K a).stop i H ∧ D.nx σ H) ∨ ((Ite K a).go i H ∧ ∃ N : St → Hp → Prop, (∀ σ' H', N σ' H' → ∃ m', m' < m ∧ W (i + 1) m' σ' H') ∧ ∀ x H', (Ite K a).yld i H x H' → g x σ H' fun σ2 H2 => tb { D with nx := N, ct := N, bk := D.nx } σ2 H2) := by
  refine ⟨fun i m σ H => m = xs.length - i ∧ i ≤ xs.length ∧ Pv i σ H, ⟨xs.length, by simp, Nat.zero_le _, h0⟩, ?_⟩
  rintro i m σ H ⟨rfl, hi, p⟩
  by_cases hlt : i < xs.length
  · refine .inr ⟨⟨xs, xs[i], hl i σ H hi p, List.getElem?_eq_getElem hlt⟩, Pv (i + 1), fun σ' H' p' => ⟨xs.length - (i + 1), by omega, rfl, hlt, p'⟩, fun x H' y => ?_⟩
    obtain ⟨t, v, e1, e2, e3, e4⟩ := y
    subst e2 e4
    exact hs i v σ H t (e3 xs (hl i σ H hi p)) p e1
  · have e : i = xs.length := by omega
    subst e
    exact .inl ⟨⟨xs, hl _ σ H hi p, Nat.le_refl _⟩, hd σ H p⟩
end L2
namespace L2
open PySem
theorem comp_range {lo : Int} {n : Nat} {te : TE} {Q : VK} {D : Addr} {τ : St} {H : Hp} (Pv : Nat → List V → Hp → Prop) (h0 : Pv 0 [] H) (hD : ∀ i ys H, i ≤ n → Pv i ys H → H D = some (.lst ys) ∧ ys.length = i) (hn : n ≤ sizeLine)
    (hs : ∀ i ys H, i < n → Pv i ys H → te (some (.int (lo + i)) :: τ) H fun v H4 => H4 D = some (.lst ys) ∧ Pv (i + 1) (ys ++ [v]) (upd H4 D (.lst (ys ++ [v])))) (hd : ∀ ys H, Pv n ys H → Q (.ref D) H) : CompTo (Itr lo n) D τ te Q H := by
  refine ⟨fun i m ys H => m = n - i ∧ i ≤ n ∧ Pv i ys H, ⟨n, by simp, Nat.zero_le _, h0⟩, ?_⟩
  rintro i m ys H2 ⟨rfl, hi, p⟩
  obtain ⟨hd1, hd2⟩ := hD i ys H2 hi p
  refine ⟨hd1, ?_⟩
  by_cases hlt : i < n
  · refine .inr ⟨hlt, by omega, Pv (i + 1), fun zs H' p' => ⟨n - (i + 1), by omega, rfl, hlt, p'⟩, fun y H3 e => ?_⟩
    obtain ⟨e1, e2⟩ := e
    subst e1 e2
    exact hs i ys _ hlt p
  · have e : i = n := by omega
    subst e
    exact .inl ⟨Nat.le_refl _, hd ys H2 p⟩
end L2
end
section
set_option Elab.async false
set_option linter.all false
set_option maxRecDepth 100000
set_option maxHeartbeats 4000000
namespace L2
open PySem PySem.Spec PyProof.Rows LX
/-! ### CompOk by what can be looked up -/
def relN (sc : Scope) (names : List (Str × NameKind)) : List (Str × NameKind) := names.map fun (n, k) => if (k == .free && sc.kind == .function && sc.names.lookup n == some .cell) then (n, .cell) else (n, k)
def CompP (sc scope : Scope) (x : Str) (ns N : List Str) (idx : List Nat) : Prop :=
  (∀ y ∈ scope.names, y.2 ≠ .cell) ∧ (∀ y ∈ scope.names, y.2 = .local → scope.names.lookup y.1 = some .local) ∧ scope.names.lookup x = some .local ∧ (∀ p ∈ relN sc scope.names, p.2 = .cell ∨ p.2 = .free → p.1 ∈ ns) ∧ (x :: idx.map fun i => N.getD i x).Nodup ∧
  ∀ i ∈ idx, i < N.length ∧ ((sc.names.lookup (N.getD i x) = some .cell ∨ sc.names.lookup (N.getD i x) = some .free) ∧ ((relN sc scope.names).lookup (N.getD i x) = some .cell ∨ (relN sc scope.names).lookup (N.getD i x) = some .free))
instance (sc scope : Scope) (x : Str) (ns N : List Str) (idx : List Nat) : Decidable (CompP sc scope x ns N idx) := by unfold CompP; infer_instance
theorem some_of_mem {y : Str} : ∀ {cl : List (Str × Addr)}, y ∈ cl.map (·.1) → ∃ c, cl.lookup y = some c
  | [], h => by simp at h
  | (n, c) :: r, h => by
    by_cases e : y = n
    · exact ⟨c, by simp [List.lookup, e]⟩
    · have h' : y ∈ r.map (·.1) := by
        rw [List.map_cons] at h
        rcases List.mem_cons.mp h with z | z
        · exact absurd z e
        · exact z
      obtain ⟨c', q⟩ := some_of_mem h'
      have hb : (y == n) = false := beq_eq_false_iff_ne.mpr e
      exact ⟨c', by simp only [List.lookup, hb]; exact q⟩
theorem comp_ok {X : Cx} {sc scope : Scope} {cl : List (Str × Addr)} {x : Str} {ns N : List Str} {idx : List Nat} (hsc : X.env.scope = sc) (hN : X.N = N) (hk : scope.kind = .function) (p : CompP sc scope x ns N idx) (hn : cl.map (·.1) = ns)
    (hclos : closureFor scope X.env = pure cl) (hsub : ∀ q ∈ cl, X.env.cells.lookup q.1 = some q.2) : CompOk X scope cl x idx (x :: idx.map fun i => N.getD i x) := by
  obtain ⟨p1, p2, p3, p4, p5, p6⟩ := p
  have re : (relabel scope X.env).names = relN sc scope.names := by subst hsc; rfl
  subst hsc hN hn
  refine ⟨hclos, fun y c q => hsub (y, c) (PySem.mem_of_lookup q), fun y h => ?_, p1, hk, p2, p3, rfl, p5, fun i hi => ?_⟩
  · rw [re] at h
    refine some_of_mem ?_
    rcases h with h | h
    · exact p4 (y, .cell) (PySem.mem_of_lookup h) (.inl rfl)
    · exact p4 (y, .free) (PySem.mem_of_lookup h) (.inr rfl)
  · rw [re]
    exact p6 i hi
/-- a call out of which nothing comes -/
theorem passF {P : Program} {w : World} {X : Cx} : PassesX (CXE P w) X (fun _ _ _ _ => False) := fun _ _ _ _ _ _ _ ⟨_, _, _, _, _, _, _, _, _, q⟩ => q.elim
end L2
end
section
set_option Elab.async false
set_option linter.all false
set_option maxRecDepth 100000
set_option maxHeartbeats 4000000
namespace L2
open PySem PySem.Spec PyProof.Rows LX
section
variable {X : Cx} {scope : Scope} {cl : List (Str × Addr)} {x : Str} {idx : List Nat} {NC : List Str} {pins : List (Addr × Obj)} {σ : St} {H : Hp} {s : Shared}
/-! ### name = [comprehension]: the store comes ahead of the going of the block's names -/
theorem ps_comp {i : Nat} {y : Str} {elt iter : Expr} {px py pos spos : Pos} {wi : TI} {te : TE} (hN : X.N.Nodup) (hi' : X.N[i]? = some y) (hx : X.env.scope.names.lookup y = some .local) (c : CompOk X scope cl x idx NC) (hc : X.calm = true) (hi : PI X (.Name x px) iter wi)
    (he : ∀ C fp s₀ H₀, PE (cxC X scope cl NC C fp s₀ H₀) elt te) (hsw : swapsWith (.ListComp elt [⟨.Name x px, iter, [], 0⟩] scope pos) (some (.Name y py)) spos.line X.env = pure true := by rfl)
    (hs : ∀ x, foldedSetIterable iter X.env x = pure x := by intro _; rfl) : PS X (.Assign [.Name y py] (.ListComp elt [⟨.Name x px, iter, [], 0⟩] scope pos) spos) (tAsg (tComp wi idx te) (gName i)) := by
  intro pins s σ H D0 I h
  rw [exec_Assign_Name_used _ _ _ _ hsw]
  refine wpAny_bind (wpAny_standAt (wpAny_bind ?_))
  show wpAny _ _ (do let _ ← comprehension (.ListComp elt [⟨.Name x px, iter, [], 0⟩] scope pos) scope X.env _ (newList []) false (eval iter X.env) (some (assign (.Name y py) X.env))) _ _ s
  refine wpAny_bind (wpAny_mono (wpAny_comprehension_free (use := some (assign (.Name y py) X.env)) (Q := fun _ s' => SP X pins D0 .next s') rfl hs c.clos c.kind c.loc
    (thn (hi pins s σ H _ I h) fun v s1 h1 => thn h1 fun itv s2 h2 => ?_)) (fun _ s' hq => wpAny_pure (wpAny_pure hq)) fun _ _ e => e)
  obtain ⟨it, fp, tn, J, H2, rfl, I2, T, st2, f2, q⟩ := h2
  refine wpAny_newObj_type (wpAny_newFunctionEnv c.nocell (by intro y hy; simp at hy) (fun h₁ hns₁ hsb₁ => ?_) c.kind)
  dsimp only at hns₁ hsb₁ ⊢
  have I3 : Inv X pins σ (upd H2 s2.heap.objs.size (.lst [])) { s2 with heap := s2.heap.push { cls := .type "list", data := .seq ([] : List Value).toArray }, toks := s2.toks } := I2.lnew (ys := []) (its := []) .nil (Nat.zero_le _)
  obtain ⟨W, ⟨m0, w0⟩, turn⟩ := q s2.heap.objs.size I2.fresh
  generalize hD : s2.heap.objs.size = D at *
  generalize hH : s2.heap.push { cls := .type "list", data := .seq ([] : List Value).toArray } = h3 at *
  have hlt2 : ∀ b ∈ fp, b < D := fun b hb => by
    obtain ⟨o, e, _⟩ := T.obj _ _ st2 b hb
    rw [← hD]
    exact Heap.lt_size e
  have hlt : ∀ b ∈ fp, b < h3.objs.size := fun b hb => by
    rw [← hH, Heap.size_push, hD]
    exact Nat.lt_succ_of_lt (hlt2 b hb)
  have hf : ∀ b ∈ fp, FpOk X pins (upd H2 D (.lst [])) b := fun b hb => ⟨by rw [upd_ne (Nat.ne_of_lt (hlt2 b hb))]; exact (f2 b hb).1, (f2 b hb).2⟩
  have kp : ∀ b o, h3.get? b = some o → h₁.get? b = some o := fun b o e => hsb₁.extBut b o (Nat.ne_of_lt (Heap.lt_size e)) (Heap.get?_push_of_some _ e)
  have I4 : Inv (cxC X scope cl NC h3.objs.size fp { s2 with heap := h3, toks := s2.toks } (upd H2 D (.lst []))) [] (none :: caps σ idx) (upd H2 D (.lst [])) { s2 with heap := h₁, toks := s2.toks + ([] : List (Str × Value)).length } :=
    inv_comp (s := { s2 with heap := h3, toks := s2.toks }) c I3 hf hlt hns₁ kp
  have stat : ∀ {H' : Hp}, (∀ b ∈ fp, H' b = none) → ∀ b ∈ fp, FpOk (cxC X scope cl NC h3.objs.size fp { s2 with heap := h3, toks := s2.toks } (upd H2 D (.lst []))) [] H' b := fun hn b hb =>
    ⟨hn b hb, Nat.ne_of_lt (hlt b hb), fun z => (List.mem_cons.mp (I3.stkSub b z)).elim (hf b hb).2.1 (hf b hb).2.2.1, .inl hb, fun y a q => (hf b hb).2.2.2.2.1 y a (c.sub _ _ q), fun p hp => (by cases hp)⟩
  have st1 : tn 0 h₁ := T.keep 0 _ _ st2 fun b hb o e => kp b o (by rw [← hH]; exact Heap.get?_push_of_some _ e)
  have loop : ∀ s4 : Shared, s4 = { s2 with heap := h₁, toks := s2.toks + ([] : List (Str × Value)).length } →
      codeAny (model X.prog X.w) X.A (.compLoop (.ListComp elt [⟨.Name x px, iter, [], 0⟩] scope pos) 0 (.ref it) (.ref D) (compEnvC scope cl h3.objs.size X.env)) (compPost (model X.prog X.w) X.A X.xe (some (assign (.Name y py) X.env)) (fun _ s' => SP X pins D0 .next s') (.ref D) h3.objs.size) s4 := by
    rintro s4 rfl
    refine compLoop_any (fun n s' => ∃ i ys H' v0, Inv (cxC X scope cl NC h3.objs.size fp { s2 with heap := h3, toks := s2.toks } (upd H2 D (.lst []))) [] (v0 :: caps σ idx) H' s' ∧ tn i s'.heap ∧ (∀ b ∈ fp, H' b = none) ∧ W i n ys H')
      ?_ m0 ⟨0, [], _, none, I4, st1, fun b hb => (hf b hb).1, w0⟩
    rintro n s5 ⟨i5, ys, H5, v0, I5, st5, fr5, w5⟩
    obtain ⟨hDl, alt⟩ := turn i5 n ys H5 w5
    rcases alt with ⟨stop, qn⟩ | ⟨go, hz, N, hN', step⟩
    · refine thn (T.done (cxC X scope cl NC h3.objs.size fp { s2 with heap := h3, toks := s2.toks } (upd H2 D (.lst []))) rfl rfl rfl hc i5 [] s5 _ H5 _ I5 (stat fr5) st5 stop) fun r s6 ⟨hr, I6⟩ => ?_
      subst hr
      obtain ⟨m, ns6, _⟩ := id I6.loc
      have J6 : Inv X pins σ H5 s6 := I3.call' (ch := fp) I6.os I6.base I6.hok I6.bare fun b hb => ⟨(hf b hb).2.2.2.1, (hf b hb).2.1, (hf b hb).2.2.2.2.1, (hf b hb).2.2.2.2.2⟩
      have fC : FpOk X pins H5 h3.objs.size := I3.fpOk (Nat.le_refl _) I6.free
      obtain ⟨o, es, ep, ho, rr⟩ := ns6
      have od : ∀ v, o.data ≠ .cell v := fun v z => by
        rw [rr.1] at z
        cases z
      show wpAny _ _ (assign (.Name y py) X.env (.ref D)) (fun _ s'' => ∃ m, s''.heap.Ns h3.objs.size m ∧ ∀ h', Heap.SameBut h3.objs.size s''.heap h' → SP X pins D0 .next { s'' with heap := h' }) X.xe s6
      have J7 := J6.pinned (fp := [h3.objs.size]) (fun b hb => by rw [List.mem_singleton.mp hb]; exact fC) (fun b hb => by rw [List.mem_singleton.mp hb]; exact ⟨o, ho, od⟩)
      refine wpAny_mono (pg_name (pos := py) hN hi' (.inl hx) (.inr hx) _ s6 _ H5 (.ref D) (.ref D) D0.nx J7 rfl qn) (fun _ s7 ⟨σ7, H7, I7, q7⟩ => ?_) (fun _ _ z => z)
      have pC := I7.pin (h3.objs.size, o) (List.mem_append_right _ (List.mem_append_right _ (mem_pinsAt (List.mem_singleton.mpr rfl) ho)))
      refine ⟨m, ⟨o, es, ep, pC.1, rr⟩, fun h' hs' => ⟨σ7, H7, ?_, q7⟩⟩
      exact I7.unpinned.turned (t' := s7.toks) (it := h3.objs.size) (fun b o hb e => hs'.extBut b o hb e) pC.2.1 fC.2.1 fC.2.2.2.1 fC.2.2.2.2.1 fC.2.2.2.2.2
    · refine thn (T.item (cxC X scope cl NC h3.objs.size fp { s2 with heap := h3, toks := s2.toks } (upd H2 D (.lst []))) rfl rfl rfl hc i5 [] s5 _ H5 _ I5 (stat fr5) st5 go) fun r s6 ⟨u, hr, h6⟩ => ?_
      subst hr
      refine thn h6 fun _ s7 ⟨y, H7, I7, r7, y7, st7, fr7⟩ => ?_
      have I7' := I7.pinned (stat fr7) (T.obj _ _ st7)
      have hnl : (relabel scope X.env).names.lookup x = some .local := lookup_relabel_local c.xl
      refine wpAny_mono (pg_name (X := cxC X scope cl NC h3.objs.size fp { s2 with heap := h3, toks := s2.toks } (upd H2 D (.lst []))) (i := 0) (x := x) (pos := px) c.nd (by show NC[0]? = some x; rw [c.nc]; rfl) (.inl hnl) (.inr hnl) _ s7 _ H7 y u
        (fun σ' H' => σ' = some y :: caps σ idx ∧ H' = H7) I7' r7 ⟨rfl, rfl⟩) (fun _ s8 ⟨σ8, H8, I8, e8, e8'⟩ => ?_) fun _ _ z => z.elim
      subst e8 e8'
      refine wpAny_mono (he _ _ _ _ _ s8 _ H8 _ I8 (step y H8 y7)) (fun w s9 ⟨v, H9, I9, r9, hD9, n9⟩ => ?_) fun _ _ z => z.elim
      obtain ⟨m', hm, w9⟩ := hN' _ _ n9
      refine wpAny_mono (appended (X := (cxC X scope cl NC h3.objs.size fp { s2 with heap := h3, toks := s2.toks } (upd H2 D (.lst [])))) I9 hD9 hz r9) (fun _ s10 I10 => ?_) fun _ _ z => z.elim
      refine ⟨m', hm, i5 + 1, ys ++ [v], _, some y, I10.unpinned, T.keep _ _ _ st7 fun b hb o e => (I10.pin (b, o) (List.mem_append_right _ (List.mem_append_right _ (mem_pinsAt hb e)))).1, fun b hb => ?_, w9⟩
      obtain ⟨o, e, d⟩ := T.obj _ _ st7 b hb
      exact (I10.pin (b, o) (List.mem_append_right _ (List.mem_append_right _ (mem_pinsAt hb e)))).2.1
  exact codeAny_compStart_list (loop _ rfl) (T.self _ 0 _ _ _ st1 (loop _ rfl))
/-! ### != of two lists of flat items, as long as one another -/
def rNeL (K : PySem.W.Frag) : R2 := fun x y H Q => ∃ a b xs ys, x = .ref a ∧ y = .ref b ∧ SqL K H a xs ∧ SqL K H b ys ∧ xs.length = ys.length ∧ xs.all flatV = true ∧ ys.all flatV = true ∧ Q (.bl (!eqAll xs ys)) H
theorem op_neL {X : Cx} (hu : X.A.units < cLine) : OpR X (compareOp .NotEq) (rNeL X.K) := by
  intro pins s σ H x y v u Q I rx ry h
  obtain ⟨a, b, xs, ys, rfl, rfl, ha, hb, hl, fx, fy, q⟩ := h
  cases rx
  cases ry
  obtain ⟨vs, r1, ⟨o1, n1, e1, c1, _, g1⟩, _⟩ := I.list ha
  obtain ⟨ws, r2, ⟨o2, n2, e2, c2, _, g2⟩, _⟩ := I.list hb
  have l1 := r1.length
  have l2 := r2.length
  refine SeqAt.RcNeAt.lists (e := fun j => eqV (xs.getD j .non) (ys.getD j .non)) ⟨o1, e1, c1, n1, g1⟩ ⟨o2, e2, c2, n2, g2⟩ (by simp only [List.size_toArray]; omega) hu (fun j h1 h2 => ?_) _ _ _ _ ⟨.bl _, H, I, rfl, ?_⟩
  · simp only [List.size_toArray] at h1 h2
    obtain ⟨w1, z1, rz1⟩ := r1.get (i := j) (x := xs[j]'(by omega)) (List.getElem?_eq_getElem (by omega))
    obtain ⟨w2, z2, rz2⟩ := r2.get (i := j) (x := ys[j]'(by omega)) (List.getElem?_eq_getElem (by omega))
    have a1 : vs.toArray[j] = w1 := by
      have := (List.getElem?_eq_some_iff.mp z1).2
      simpa using this
    have a2 : ws.toArray[j] = w2 := by
      have := (List.getElem?_eq_some_iff.mp z2).2
      simpa using this
    rw [a1, a2]
    have d1 : xs.getD j .non = xs[j]'(by omega) := by simp [List.getD, List.getElem?_eq_getElem (show j < xs.length by omega)]
    have d2 : ys.getD j .non = ys[j]'(by omega) := by simp [List.getD, List.getElem?_eq_getElem (show j < ys.length by omega)]
    show SeqAt.EqAt _ _ _ _ (eqV (xs.getD j .non) (ys.getD j .non))
    rw [d1, d2]
    exact eqAt_V rz1 rz2 (List.all_eq_true.mp fx _ (List.getElem_mem _)) (List.all_eq_true.mp fy _ (List.getElem_mem _))
  · have : vs.toArray.size = xs.length := by simp only [List.size_toArray]; omega
    rw [this]
    exact q
/-! ### sum of a list of numbers -/
/-! ### isinstance with a tuple of classes -/
end
end L2
end
section
set_option Elab.async false
set_option linter.all false
set_option maxRecDepth 100000
set_option maxHeartbeats 4000000
namespace L2
open PySem PySem.Spec PyProof.Rows LX
/-! ### sorted(x) of a list of numbers, of a dict whose keys are numbers -/
theorem ints_by : ∀ {us : List Value} {ks : List Int}, us.length = ks.length → (∀ (j : Nat) (v : Value), us[j]? = some v → ∃ t, v = Value.int (ks.getD j 0) t) → IntsAre us ks
  | [], [], _, _ => .nil
  | [], _ :: _, h, _ => by simp at h
  | _ :: _, [], h, _ => by simp at h
  | u :: us, k :: ks, h, f => by
    obtain ⟨t, e⟩ := f 0 u rfl
    subst e
    exact .cons k t (ints_by (by simpa using h) fun j v q => f (j + 1) v q)
section
variable {X : Cx}
def rSortD : List V → Hp → VK → Prop := fun vs H Q => ∃ (p : Addr) (kvs : List (Key × V)) (ks : List Int), vs = [.ref p] ∧ H p = some (.dK kvs) ∧ kvs.map (·.1) = ks.map Sum.inl ∧ ks.length < 64 ∧
  ∀ (l : Addr) (ns' : List Int), H l = none → ns'.Perm ks → ns'.Pairwise (· ≤ ·) → Q (.ref l) (upd H l (.lst (ns'.map V.int)))
theorem dict_ints {P : Program} {w : World} {vs : List (Key × Value)} {ks : List Int} {acc : Array Value} (hk : vs.map (·.1) = ks.map Sum.inl) (ha : acc.size = vs.length) (h : ∀ (j : Nat) (v : Value), acc[j]? = some v → ∃ k x, vs[j]? = some (k, x) ∧ (mixKind P w).is k v = true) : IntsAre acc.toList ks := by
  have hl : vs.length = ks.length := by
    have := congrArg List.length hk
    simpa using this
  refine ints_by (by rw [Array.length_toList]; omega) fun j v e => ?_
  obtain ⟨k, x, h1, h2⟩ := h j v (by rw [← Array.getElem?_toList]; exact e)
  have h3 : (vs.map (·.1))[j]? = some k := by rw [List.getElem?_map, h1]; rfl
  rw [hk, List.getElem?_map] at h3
  obtain ⟨i, hi, rfl⟩ := Option.map_eq_some_iff.mp h3
  have h4 : keyIs (.inl i) v = true := h2
  rcases keyIs_shape h4 with ⟨i', t, e1, e2⟩ | ⟨y, t, e1, _⟩
  · injection e1 with e1
    subst e1
    exact ⟨t, by rw [e2]; simp [List.getD, hi]⟩
  · cases e1
theorem call_sortedD (hc : X.calm = true) : CallR X (.builtin "sorted") rSortD := by
  rintro pins s σ H xs us Q I r ⟨p, kvs, ks, rfl, hp, hk, h64, q⟩
  obtain ⟨u, rfl, ru⟩ := r.one
  cases (show u = Value.ref p from ru)
  obtain ⟨hz, hd, vs, rel, dd⟩ := dk_of I.hok hp
  obtain ⟨ep, hat⟩ := dd.dictAt
  have hh := I.ok.hd hc
  have hl : ks.length = kvs.length := by
    have := congrArg List.length hk
    simpa using this.symm
  refine Calls.call_function_entry kind_sorted plain_sorted entry_sorted (args_sorted1 _) ?_
  unfold Builtin.«sorted»
  refine wpAny_bind (m := checkCount "sorted" 1 1 _) (wpAny_pure ?_)
  refine wpAny_bind (PySem.W.kdu_collect (A := X.A.in1) (PySem.W.kdl_dict (knd := mixKind X.prog X.w) (kvs := vs) (ep := ep) hd) hh hat (by rw [← rel.length]; exact hz) fun h' tk acc hkp hacc => ?_)
  have hI : IntsAre acc.toList ks := dict_ints (by rw [← rel.keys]; exact hk) hacc.1 hacc.2
  have hlen := hI.length
  have I1 : Inv X pins σ H { s with heap := h', toks := tk } := I.kept (t' := tk) hkp
  refine wpAny_bind (wpAny_newList ?_)
  have hoL : (h'.push (seqObj "list" acc.toList.toArray 0)).get? h'.objs.size = some (seqObj "list" acc.toList.toArray 0) := Heap.get?_push_size _ rfl
  show wpAny _ _ _ _ _ { s with heap := h'.push (seqObj "list" acc.toList.toArray 0), toks := tk }
  refine wpAny_bind (wpAny_holding (wpAny_call_entry slot_list_sort ⟨_, hoL, rfl⟩ entry_list_sort (list_sort_tree hoL hI (by omega) fun out ns' a1 a2 a3 => ⟨_, rfl, ?_⟩) (args_list_sort _)))
  refine wpAny_pure ⟨_, rfl, ?_⟩
  obtain ⟨e, he⟩ := sortedHeap_at (out := out) hoL
  refine ⟨.ref h'.objs.size, _, I1.laid (a := h'.objs.size) (o := .lst (ns'.map V.int)) (t' := tk) (fun b o hb => ?_) (Nat.le_refl _) ?_, rfl, q _ ns' (I1.hok.fresh (Nat.le_refl _)) a2 a3⟩
  · have hlt := Heap.lt_size hb
    rw [sortedHeap_old (Nat.ne_of_lt hlt) (by rw [size_push']; exact Nat.lt_succ_of_lt hlt), Heap.get?_push_ne _ _ _ (Nat.ne_of_lt hlt)]
    exact hb
  · refine ⟨by rw [List.length_map, a2.length_eq, hl]; exact hz, out.toList, e, vals_ints a1, ?_⟩
    rw [he]
end
/-- two rising orders of the same numbers are one -/
theorem rising_eq {xs ys : List Int} (p : xs.Perm ys) (hx : xs.Pairwise (· ≤ ·)) (hy : ys.Pairwise (· ≤ ·)) : xs = ys :=
  p.eq_of_pairwise (fun a b _ _ h1 h2 => Int.le_antisymm h1 h2) hx hy
/-! ### ==, != of things that are the same through and through -/
inductive Deep (K : PySem.W.Frag) (H : Hp) : Nat → V → V → Prop
  | flat {n : Nat} {x : V} : flatV x = true → Deep K H n x x
  | lst {n : Nat} {a b : Addr} {xs ys : List V} : SqL K H a xs → SqL K H b ys → xs.length = ys.length → (∀ j (h1 : j < xs.length) (h2 : j < ys.length), Deep K H n xs[j] ys[j]) → Deep K H (n + 1) (.ref a) (.ref b)
  | tup {n : Nat} {a b : Addr} {xs ys : List V} : SqT K H a xs → SqT K H b ys → xs.length = ys.length → (∀ j (h1 : j < xs.length) (h2 : j < ys.length), Deep K H n xs[j] ys[j]) → Deep K H (n + 1) (.ref a) (.ref b)
theorem eqV_id {v : V} (h : flatV v = true) : eqV v v = true := by
  cases v with
  | non => rfl
  | bl b => cases b <;> rfl
  | int n => simp [eqV]
  | str z => simp [eqV]
  | _ => exact absurd (show false = true from h) Bool.false_ne_true
theorem all_true (l : List Nat) : (l.all fun _ => true) = true := List.all_eq_true.mpr fun _ _ => rfl
theorem Deep.eqAt {X : Cx} {pins : List (Addr × Obj)} {σ : St} {H : Hp} {s : Shared} (I : Inv X pins σ H s) {n : Nat} {x y : V} (d : Deep X.K H n x y) : ∀ {A : Around} {u v : Value}, RelV x u → RelV y v → A.units + n < cLine → SeqAt.EqAt A s u v true := by
  induction d with
  | flat h =>
    intro A u v rx ry hu
    have := eqAt_V (A := A) (s := s) rx ry h h
    rw [eqV_id h] at this
    exact this
  | @lst n a b xs ys ha hb hl hd ih =>
    intro A u v rx ry hu
    cases rx
    cases ry
    by_cases e : a = b
    · subst e
      exact SeqAt.EqAt.same _
    · refine SeqAt.EqAt.of_refs e ?_
      obtain ⟨vs, r1, ⟨o1, n1, e1, c1, _, g1⟩, _⟩ := I.list ha
      obtain ⟨ws, r2, ⟨o2, n2, e2, c2, _, g2⟩, _⟩ := I.list hb
      have l1 := r1.length
      have l2 := r2.length
      have := SeqAt.RcAt.lists (A := A) (s := s) (e := fun _ => true) ⟨o1, e1, c1, n1, g1⟩ ⟨o2, e2, c2, n2, g2⟩ (by simp only [List.size_toArray]; omega) (by omega) (fun j h1 h2 => by
        simp only [List.size_toArray] at h1 h2
        obtain ⟨w1, z1, rz1⟩ := r1.get (i := j) (x := xs[j]'(by omega)) (List.getElem?_eq_getElem (by omega))
        obtain ⟨w2, z2, rz2⟩ := r2.get (i := j) (x := ys[j]'(by omega)) (List.getElem?_eq_getElem (by omega))
        have a1 : vs.toArray[j] = w1 := by
          have := (List.getElem?_eq_some_iff.mp z1).2
          simpa using this
        have a2 : ws.toArray[j] = w2 := by
          have := (List.getElem?_eq_some_iff.mp z2).2
          simpa using this
        rw [a1, a2]
        exact ih j (by omega) (by omega) rz1 rz2 (by rw [Around.in1_units]; omega))
      rw [all_true] at this
      exact this
  | @tup n a b xs ys ha hb hl hd ih =>
    intro A u v rx ry hu
    cases rx
    cases ry
    by_cases e : a = b
    · subst e
      exact SeqAt.EqAt.same _
    · refine SeqAt.EqAt.of_refs e ?_
      obtain ⟨vs, r1, t1, _⟩ := I.tuple ha
      obtain ⟨ws, r2, t2, _⟩ := I.tuple hb
      have l1 := r1.length
      have l2 := r2.length
      have hs : vs.length = ws.length := by omega
      have := SeqAt.RcAt.tuples (A := A) (s := s) (e := fun _ => true) t1 t2 (by omega) (fun j h1 h2 => by
        simp only [List.size_toArray] at h1 h2
        obtain ⟨w1, z1, rz1⟩ := r1.get (i := j) (x := xs[j]'(by omega)) (List.getElem?_eq_getElem (by omega))
        obtain ⟨w2, z2, rz2⟩ := r2.get (i := j) (x := ys[j]'(by omega)) (List.getElem?_eq_getElem (by omega))
        have a1 : vs.toArray[j] = w1 := by
          have := (List.getElem?_eq_some_iff.mp z1).2
          simpa using this
        have a2 : ws.toArray[j] = w2 := by
          have := (List.getElem?_eq_some_iff.mp z2).2
          simpa using this
        rw [a1, a2]
        exact ih j (by omega) (by omega) rz1 rz2 (by rw [Around.in1_units]; omega))
      rw [all_true] at this
      simpa [hs] using this
def rNeD (K : PySem.W.Frag) (n : Nat) : R2 := fun x y H Q => ∃ a b xs ys, x = .ref a ∧ y = .ref b ∧ SqL K H a xs ∧ SqL K H b ys ∧ xs.length = ys.length ∧ (∀ j (h1 : j < xs.length) (h2 : j < ys.length), Deep K H n xs[j] ys[j]) ∧ Q (.bl false) H
section
variable {X : Cx}
theorem op_neD {n : Nat} (hu : X.A.units + n + 1 < cLine) : OpR X (compareOp .NotEq) (rNeD X.K n) := by
  rintro pins s σ H x y v u Q I rx ry ⟨a, b, xs, ys, rfl, rfl, ha, hb, hl, hd, q⟩
  cases rx
  cases ry
  obtain ⟨vs, r1, ⟨o1, n1, e1, c1, _, g1⟩, _⟩ := I.list ha
  obtain ⟨ws, r2, ⟨o2, n2, e2, c2, _, g2⟩, _⟩ := I.list hb
  have l1 := r1.length
  have l2 := r2.length
  refine SeqAt.RcNeAt.lists (e := fun _ => true) ⟨o1, e1, c1, n1, g1⟩ ⟨o2, e2, c2, n2, g2⟩ (by simp only [List.size_toArray]; omega) (by omega) (fun j h1 h2 => ?_) _ _ _ _ ⟨.bl false, H, I, by simp [RelV], q⟩
  simp only [List.size_toArray] at h1 h2
  obtain ⟨w1, z1, rz1⟩ := r1.get (i := j) (x := xs[j]'(by omega)) (List.getElem?_eq_getElem (by omega))
  obtain ⟨w2, z2, rz2⟩ := r2.get (i := j) (x := ys[j]'(by omega)) (List.getElem?_eq_getElem (by omega))
  have a1 : vs.toArray[j] = w1 := by
    have := (List.getElem?_eq_some_iff.mp z1).2
    simpa using this
  have a2 : ws.toArray[j] = w2 := by
    have := (List.getElem?_eq_some_iff.mp z2).2
    simpa using this
  rw [a1, a2]
  exact (hd j (by omega) (by omega)).eqAt I rz1 rz2 (by rw [Around.in1_units]; omega)
/-- a list == [] -/
def rEq0 (K : PySem.W.Frag) : R2 := fun x y H Q => ∃ a b xs, x = .ref a ∧ y = .ref b ∧ SqL K H a xs ∧ SqL K H b [] ∧ Q (.bl xs.isEmpty) H
theorem op_eq0 (hu : X.A.units < cLine) : OpR X (compareOp .Eq) (rEq0 X.K) := by
  rintro pins s σ H x y v u Q I rx ry ⟨a, b, xs, rfl, rfl, ha, hb, q⟩
  cases rx
  cases ry
  obtain ⟨vs, r1, ⟨o1, n1, e1, c1, _, g1⟩, _⟩ := I.list ha
  obtain ⟨ws, r2, ⟨o2, n2, e2, c2, _, g2⟩, _⟩ := I.list hb
  have l1 := r1.length
  have l2 := r2.length
  rw [List.length_nil] at l2
  cases xs with
  | nil =>
    rw [List.length_nil] at l1
    refine SeqAt.eq_listAt (e := fun _ => true) ⟨o1, e1, c1, n1, g1⟩ ⟨o2, e2, c2, n2, g2⟩ (by simp only [List.size_toArray]; omega) hu (fun j h1 h2 => ?_) ⟨.bl true, H, I, by simp [RelV], q⟩
    simp only [List.size_toArray] at h1
    omega
  | cons z zs =>
    rw [List.length_cons] at l1
    refine SeqAt.eq_list_lengthsAt ⟨o1, e1, c1, n1, g1⟩ ⟨o2, e2, c2, n2, g2⟩ ?_ hu ⟨.bl false, H, I, rfl, q⟩
    simp only [List.size_toArray, bne_iff_ne, ne_eq]
    omega
end
end L2
end
section
set_option Elab.async false
set_option linter.all false
set_option maxRecDepth 100000
set_option maxHeartbeats 4000000
namespace L2
open PySem PySem.Spec PyProof.Rows LX
section
variable {X : Cx} {tg : Expr}
/-- a statement from which no exception leaves -/
theorem PS.nox {st : Stmt} {t : TS} (h : PS X.nox st t) : PS X st t := fun pins s σ H D I hw =>
  wpAny_mono (h pins s σ H D (I.wish _) hw) (fun _ _ q => q.unwish) fun _ _ z => False.elim z
/-! ### range(a, b, c), c a written positive number -/
/-- lo, lo + c, .. (n of them) -/
def Itc (lo c : Int) (n : Nat) : It := ⟨fun i _ => i < n, fun i H x H' => H' = H ∧ x = .int (lo + i * c), fun i _ => n ≤ i⟩
theorem turn_rangeC {P : Program} {w : World} {K : PySem.W.Frag} {tg : Expr} (it : Addr) (lo c : Int) (n : Nat) : Turn P w K tg (Itc lo c n) [it] it (fun i h => IsRangeIter h it (lo + (i : Nat) * c) ((n : Int) - (i : Nat)) c) where
  mem := by simp
  obj := fun i h st b hb => by
    have e : b = it := by simpa using hb
    subst e
    exact ⟨_, st, fun v z => by
      have z' : Data.fields _ = Data.cell v := z
      cases z'⟩
  keep := fun i h h' st k => k it (by simp) _ st
  item := by
    intro X hP hw hK hc i pins s σ H E I hf st hg
    subst hP hw hK
    obtain ⟨f0, f1, f2, f3, f4, f5⟩ := hf it (by simp)
    have W := Walks.range (prog := X.prog) (w := X.w) (I.ok.hd hc) it lo c n
    refine W.item i s _ _ hg st fun v h' tk hv st' kk => ?_
    obtain ⟨t, rfl⟩ := hv
    have I1 : Inv X pins σ H { s with heap := h', toks := tk } := I.turned (fun b o hb e => kk b o (by simpa using hb) e) f0 f1 f3 f4 f5
    exact ⟨_, rfl, go_of (s := { s with heap := h', toks := tk }) (n := "range_iterator") st' rfl rfl (by decide) ⟨.int (lo + i * c), H, I1, ⟨t, rfl⟩, ⟨rfl, rfl⟩, st', fun b hb => (hf b hb).1⟩⟩
  done := by
    intro X hP hw hK hc i pins s σ H E I hf st hg
    subst hP hw hK
    obtain ⟨f0, f1, f2, f3, f4, f5⟩ := hf it (by simp)
    exact wpAny_pyNext_range_end (I.ok.hd hc) st (by have : n ≤ i := hg; omega) fun h' eb => ⟨rfl, I.turned (t' := s.toks) (fun b o hb e => eb b o hb e) f0 f1 f3 f4 f5⟩
  self := fun _ _ _ _ _ st h => wpAny_pyIter_rangeiter st h
/-- how many -/
def manyC (lo hi c : Int) : Nat := if lo < hi then ((hi - lo - 1) / c + 1).toNat else 0
def iRng3 (ta : TA) : TI := fun σ H R => ta σ H fun vs H1 => ∃ i j c : Int, vs = [.int i, .int j, .int c] ∧ (0 ≤ i ∧ i < 100000 ∧ 0 ≤ j ∧ j < 100000) ∧ 0 < c ∧ c < 100000 ∧ R (Itc i c (manyC i j c)) H1
theorem pi_range3 {a b d : Expr} {ta : TA} {p pos : Pos} (hg : Gl X "range") (hm : X.mg "range" = none) (ha : PA X [a, b, d] ta) (hs : starEach [a, b, d] X.env = [(false, eval a X.env), (false, eval b X.env), (false, eval d X.env)] := by rfl)
    (hs2 : starEach [b, d] X.env = [(false, eval b X.env), (false, eval d X.env)] := by rfl) : PI X tg (.Call (.Name "range" p) [a, b, d] [] pos) (iRng3 ta) := by
  intro pins s σ H R I h
  refine Call_ (ld_blt I hg hm boot_range (PyProof.Rows.callWith_type1 (thn (ha pos pins s σ H _ I h) fun us s1 ⟨vs, H1, I1, r1, q1⟩ => ?_) (by rw [hs, hs2]) (by rw [hs2]; rfl)))
  obtain ⟨i, j, c, e, ⟨q1, q2, q3, q4⟩, q5, q6, q⟩ := q1
  subst e
  cases r1 with
  | cons r rr =>
    cases rr with
    | cons r' rr =>
      cases rr with
      | cons r'' rr =>
        cases rr
        obtain ⟨t, rfl⟩ := r
        obtain ⟨t', rfl⟩ := r'
        obtain ⟨t'', rfl⟩ := r''
        have esz : Builtin.Range.rangeSize i j c = (manyC i j c : Int) := by
          unfold Builtin.Range.rangeSize manyC
          rw [if_pos q5]
          split
          · have : 0 ≤ (j - i - 1) / c := Int.ediv_nonneg (by omega) (by omega)
            omega
          · rfl
        have lsz : (manyC i j c : Int) ≤ 100000 := by
          rw [← esz]
          unfold Builtin.Range.rangeSize
          rw [if_pos q5]
          split
          · have h1 : 0 ≤ (j - i - 1) / c := Int.ediv_nonneg (by omega) (by omega)
            have h2 : (j - i - 1) / c ≤ j - i - 1 := Int.ediv_le_self _ (by omega)
            omega
          · omega
        refine call_range_3 (by omega) ?_ (Or.inl (PyProof.noPylong_small (by omega)))
        refine wpAny_pyIter_range (IsRange.new ..) ?_ ?_
        · unfold Builtin.Range.small
          rw [esz]
          simp only [Builtin.Range.rangeFitsLong, Bool.and_eq_true, Bool.or_eq_true, decide_eq_true_eq, beq_iff_eq, if_pos q5]
          have h3 : i + (manyC i j c : Int) * c < 2 ^ 62 := by
            have : (manyC i j c : Int) * c ≤ 100000 * 100000 := Int.mul_le_mul lsz (by omega) (by omega) (by omega)
            omega
          have h4 : 0 ≤ (manyC i j c : Int) * c := Int.mul_nonneg (by omega) (by omega)
          omega
        have I2 : Inv X pins σ H1 { s1 with heap := s1.heap.push { cls := .type "range", data := .fields #[.int i t, .int j t', .int c t''] }, toks := s1.toks } := I1.kept fun b o e => Heap.get?_push_of_some _ e
        refine ⟨(s1.heap.push { cls := .type "range", data := .fields #[.int i t, .int j t', .int c t''] }).objs.size, [(s1.heap.push { cls := .type "range", data := .fields #[.int i t, .int j t', .int c t''] }).objs.size], _, _, H1, rfl,
          I2.kept (t' := s1.toks) fun b o e => Heap.get?_push_of_some _ e, turn_rangeC _ i c (manyC i j c), ?_, fun b hb => ?_, q⟩
        · have e1 : i + ((0 : Nat) : Int) * c = i := by simp
          show IsRangeIter _ _ (i + ((0 : Nat) : Int) * c) (((manyC i j c : Nat) : Int) - ((0 : Nat) : Int)) c
          rw [e1, show ((manyC i j c : Nat) : Int) - ((0 : Nat) : Int) = Builtin.Range.rangeSize i j c by rw [esz]; omega]
          exact Heap.get?_push_size _ rfl
        · have e : b = (s1.heap.push { cls := .type "range", data := .fields #[.int i t, .int j t', .int c t''] }).objs.size := by simpa using hb
          subst e
          exact I2.fpOk (Nat.le_refl _) (I2.hok.fresh (Nat.le_refl _))
theorem for_rangeC {lo c : Int} {n : Nat} {g : TG} {tb : TS} {D : Ends} {σ : St} {H : Hp} (Pv : Nat → St → Hp → Prop) (h0 : Pv 0 σ H)
    (hs : ∀ i σ H, i < n → Pv i σ H → g (.int (lo + i * c)) σ H fun σ2 H2 => tb { D with nx := Pv (i + 1), ct := Pv (i + 1), bk := D.nx } σ2 H2) (hd : ∀ σ H, Pv n σ H → D.nx σ H) :
    ∃ W : Nat → Nat → St → Hp → Prop, (∃ m, W 0 m σ H) ∧ ∀ i m σ H, W i m σ H →
      ((Itc lo c n).stop i H ∧ D.nx σ H) ∨ ((Itc lo c n).go i H ∧ ∃ N : St → Hp → Prop, (∀ σ' H', N σ' H' → ∃ m', m' < m ∧ W (i + 1) m' σ' H') ∧ ∀ x H', (Itc lo c n).yld i H x H' → g x σ H' fun σ2 H2 => tb { D with nx := N, ct := N, bk := D.nx } σ2 H2) := by
  refine ⟨fun i m σ H => m = n - i ∧ i ≤ n ∧ Pv i σ H, ⟨n, by simp, Nat.zero_le _, h0⟩, ?_⟩
  rintro i m σ H ⟨rfl, hi, p⟩
  by_cases hlt : i < n
  · refine .inr ⟨hlt, Pv (i + 1), fun σ' H' p' => ⟨n - (i + 1), by omega, rfl, hlt, p'⟩, fun x H' y => ?_⟩
    obtain ⟨e, y⟩ := y
    subst e y
    exact hs i σ _ hlt p
  · have e : i = n := by omega
    subst e
    exact .inl ⟨Nat.le_refl _, hd σ H p⟩
end
end L2
end
section
set_option Elab.async false
set_option linter.all false
set_option maxRecDepth 100000
set_option maxHeartbeats 4000000
namespace L2
open PySem PySem.Spec PyProof.Rows LX
section
variable {X : Cx} {scope : Scope} {cl : List (Str × Addr)} {x : Str} {idx : List Nat} {NC : List Str} {pins : List (Addr × Obj)} {σ : St} {H : Hp} {s : Shared}
/-! ### name = [comprehension with one test] -/
theorem ps_compT {i : Nat} {y : Str} {elt iter ct : Expr} {px py pos spos : Pos} {wi : TI} {tc : TT} {te : TE} (hN : X.N.Nodup) (hi' : X.N[i]? = some y) (hx : X.env.scope.names.lookup y = some .local) (c : CompOk X scope cl x idx NC) (hc : X.calm = true) (hi : PI X (.Name x px) iter wi)
    (ht : ∀ C fp s₀ H₀, PT (cxC X scope cl NC C fp s₀ H₀) ct tc) (he : ∀ C fp s₀ H₀, PE (cxC X scope cl NC C fp s₀ H₀) elt te) (hsw : swapsWith (.ListComp elt [⟨.Name x px, iter, [ct], 0⟩] scope pos) (some (.Name y py)) spos.line X.env = pure true := by rfl)
    (hs : ∀ x, foldedSetIterable iter X.env x = pure x := by intro _; rfl) : PS X (.Assign [.Name y py] (.ListComp elt [⟨.Name x px, iter, [ct], 0⟩] scope pos) spos) (tAsg (tCompT wi idx tc te) (gName i)) := by
  intro pins s σ H D0 I h
  rw [exec_Assign_Name_used _ _ _ _ hsw]
  refine wpAny_bind (wpAny_standAt (wpAny_bind ?_))
  show wpAny _ _ (do let _ ← comprehension (.ListComp elt [⟨.Name x px, iter, [ct], 0⟩] scope pos) scope X.env _ (newList []) false (eval iter X.env) (some (assign (.Name y py) X.env))) _ _ s
  refine wpAny_bind (wpAny_mono (wpAny_comprehension_free (use := some (assign (.Name y py) X.env)) (Q := fun _ s' => SP X pins D0 .next s') rfl hs c.clos c.kind c.loc
    (thn (hi pins s σ H _ I h) fun v s1 h1 => thn h1 fun itv s2 h2 => ?_)) (fun _ s' hq => wpAny_pure (wpAny_pure hq)) fun _ _ e => e)
  obtain ⟨it, fp, tn, J, H2, rfl, I2, T, st2, f2, q⟩ := h2
  refine wpAny_newObj_type (wpAny_newFunctionEnv c.nocell (by intro y hy; simp at hy) (fun h₁ hns₁ hsb₁ => ?_) c.kind)
  dsimp only at hns₁ hsb₁ ⊢
  have I3 : Inv X pins σ (upd H2 s2.heap.objs.size (.lst [])) { s2 with heap := s2.heap.push { cls := .type "list", data := .seq ([] : List Value).toArray }, toks := s2.toks } := I2.lnew (ys := []) (its := []) .nil (Nat.zero_le _)
  obtain ⟨W, ⟨m0, w0⟩, turn⟩ := q s2.heap.objs.size I2.fresh
  generalize hD : s2.heap.objs.size = D at *
  generalize hH : s2.heap.push { cls := .type "list", data := .seq ([] : List Value).toArray } = h3 at *
  have hlt2 : ∀ b ∈ fp, b < D := fun b hb => by
    obtain ⟨o, e, _⟩ := T.obj _ _ st2 b hb
    rw [← hD]
    exact Heap.lt_size e
  have hlt : ∀ b ∈ fp, b < h3.objs.size := fun b hb => by
    rw [← hH, Heap.size_push, hD]
    exact Nat.lt_succ_of_lt (hlt2 b hb)
  have hf : ∀ b ∈ fp, FpOk X pins (upd H2 D (.lst [])) b := fun b hb => ⟨by rw [upd_ne (Nat.ne_of_lt (hlt2 b hb))]; exact (f2 b hb).1, (f2 b hb).2⟩
  have kp : ∀ b o, h3.get? b = some o → h₁.get? b = some o := fun b o e => hsb₁.extBut b o (Nat.ne_of_lt (Heap.lt_size e)) (Heap.get?_push_of_some _ e)
  have I4 : Inv (cxC X scope cl NC h3.objs.size fp { s2 with heap := h3, toks := s2.toks } (upd H2 D (.lst []))) [] (none :: caps σ idx) (upd H2 D (.lst [])) { s2 with heap := h₁, toks := s2.toks + ([] : List (Str × Value)).length } :=
    inv_comp (s := { s2 with heap := h3, toks := s2.toks }) c I3 hf hlt hns₁ kp
  have stat : ∀ {H' : Hp}, (∀ b ∈ fp, H' b = none) → ∀ b ∈ fp, FpOk (cxC X scope cl NC h3.objs.size fp { s2 with heap := h3, toks := s2.toks } (upd H2 D (.lst []))) [] H' b := fun hn b hb =>
    ⟨hn b hb, Nat.ne_of_lt (hlt b hb), fun z => (List.mem_cons.mp (I3.stkSub b z)).elim (hf b hb).2.1 (hf b hb).2.2.1, .inl hb, fun y a q => (hf b hb).2.2.2.2.1 y a (c.sub _ _ q), fun p hp => (by cases hp)⟩
  have st1 : tn 0 h₁ := T.keep 0 _ _ st2 fun b hb o e => kp b o (by rw [← hH]; exact Heap.get?_push_of_some _ e)
  have loop : ∀ s4 : Shared, s4 = { s2 with heap := h₁, toks := s2.toks + ([] : List (Str × Value)).length } →
      codeAny (model X.prog X.w) X.A (.compLoop (.ListComp elt [⟨.Name x px, iter, [ct], 0⟩] scope pos) 0 (.ref it) (.ref D) (compEnvC scope cl h3.objs.size X.env)) (compPost (model X.prog X.w) X.A X.xe (some (assign (.Name y py) X.env)) (fun _ s' => SP X pins D0 .next s') (.ref D) h3.objs.size) s4 := by
    rintro s4 rfl
    refine compLoop_test (fun n s' => ∃ i ys H' v0, Inv (cxC X scope cl NC h3.objs.size fp { s2 with heap := h3, toks := s2.toks } (upd H2 D (.lst []))) [] (v0 :: caps σ idx) H' s' ∧ tn i s'.heap ∧ (∀ b ∈ fp, H' b = none) ∧ W i n ys H')
      ?_ m0 ⟨0, [], _, none, I4, st1, fun b hb => (hf b hb).1, w0⟩
    rintro n s5 ⟨i5, ys, H5, v0, I5, st5, fr5, w5⟩
    obtain ⟨hDl, alt⟩ := turn i5 n ys H5 w5
    rcases alt with ⟨stop, qn⟩ | ⟨go, hz, N, hN', step⟩
    · refine thn (T.done (cxC X scope cl NC h3.objs.size fp { s2 with heap := h3, toks := s2.toks } (upd H2 D (.lst []))) rfl rfl rfl hc i5 [] s5 _ H5 _ I5 (stat fr5) st5 stop) fun r s6 ⟨hr, I6⟩ => ?_
      subst hr
      obtain ⟨m, ns6, _⟩ := id I6.loc
      have J6 : Inv X pins σ H5 s6 := I3.call' (ch := fp) I6.os I6.base I6.hok I6.bare fun b hb => ⟨(hf b hb).2.2.2.1, (hf b hb).2.1, (hf b hb).2.2.2.2.1, (hf b hb).2.2.2.2.2⟩
      have fC : FpOk X pins H5 h3.objs.size := I3.fpOk (Nat.le_refl _) I6.free
      obtain ⟨o, es, ep, ho, rr⟩ := ns6
      have od : ∀ v, o.data ≠ .cell v := fun v z => by
        rw [rr.1] at z
        cases z
      show wpAny _ _ (assign (.Name y py) X.env (.ref D)) (fun _ s'' => ∃ m, s''.heap.Ns h3.objs.size m ∧ ∀ h', Heap.SameBut h3.objs.size s''.heap h' → SP X pins D0 .next { s'' with heap := h' }) X.xe s6
      have J7 := J6.pinned (fp := [h3.objs.size]) (fun b hb => by rw [List.mem_singleton.mp hb]; exact fC) (fun b hb => by rw [List.mem_singleton.mp hb]; exact ⟨o, ho, od⟩)
      refine wpAny_mono (pg_name (pos := py) hN hi' (.inl hx) (.inr hx) _ s6 _ H5 (.ref D) (.ref D) D0.nx J7 rfl qn) (fun _ s7 ⟨σ7, H7, I7, q7⟩ => ?_) (fun _ _ z => z)
      have pC := I7.pin (h3.objs.size, o) (List.mem_append_right _ (List.mem_append_right _ (mem_pinsAt (List.mem_singleton.mpr rfl) ho)))
      refine ⟨m, ⟨o, es, ep, pC.1, rr⟩, fun h' hs' => ⟨σ7, H7, ?_, q7⟩⟩
      exact I7.unpinned.turned (t' := s7.toks) (it := h3.objs.size) (fun b o hb e => hs'.extBut b o hb e) pC.2.1 fC.2.1 fC.2.2.2.1 fC.2.2.2.2.1 fC.2.2.2.2.2
    · refine thn (T.item (cxC X scope cl NC h3.objs.size fp { s2 with heap := h3, toks := s2.toks } (upd H2 D (.lst []))) rfl rfl rfl hc i5 [] s5 _ H5 _ I5 (stat fr5) st5 go) fun r s6 ⟨u, hr, h6⟩ => ?_
      subst hr
      refine thn h6 fun _ s7 ⟨y, H7, I7, r7, y7, st7, fr7⟩ => ?_
      have I7' := I7.pinned (stat fr7) (T.obj _ _ st7)
      have hnl : (relabel scope X.env).names.lookup x = some .local := lookup_relabel_local c.xl
      refine wpAny_mono (pg_name (X := cxC X scope cl NC h3.objs.size fp { s2 with heap := h3, toks := s2.toks } (upd H2 D (.lst []))) (i := 0) (x := x) (pos := px) c.nd (by show NC[0]? = some x; rw [c.nc]; rfl) (.inl hnl) (.inr hnl) _ s7 _ H7 y u
        (fun σ' H' => σ' = some y :: caps σ idx ∧ H' = H7) I7' r7 ⟨rfl, rfl⟩) (fun _ s8 ⟨σ8, H8, I8, e8, e8'⟩ => ?_) fun _ _ z => z.elim
      subst e8 e8'
      refine wpAny_mono (ht _ _ _ _ _ s8 _ H8 _ I8 (step y H8 y7)) (fun bb s11 ⟨H11, I11, q11⟩ => ?_) fun _ _ z => z.elim
      have fin : ∀ {H12 : Hp} {s12 : Shared} {zs : List V} {m' : Nat}, Inv (cxC X scope cl NC h3.objs.size fp { s2 with heap := h3, toks := s2.toks } (upd H2 D (.lst []))) ([] ++ pinsAt fp s7.heap) (some y :: caps σ idx) H12 s12 → m' < n → W (i5 + 1) m' zs H12 →
          ∃ m, m < n ∧ ∃ i ys H' v0, Inv (cxC X scope cl NC h3.objs.size fp { s2 with heap := h3, toks := s2.toks } (upd H2 D (.lst []))) [] (v0 :: caps σ idx) H' s12 ∧ tn i s12.heap ∧ (∀ b ∈ fp, H' b = none) ∧ W i m ys H' := fun {H12 s12 zs m'} I12 hm w12 => by
        refine ⟨m', hm, i5 + 1, zs, _, some y, I12.unpinned, T.keep _ _ _ st7 fun b hb o e => (I12.pin (b, o) (List.mem_append_right _ (List.mem_append_right _ (mem_pinsAt hb e)))).1, fun b hb => ?_, w12⟩
        obtain ⟨o, e, d⟩ := T.obj _ _ st7 b hb
        exact (I12.pin (b, o) (List.mem_append_right _ (List.mem_append_right _ (mem_pinsAt hb e)))).2.1
      cases bb with
      | false =>
        obtain ⟨m', hm, w9⟩ := hN' _ _ q11
        exact fin I11 hm w9
      | true =>
        refine wpAny_mono (he _ _ _ _ _ s11 _ H11 _ I11 q11) (fun w s9 ⟨v, H9, I9, r9, hD9, n9⟩ => ?_) fun _ _ z => z.elim
        obtain ⟨m', hm, w9⟩ := hN' _ _ n9
        refine wpAny_mono (appended (X := (cxC X scope cl NC h3.objs.size fp { s2 with heap := h3, toks := s2.toks } (upd H2 D (.lst [])))) I9 hD9 hz r9) (fun _ s10 I10 => ?_) fun _ _ z => z.elim
        exact fin I10 hm w9
  exact codeAny_compStart_list (loop _ rfl) (T.self _ 0 _ _ _ st1 (loop _ rfl))
/-- the list at D grows by an item where the test holds -/
def CompToT (J : It) (D : Addr) (τ : St) (tc : TT) (te : TE) (Q : VK) (H : Hp) : Prop := ∃ W : Nat → Nat → List V → Hp → Prop, (∃ m, W 0 m [] H) ∧ ∀ i m ys H2, W i m ys H2 → H2 D = some (.lst ys) ∧
  ((J.stop i H2 ∧ Q (.ref D) H2) ∨ (J.go i H2 ∧ ys.length < sizeLine ∧ ∃ N : List V → Hp → Prop, (∀ zs H', N zs H' → ∃ m', m' < m ∧ W (i + 1) m' zs H') ∧ ∀ y H3, J.yld i H2 y H3 → tc (some y :: τ) H3 fun b H4 => if b = true then te (some y :: τ) H4 fun v H5 => H5 D = some (.lst ys) ∧ N (ys ++ [v]) (upd H5 D (.lst (ys ++ [v])))
    else N ys H4))
def tCompU (wi : TI) (idx : List Nat) (tc : TT) (te : TE) : TE := fun σ H Q => wi σ H fun J H1 => ∀ D, H1 D = none → CompToT J D (caps σ idx) tc te Q (upd H1 D (.lst []))
theorem ps_compU {i : Nat} {y : Str} {elt iter ct : Expr} {px py pos spos : Pos} {wi : TI} {tc : TT} {te : TE} (hN : X.N.Nodup) (hi' : X.N[i]? = some y) (hx : X.env.scope.names.lookup y = some .local) (c : CompOk X scope cl x idx NC) (hc : X.calm = true) (hi : PI X (.Name x px) iter wi)
    (ht : ∀ C fp s₀ H₀, PT (cxC X scope cl NC C fp s₀ H₀) ct tc) (he : ∀ C fp s₀ H₀, PE (cxC X scope cl NC C fp s₀ H₀) elt te) (hsw : swapsWith (.ListComp elt [⟨.Name x px, iter, [ct], 0⟩] scope pos) (some (.Name y py)) spos.line X.env = pure true := by rfl)
    (hs : ∀ x, foldedSetIterable iter X.env x = pure x := by intro _; rfl) : PS X (.Assign [.Name y py] (.ListComp elt [⟨.Name x px, iter, [ct], 0⟩] scope pos) spos) (tAsg (tCompU wi idx tc te) (gName i)) :=
  ps_compT hN hi' hx c hc hi ht he hsw hs
end
/-! ### a comprehension with a test over a range -/
theorem compT_range {lo : Int} {n : Nat} {tc : TT} {te : TE} {Q : VK} {D : Addr} {τ : St} {H : Hp} (Pv : Nat → List V → Hp → Prop) (h0 : Pv 0 [] H) (hD : ∀ i ys H, i ≤ n → Pv i ys H → H D = some (.lst ys) ∧ ys.length ≤ i) (hn : n ≤ sizeLine)
    (hs : ∀ i ys H, i < n → Pv i ys H → tc (some (.int (lo + i)) :: τ) H fun b H4 => if b = true then te (some (.int (lo + i)) :: τ) H4 fun v H5 => H5 D = some (.lst ys) ∧ Pv (i + 1) (ys ++ [v]) (upd H5 D (.lst (ys ++ [v]))) else Pv (i + 1) ys H4)
    (hd : ∀ ys H, Pv n ys H → Q (.ref D) H) :
    CompToT (Itr lo n) D τ tc te Q H := by
  refine ⟨fun i m ys H => m = n - i ∧ i ≤ n ∧ Pv i ys H, ⟨n, by simp, Nat.zero_le _, h0⟩, ?_⟩
  rintro i m ys H2 ⟨rfl, hi, p⟩
  obtain ⟨d1, d2⟩ := hD i ys H2 hi p
  refine ⟨d1, ?_⟩
  by_cases hlt : i < n
  · refine .inr ⟨hlt, by omega, Pv (i + 1), fun zs H' p' => ⟨n - (i + 1), by omega, rfl, hlt, p'⟩, fun y H3 q => ?_⟩
    obtain ⟨e, q⟩ := q
    subst e q
    exact hs i ys _ hlt p
  · have e : i = n := by omega
    subst e
    exact .inl ⟨Nat.le_refl _, hd ys H2 p⟩
end L2
end
section
set_option Elab.async false
set_option linter.all false
set_option maxRecDepth 100000
set_option maxHeartbeats 4000000
set_option exponentiation.threshold 4000
namespace K61
open PySem L2 LX
def top (i : Nat) : Stmt := PySem.Challenge.pw_stillheap_k61_boxes.main.body.getD i (.Pass ⟨0, 0, 0, 0⟩)
abbrev sXI : Stmt := inClass (top 2) 0
abbrev sKind : Stmt := top 6
abbrev sLay : Stmt := top 8
abbrev sThing : Stmt := top 10
abbrev sPutF : Stmt := top 11
abbrev sFAt : Stmt := top 12
abbrev sTold : Stmt := top 13
abbrev sAddr : Stmt := top 14
abbrev sRoom : Stmt := top 15
abbrev sMI : Stmt := inClass (top 17) 0
abbrev sSize : Stmt := inClass (top 17) 1
abbrev sAt : Stmt := inClass (top 17) 2
abbrev sPut : Stmt := inClass (top 17) 3
abbrev sCopy : Stmt := inClass (top 17) 4
abbrev sLk : Stmt := inClass (top 17) 5
abbrev sB0 : Stmt := inClass (top 20) 0
abbrev sB1 : Stmt := inClass (top 20) 1
abbrev sB2 : Stmt := inClass (top 20) 2
abbrev sB3 : Stmt := inClass (top 20) 3
abbrev sB4 : Stmt := inClass (top 20) 4
abbrev sB5 : Stmt := inClass (top 20) 5
abbrev sB6 : Stmt := inClass (top 20) 6
abbrev sB7 : Stmt := inClass (top 20) 7
abbrev sB8 : Stmt := inClass (top 20) 8
abbrev sCell : Stmt := top 22
abbrev sWords : Stmt := top 23
abbrev sLTold : Stmt := top 24
abbrev sLAlike : Stmt := top 25
abbrev sLaid : Stmt := top 26
abbrev sLAddr : Stmt := top 27
abbrev sOne : Stmt := top 28
abbrev sLaw : Stmt := top 29
/-- what the text has -/
structure Txt (K : PySem.W.Frag) (mg : Str → Option Value) (CH d0 dR fXI : Addr) : Prop where
  h : ∃ cd, XCls K CH cd
  mH : mg "HeapError" = some (.ref CH)
  m0 : mg "BadAddress" = some (.ref d0)
  mR : mg "NoRoom" = some (.ref dR)
  c0 : ErrC K d0
  cR : ErrC K dR
  mx0 : MkX K d0 fXI
  mxR : MkX K dR fXI
  f0R : PySem.W.kitOne K (.ref d0) (.ref dR) = some false
  fR0 : PySem.W.kitOne K (.ref dR) (.ref d0) = some false
  sub0 : ∃ cd, XCls K d0 cd ∧ cd.mro.contains (.ref CH) = true
  subR : ∃ cd, XCls K dR cd ∧ cd.mro.contains (.ref CH) = true
  z_ValueError : mg "ValueError" = none
  z_isinstance : mg "isinstance" = none
  z_list : mg "list" = none
  z_bool : mg "bool" = none
  z_int : mg "int" = none
  z_len : mg "len" = none
  z_range : mg "range" = none
  z_sorted : mg "sorted" = none
  z_enumerate : mg "enumerate" = none
section
variable {P : Program} {w : World} {K : PySem.W.Frag} {mg : Str → Option Value} {base : Heap} {CH d0 dR fXI : Addr}
theorem scXI : FnScope ["self", "text"] ["self", "text"] (defScope sXI) := ⟨rfl, rfl, rfl, by decide +kernel, rfl, by decide +kernel, by decide +kernel⟩
theorem ok_xi {f : Addr} {fd : FuncData} (F : Fun K "__init__" "HeapError.__init__" sXI f fd) (hve : mg "ValueError" = none) : FnOk P w K mg base (CXE P w) 1 f fd ["self", "text"] (spXI K) := by
  refine F.okE scXI (fun vs H Q E h => ?_) (fun cdv A outer s H vs Q E hr h => ?_)
  · obtain ⟨ea, C, od, x, rfl, _⟩ := h
    rfl
  · obtain ⟨ea, C, od, x, rfl, h1, hc, k⟩ := h
    refine ⟨_, pss_one (ps_expr (pe_ve rfl hve (pa_cons (pv 0) (pa_cons (pv 1) pa_nil)))), ?_⟩
    exact ⟨_, rfl, _, rfl, ea, C, od, [x], rfl, (by show 1 ≤ 1000; decide), h1, hc, k⟩

/-- the class Memory: attributes and methods -/
structure MemC (K : PySem.W.Frag) (CM fMI fSz fAt fPut fCp fLk : Addr) : Prop where
  c : Cls K CM
  n : NoAttr K CM "cells"
  mke : Mk K CM fMI
  sz : Meth K CM "size" fSz
  at_ : Meth K CM "at" fAt
  pt : Meth K CM "put" fPut
  cp : Meth K CM "copy_of" fCp
  lk : Meth K CM "look_at_address" fLk
/-- the memory at m with the words xs, kept at c -/
def Mem (CM : Addr) (H : Hp) (m c dx : Addr) (xs : List V) : Prop := H m = some (.ins CM dx [("cells", .ref c)]) ∧ H c = some (.lst xs)
variable {CM fMI fSz fAt fPut fCp fLk : Addr}
def spLk (CM BA : Addr) : Sp := fun vs H Q E => ∃ m c dx xs, ∃ a : Int, vs = [.ref m, .int a] ∧ Mem CM H m c dx xs ∧ a.natAbs.log2 < 1920 ∧ (if 0 ≤ a ∧ a < xs.length then Q .non H else ∀ H', Same H H' → E (.ref BA) none H')
theorem scLk : FnScope ["self", "a"] ["self", "a"] (defScope sLk) := ⟨rfl, rfl, rfl, by decide +kernel, rfl, by decide +kernel, by decide +kernel⟩
theorem ok_lk {f : Addr} {fd fdX : FuncData} (F : Fun K "look_at_address" "Memory.look_at_address" sLk f fd) (T : Txt K mg CH d0 dR fXI) (M : MemC K CM fMI fSz fAt fPut fCp fLk) (GX : FnOk P w K mg base (CXE P w) 1 fXI fdX ["self", "text"] (spXI K)) (bX : Binds K fdX ["self", "text"] []) :
    FnOk P w K mg base (CXE P w) 3 f fd ["self", "a"] (spLk CM d0) := by
  refine F.okE scLk (fun vs H Q E h => ?_) (fun cdv A outer s H vs Q E hr h => ?_)
  · obtain ⟨m, c, dx, xs, a, rfl, _⟩ := h
    rfl
  · obtain ⟨m, c, dx, xs, a, rfl, ⟨hm, hc⟩, hb, k⟩ := h
    refine ⟨_, pss_one (ps_if (pt_not (pt_chain op_le op_lt pe_int (pv 1) (pe_callB call_len_seq rfl T.z_len PyProof.Rows.Boot.«len» (pa_cons (pe_fld (pv 0) rfl) pa_nil))))
        (pss_one (ps_raise rfl raiseE (xe_err T.mx0 GX hr rfl T.m0 bX (Passes.x (passE fun _ _ _ q => q)) (pa_cons (pe_fstr (pfs_cons pf_text (pfs_cons (pf_num (pv 1)) pfs_nil))) pa_nil)))) pss_nil), ?_⟩
    have out : ¬ (0 ≤ a ∧ a < xs.length) → ∀ {D : Ends}, tRaise H K E (xErr d0 (spXI K) (fun _ => E) (tCons (tFstr (tParts tText (tParts (tNum (tVar 1)) tText))) tNil)) D (L2.start ["self", "a"] [V.ref m, V.int a]) H := fun hn {D} => by
      rw [if_neg hn] at k
      refine ⟨_, rfl, a, rfl, hb, fun y hy ea hea => ⟨ea, d0, none, .str y, rfl, upd_same, T.c0.cls, rfl, ea, d0, none, rfl, upd_same, T.c0.cls, hea, k _ fun b o q => ?_⟩⟩
      have nb : b ≠ ea := fun e => by rw [e, hea] at q; cases q
      rw [del_ne nb, upd_ne nb]
      exact q
    refine ⟨.int a, rfl, 0, a, rfl, rfl, _, rfl, ite2 (fun h1 => ⟨_, rfl, m, CM, dx, _, .ref c, rfl, hm, M.c, M.n, rfl, c, xs, rfl, .inl (SqL.of hc), a, xs.length, rfl, rfl, _, rfl, ite2 (fun h2 => out ?_) (fun h2 => ?_)⟩) (fun h1 => ⟨_, rfl, iteT (out ?_)⟩)⟩
    · simp only [Bool.not_eq_true', decide_eq_false_iff_not] at h2
      exact fun g => h2 g.2
    · simp only [Bool.not_eq_true', decide_eq_false_iff_not, Decidable.not_not] at h2
      simp only [decide_eq_true_eq] at h1
      rw [if_pos ⟨h1, h2⟩] at k
      exact k
    · simp only [decide_eq_true_eq] at h1
      exact fun g => h1 g.1
/-- at -/
def spAt (CM BA : Addr) : Sp := fun vs H Q E => ∃ m c dx xs, ∃ a : Int, vs = [.ref m, .int a] ∧ Mem CM H m c dx xs ∧ a.natAbs.log2 < 1920 ∧ (if 0 ≤ a ∧ a < xs.length then ∀ v, xs[a.toNat]? = some v → Q v H else ∀ H', Same H H' → E (.ref BA) none H')
theorem at_int {xs : List V} {a : Int} {v : V} (h0 : 0 ≤ a) (h : xs[a.toNat]? = some v) : atI xs a = some v := by
  have e : a = (a.toNat : Int) := by omega
  rw [e]
  exact atI_nat h
theorem ok_at {f : Addr} {fd fdL : FuncData} (F : Fun K "at" "Memory.at" sAt f fd) (T : Txt K mg CH d0 dR fXI) (M : MemC K CM fMI fSz fAt fPut fCp fLk) (GL : FnOk P w K mg base (CXE P w) 3 fLk fdL ["self", "a"] (spLk CM d0)) (bL : Binds K fdL ["self", "a"] []) :
    FnOk P w K mg base (CXE P w) 4 f fd ["self", "a"] (spAt CM d0) := by
  refine F.okE (N := ["self", "a"]) ⟨rfl, rfl, rfl, by decide +kernel, rfl, by decide +kernel, by decide +kernel⟩ (fun vs H Q E h => ?_) (fun cdv A outer s H vs Q E hr h => ?_)
  · obtain ⟨m, c, dx, xs, a, rfl, _⟩ := h
    rfl
  · obtain ⟨m, c, dx, xs, a, rfl, ⟨hm, hc⟩, hb, k⟩ := h
    refine ⟨_, pss_cons (ps_expr (xe_meth (pv 0) M.c M.lk GL hr bL .nil (Passes.x (passE fun _ _ _ q => q)) (pa_cons (pv 1) pa_nil))) (pss_one (ps_ret (pe_ix ix_list (pe_fld (pv 0) rfl) (pv 1) (fun _ _ => rfl)))), ?_⟩
    refine ⟨_, rfl, m, dx, _, rfl, hm, rfl, _, rfl, m, c, dx, xs, a, rfl, ⟨hm, hc⟩, hb, ?_⟩
    by_cases g : 0 ≤ a ∧ a < xs.length
    · rw [if_pos g] at k ⊢
      have hl : a.toNat < xs.length := by omega
      exact ⟨_, rfl, m, CM, dx, _, .ref c, rfl, hm, M.c, M.n, rfl, _, rfl, c, xs, a, _, rfl, rfl, SqL.of hc, at_int g.1 (List.getElem?_eq_getElem hl), k _ (List.getElem?_eq_getElem hl)⟩
    · rw [if_neg g] at k ⊢
      exact k
/-- put -/
def spPut (CM BA : Addr) : Sp := fun vs H Q E => ∃ m c dx xs v, ∃ a : Int, vs = [.ref m, .int a, v] ∧ Mem CM H m c dx xs ∧ a.natAbs.log2 < 1920 ∧ (if 0 ≤ a ∧ a < xs.length then Q .non (upd H c (.lst (xs.set a.toNat v))) else ∀ H', Same H H' → E (.ref BA) none H')
theorem ok_put {f : Addr} {fd fdL : FuncData} (F : Fun K "put" "Memory.put" sPut f fd) (T : Txt K mg CH d0 dR fXI) (M : MemC K CM fMI fSz fAt fPut fCp fLk) (GL : FnOk P w K mg base (CXE P w) 3 fLk fdL ["self", "a"] (spLk CM d0)) (bL : Binds K fdL ["self", "a"] []) :
    FnOk P w K mg base (CXE P w) 4 f fd ["self", "a", "word"] (spPut CM d0) := by
  refine F.okE (N := ["self", "a", "word"]) ⟨rfl, rfl, rfl, by decide +kernel, rfl, by decide +kernel, by decide +kernel⟩ (fun vs H Q E h => ?_) (fun cdv A outer s H vs Q E hr h => ?_)
  · obtain ⟨m, c, dx, xs, v, a, rfl, _⟩ := h
    rfl
  · obtain ⟨m, c, dx, xs, v, a, rfl, ⟨hm, hc⟩, hb, k⟩ := h
    refine ⟨_, pss_cons (ps_expr (xe_meth (pv 0) M.c M.lk GL hr bL .nil (Passes.x (passE fun _ _ _ q => q)) (pa_cons (pv 1) pa_nil))) (pss_one (ps_asg (pv 2) (pg_sub (pe_fld (pv 0) rfl) (pv 1) set_list))), ?_⟩
    refine ⟨_, rfl, m, dx, _, rfl, hm, rfl, _, rfl, m, c, dx, xs, a, rfl, ⟨hm, hc⟩, hb, ?_⟩
    by_cases g : 0 ≤ a ∧ a < xs.length
    · rw [if_pos g] at k ⊢
      refine ⟨_, rfl, _, rfl, m, CM, dx, _, .ref c, rfl, hm, M.c, M.n, rfl, _, rfl, c, xs, a, a.toNat, rfl, rfl, hc, ?_, k⟩
      unfold ixN
      rw [if_pos g.1, if_pos g.2]
    · rw [if_neg g] at k ⊢
      exact k
/-- size -/
def spSize (CM : Addr) : Sp := fun vs H Q _ => ∃ m c dx xs, vs = [.ref m] ∧ Mem CM H m c dx xs ∧ Q (.int xs.length) H
theorem ok_size {f : Addr} {fd : FuncData} (F : Fun K "size" "Memory.size" sSize f fd) (T : Txt K mg CH d0 dR fXI) (M : MemC K CM fMI fSz fAt fPut fCp fLk) : FnOk P w K mg base (CXE P w) 1 f fd ["self"] (spSize CM) := by
  refine F.okE (N := ["self"]) ⟨rfl, rfl, rfl, by decide +kernel, rfl, by decide +kernel, by decide +kernel⟩ (fun vs H Q E h => ?_) (fun cdv A outer s H vs Q E hr h => ?_)
  · obtain ⟨m, c, dx, xs, rfl, _⟩ := h
    rfl
  · obtain ⟨m, c, dx, xs, rfl, ⟨hm, hc⟩, k⟩ := h
    refine ⟨_, pss_one (ps_ret (pe_callB call_len_seq rfl T.z_len PyProof.Rows.Boot.«len» (pa_cons (pe_fld (pv 0) rfl) pa_nil))), ?_⟩
    exact ⟨_, rfl, m, CM, dx, _, .ref c, rfl, hm, M.c, M.n, rfl, c, xs, rfl, .inl (SqL.of hc), k⟩
/-- all but the thing at m stays -/
def But (m : Addr) (H H' : Hp) : Prop := ∀ b u, b ≠ m → H b = some u → H' b = some u
theorem But.upd {m a : Addr} {H : Hp} {o : HO} (h : H a = none) : But m H (upd H a o) := fun b u _ q => by rw [upd_ne (ne_of_none q h)]; exact q
theorem But.self {m : Addr} {H : Hp} {o : HO} : But m H (L2.upd H m o) := fun b u n q => by rw [upd_ne n]; exact q
theorem But.trans {m : Addr} {H H1 H2 : Hp} (a : But m H H1) (b : But m H1 H2) : But m H H2 := fun c u n q => b c u n (a c u n q)
def spMI (CM : Addr) : Sp := fun vs H Q _ => ∃ m dx, ∃ n : Int, vs = [.ref m, .int n] ∧ H m = some (.ins CM dx []) ∧ 0 ≤ n ∧ n ≤ 1000 ∧
  ∀ c H', But m H H' → H c = none → H' c = some (.lst (List.replicate n.toNat .non)) → H' m = some (.ins CM dx [("cells", .ref c)]) → Q .non H'
theorem rep_one (k : Nat) : (List.replicate k [V.non]).flatten = List.replicate k .non := by
  induction k with
  | zero => rfl
  | succ k ih => rw [List.replicate_succ, List.flatten_cons, ih, List.replicate_succ]; rfl
theorem ok_mi {f : Addr} {fd : FuncData} (F : Fun K "__init__" "Memory.__init__" sMI f fd) (M : MemC K CM fMI fSz fAt fPut fCp fLk) : FnOk P w K mg base (CXE P w) 1 f fd ["self", "size"] (spMI CM) := by
  refine F.okE (N := ["self", "size"]) ⟨rfl, rfl, rfl, by decide +kernel, rfl, by decide +kernel, by decide +kernel⟩ (fun vs H Q E h => ?_) (fun cdv A outer s H vs Q E hr h => ?_)
  · obtain ⟨m, dx, n, rfl, _⟩ := h
    rfl
  · obtain ⟨m, dx, n, rfl, hm, h0, h1, k⟩ := h
    refine ⟨_, pss_one (ps_fld (pv 0) (pe_op op_rep (pe_lst (pa_cons pe_non pa_nil)) (pv 1)) rfl), ?_⟩
    refine ⟨by show 1 ≤ sizeLine; decide, fun p hp => ⟨_, rfl, p, n, _, rfl, rfl, upd_same, by omega, by omega, ?_, fun q hq => ?_⟩⟩
    · show 1 * n.toNat ≤ sizeLine
      exact Nat.le_trans (show 1 * n.toNat ≤ 1000 by omega) (by decide)
    have np : m ≠ p := ne_of_none hm hp
    have hm1 : upd H p (.lst [.non]) m = some (.ins CM dx []) := by rw [upd_ne np]; exact hm
    have nq : m ≠ q := ne_of_none hm1 hq
    have qp : q ≠ p := fun e => by rw [e, upd_same] at hq; cases hq
    have hq0 : H q = none := by rw [upd_ne qp] at hq; exact hq
    refine ⟨_, rfl, m, CM, dx, [], rfl, (by rw [upd_ne nq]; exact hm1), M.c, M.n, by decide, ?_⟩
    refine k q _ (((But.upd hp).trans (But.upd hq)).trans But.self) hq0 ?_ upd_same
    rw [upd_ne (Ne.symm nq), upd_same, rep_one]
/-- copy_of: another memory with the same words -/
def spCp (CM : Addr) : Sp := fun vs H Q _ => ∃ m c dx xs, vs = [.ref m] ∧ Mem CM H m c dx xs ∧ xs.length ≤ 1000 ∧ ∀ o c' dx' H', Same H H' → H c' = none → H o = none → c' ≠ o → Mem CM H' o c' dx' xs → Q (.ref o) H'
theorem ok_cp {f : Addr} {fd fdI : FuncData} (F : Fun K "copy_of" "Memory.copy_of" sCopy f fd) (T : Txt K mg CH d0 dR fXI) (M : MemC K CM fMI fSz fAt fPut fCp fLk) (mM : mg "Memory" = some (.ref CM)) (GI : FnOk P w K mg base (CXE P w) 1 fMI fdI ["self", "size"] (spMI CM)) (bI : Binds K fdI ["self", "size"] []) :
    FnOk P w K mg base (CXE P w) 3 f fd ["self"] (spCp CM) := by
  refine F.okE (N := ["self", "other"]) ⟨rfl, rfl, rfl, by decide +kernel, rfl, by decide +kernel, by decide +kernel⟩ (fun vs H Q E h => ?_) (fun cdv A outer s H vs Q E hr h => ?_)
  · obtain ⟨m, c, dx, xs, rfl, _⟩ := h
    rfl
  · obtain ⟨m, c, dx, xs, rfl, ⟨hm, hc⟩, hz, k⟩ := h
    refine ⟨_, pss_cons (ps_set (i := 1) (show (["self", "other"] : List Str).Nodup by decide +kernel) rfl (Or.inl rfl) (pe_make M.mke GI hr rfl mM bI .nil (passE fun _ _ _ q => q) (pa_cons (pe_callB call_len_seq rfl T.z_len PyProof.Rows.Boot.«len» (pa_cons (pe_fld (pv 0) rfl) pa_nil)) pa_nil)))
      (pss_cons (ps_fld (pv 1) (pe_callTy call_list_of rfl T.z_list PyProof.Rows.Boot.«list» (pa_cons (pe_fld (pv 0) rfl) pa_nil)) rfl) (pss_one (ps_ret (pv 1)))), ?_⟩
    refine ⟨_, rfl, m, CM, dx, _, .ref c, rfl, hm, M.c, M.n, rfl, c, xs, rfl, .inl (SqL.of hc), fun o dx' ho hdx nd => ?_⟩
    have n1 : m ≠ o := ne_of_none hm ho
    have n2 : m ≠ dx' := ne_of_none hm hdx
    have n3 : c ≠ o := ne_of_none hc ho
    have n4 : c ≠ dx' := ne_of_none hc hdx
    refine ⟨o, dx', (xs.length : Int), rfl, upd_same, by omega, by omega, fun c1 H1 b1 hn1 hc1 ho1 => ⟨rfl, ?_⟩⟩
    have sm : Same H H1 := fun b u q => b1 b u (ne_of_none q ho) (by rw [upd_ne (ne_of_none q ho), upd_ne (ne_of_none q hdx)]; exact q)
    refine ⟨_, rfl, m, CM, dx, _, .ref c, rfl, sm _ _ hm, M.c, M.n, rfl, c, xs, rfl, .inl (SqL.of (sm _ _ hc)), fun l hl => ?_⟩
    have no : o ≠ l := ne_of_none ho1 hl
    have hlH : H l = none := by
      cases q : H l with
      | none => rfl
      | some u => rw [sm _ _ q] at hl; cases hl
    refine ⟨_, rfl, o, CM, dx', _, rfl, (by rw [upd_ne no]; exact ho1), M.c, M.n, by show 1 < 1000; decide, _, rfl, ?_⟩
    refine k o l dx' _ (fun b u q => ?_) hlH ho (Ne.symm no) ⟨upd_same, by rw [upd_ne (Ne.symm no)]; exact upd_same⟩
    rw [upd_ne (ne_of_none q ho), upd_ne (ne_of_none q hlH)]
    exact sm b u q
end
/-- a word's content -/
inductive Wc where
  | no
  | num (n : Int)
  | ad (a : Int)
  | hd (t n : Int)
def Wc.its : Wc → List V
  | .no => []
  | .num n => [.str "number", .int n]
  | .ad a => [.str "at", .int a]
  | .hd t n => [.str "head", .int t, .int n]
def Wc.kind : Wc → Str
  | .no => "none"
  | .num _ => "number"
  | .ad _ => "at"
  | .hd _ _ => "head"
def WV (H : Hp) (v : V) : Wc → Prop
  | .no => v = .non
  | .num n => ∃ t, v = .ref t ∧ H t = some (.tup (Wc.its (.num n)))
  | .ad a => ∃ t, v = .ref t ∧ H t = some (.tup (Wc.its (.ad a)))
  | .hd t' n => ∃ t, v = .ref t ∧ H t = some (.tup (Wc.its (.hd t' n)))
theorem WV.cases {H : Hp} {v : V} {w : Wc} (h : WV H v w) : (w = .no ∧ v = .non) ∨ ∃ t, v = .ref t ∧ H t = some (.tup w.its) := by
  cases w with
  | no => exact .inl ⟨rfl, h⟩
  | num n => exact .inr h
  | ad a => exact .inr h
  | hd t n => exact .inr h
theorem WV.keep {H H' : Hp} {v : V} {w : Wc} (h : WV H v w) (s : ∀ t us, H t = some (.tup us) → H' t = some (.tup us)) : WV H' v w := by
  cases w with
  | no => exact h
  | num n => obtain ⟨t, e, q⟩ := h; exact ⟨t, e, s _ _ q⟩
  | ad a => obtain ⟨t, e, q⟩ := h; exact ⟨t, e, s _ _ q⟩
  | hd t' n => obtain ⟨t, e, q⟩ := h; exact ⟨t, e, s _ _ q⟩
/-- tuples stay -/
def Tups (H H' : Hp) : Prop := ∀ t us, H t = some (.tup us) → H' t = some (.tup us)
theorem Tups.of {H H' : Hp} (s : Same H H') : Tups H H' := fun t us q => s _ _ q
theorem Tups.trans {H H1 H2 : Hp} (a : Tups H H1) (b : Tups H1 H2) : Tups H H2 := fun t us q => b t us (a t us q)
theorem Tups.set {H : Hp} {c : Addr} {xs : List V} {o : HO} (h : H c = some (.lst xs)) : Tups H (upd H c o) := fun t us q => by
  rw [upd_ne (ne_of q h (by intro z; cases z))]
  exact q
/-- words and their contents -/
def Rel (H : Hp) (xs : List V) (ws : List Wc) : Prop := xs.length = ws.length ∧ ∀ (i : Nat) (v : V) (w : Wc), xs[i]? = some v → ws[i]? = some w → WV H v w
theorem Rel.keep {H H' : Hp} {xs : List V} {ws : List Wc} (h : Rel H xs ws) (s : Tups H H') : Rel H' xs ws := ⟨h.1, fun i v w a b => (h.2 i v w a b).keep s⟩
theorem Rel.set {H : Hp} {xs : List V} {ws : List Wc} {i : Nat} {v : V} {w : Wc} (h : Rel H xs ws) (hv : WV H v w) : Rel H (xs.set i v) (ws.set i w) := by
  refine ⟨by rw [List.length_set, List.length_set]; exact h.1, fun j u y a b => ?_⟩
  by_cases e : i = j
  · subst e
    rw [List.getElem?_set] at a b
    simp only [if_true] at a b
    split at a
    · split at b
      · cases a; cases b; exact hv
      · cases b
    · cases a
  · rw [List.getElem?_set_ne e] at a b
    exact h.2 j u y a b
def Good (N : Nat) (ws : List Wc) : Prop := ws.length = N ∧ ∀ w ∈ ws, ∀ t n, w = .hd t n → 0 ≤ n ∧ n ≤ 6
/-- the thing that stands at a -/
def thg (ws : List Wc) (a : Int) : Option (Int × Int) := if 0 ≤ a then (match ws[a.toNat]? with | some (.hd t n) => if a + n < ws.length then some (t, n) else none | _ => none) else none
theorem thg_some {ws : List Wc} {a t n : Int} (h : thg ws a = some (t, n)) : 0 ≤ a ∧ ws[a.toNat]? = some (.hd t n) ∧ a + n < ws.length := by
  unfold thg at h
  split at h
  · rename_i h0
    split at h
    · rename_i t' n' e
      split at h
      · rename_i hl
        cases h
        exact ⟨h0, e, hl⟩
      · cases h
    · cases h
  · cases h
theorem thg_none {ws : List Wc} {a : Int} (h : thg ws a = none) (h0 : 0 ≤ a) {t n : Int} (e : ws[a.toNat]? = some (.hd t n)) : ws.length ≤ a + n := by
  unfold thg at h
  rw [if_pos h0, e] at h
  simp only at h
  split at h
  · cases h
  · omega
section
variable {N : Nat} {P : Program} {w : World} {K : PySem.W.Frag} {mg : Str → Option Value} {base : Heap} {CH d0 dR fXI : Addr} {CM fMI fSz fAt fPut fCp fLk : Addr}
structure MW (CM : Addr) (N : Nat) (H : Hp) (m c dx : Addr) (xs : List V) (ws : List Wc) : Prop where
  mem : Mem CM H m c dx xs
  rel : Rel H xs ws
  good : Good N ws
  big : N ≤ 100
theorem MW.len {H : Hp} {m c dx : Addr} {xs : List V} {ws : List Wc} (h : MW CM N H m c dx xs ws) : xs.length = N := h.rel.1.trans h.good.1
theorem MW.at_ {H : Hp} {m c dx : Addr} {xs : List V} {ws : List Wc} (h : MW CM N H m c dx xs ws) {a : Int} (h0 : 0 ≤ a) (h1 : a < N) : ∃ v wd, xs[a.toNat]? = some v ∧ ws[a.toNat]? = some wd ∧ WV H v wd := by
  have hx : a.toNat < xs.length := by rw [h.len]; omega
  have hw : a.toNat < ws.length := by rw [h.good.1]; omega
  exact ⟨_, _, List.getElem?_eq_getElem hx, List.getElem?_eq_getElem hw, h.rel.2 _ _ _ (List.getElem?_eq_getElem hx) (List.getElem?_eq_getElem hw)⟩
theorem MW.hd {H : Hp} {m c dx : Addr} {xs : List V} {ws : List Wc} (h : MW CM N H m c dx xs ws) {i : Nat} {t n : Int} (e : ws[i]? = some (.hd t n)) : 0 ≤ n ∧ n ≤ 6 := h.good.2 _ (List.mem_of_getElem? e) t n rfl
theorem MW.same {H H' : Hp} {m c dx : Addr} {xs : List V} {ws : List Wc} (h : MW CM N H m c dx xs ws) (s : Same H H') : MW CM N H' m c dx xs ws := ⟨⟨s _ _ h.mem.1, s _ _ h.mem.2⟩, h.rel.keep (Tups.of s), h.good, h.big⟩
theorem none_of_same {H H' : Hp} {b : Addr} (s : Same H H') (h : H' b = none) : H b = none := by
  cases g : H b with
  | none => rfl
  | some u => rw [s _ _ g] at h; cases h
theorem log7 {n : Int} (h0 : -1000 ≤ n) (h1 : n ≤ 1000) : n.natAbs.log2 < 1920 := log_small (Nat.lt_trans (show n.natAbs < 2000 by omega) (by decide))
/-- kind_of -/
def spKind : Sp := fun vs H Q _ => ∃ v wd, vs = [v] ∧ WV H v wd ∧ Q (.str wd.kind) H
theorem ok_kind {f : Addr} {fd : FuncData} (F : Fun K "kind_of" "kind_of" sKind f fd) : FnOk P w K mg base (CXE P w) 1 f fd ["value"] spKind := by
  refine F.okE (N := ["value"]) ⟨rfl, rfl, rfl, by decide +kernel, rfl, by decide +kernel, by decide +kernel⟩ (fun vs H Q E h => ?_) (fun cdv A outer s H vs Q E hr h => ?_)
  · obtain ⟨v, wd, rfl, _⟩ := h
    rfl
  · obtain ⟨v, wd, rfl, hv, k⟩ := h
    refine ⟨_, pss_one (ps_ret (pe_ifExp (pt_cmpR op_isN (pv 0) pe_non (nomark _)) pe_str (pe_ix ix_tup (pv 0) pe_int (fun _ _ => rfl)))), ?_⟩
    rcases hv.cases with ⟨rfl, rfl⟩ | ⟨t, rfl, ht⟩
    · exact ⟨_, rfl, rfl, _, rfl, ite2 (fun _ => k) (fun h => by simp at h)⟩
    · refine ⟨_, rfl, rfl, _, rfl, ite2 (fun h => by simp at h) (fun _ => ?_)⟩
      cases wd with
      | no => cases (show V.ref t = V.non from hv)
      | num n => exact ⟨_, rfl, t, _, 0, _, rfl, rfl, SqT.of ht, rfl, k⟩
      | ad a => exact ⟨_, rfl, t, _, 0, _, rfl, rfl, SqT.of ht, rfl, k⟩
      | hd t' n => exact ⟨_, rfl, t, _, 0, _, rfl, rfl, SqT.of ht, rfl, k⟩
/-- look_at_room -/
def spRoom (CM BA : Addr) : Sp := fun vs H Q E => ∃ m c dx xs, ∃ a n : Int, vs = [.ref m, .int a, .int n] ∧ Mem CM H m c dx xs ∧ a.natAbs.log2 < 1920 ∧ n.natAbs.log2 < 1920 ∧ (if a < 0 ∨ (xs.length : Int) ≤ a + n then ∀ H', Same H H' → E (.ref BA) none H' else Q .non H)
theorem ok_room {f : Addr} {fd fdX fdfSz : FuncData} (F : Fun K "look_at_room" "look_at_room" sRoom f fd) (T : Txt K mg CH d0 dR fXI) (M : MemC K CM fMI fSz fAt fPut fCp fLk) (GX : FnOk P w K mg base (CXE P w) 1 fXI fdX ["self", "text"] (spXI K)) (bX : Binds K fdX ["self", "text"] []) (GfSz : FnOk P w K mg base (CXE P w) 1 fSz fdfSz ["self"] (spSize CM)) (bfSz : Binds K fdfSz ["self"] []) : FnOk P w K mg base (CXE P w) 3 f fd ["memory", "a", "fields"] (spRoom CM d0) := by
  refine F.okE (N := ["memory", "a", "fields"]) ⟨rfl, rfl, rfl, by decide +kernel, rfl, by decide +kernel, by decide +kernel⟩ (fun vs H Q E h => ?_) (fun cdv A outer s H vs Q E hr h => ?_)
  · obtain ⟨m, c, dx, xs, a, n, rfl, _⟩ := h
    rfl
  · obtain ⟨m, c, dx, xs, a, n, rfl, ⟨hm, hc⟩, ha, hn, k⟩ := h
    refine ⟨_, pss_one (ps_if (PW.pt (pw_or (pt_cmpR op_lt (pv 1) pe_int (nomark _)) (pw_or1 (pt_cmpR op_ge (pe_op op_add (pv 1) (pv 2)) (xe_meth0 (pv 0) M.c M.sz GfSz (hr.mono (by decide)) bfSz .nil (Passes.x (passE fun _ _ _ q => q))) (nomark _))))) (pss_one (ps_raise rfl raiseE (xe_err T.mx0 GX (hr.mono (by decide)) rfl T.m0 bX (Passes.x (passE fun _ _ _ q => q)) (pa_cons (pe_fstr (pfs_cons pf_text (pfs_cons (pf_num (pv 2)) (pfs_cons pf_text (pfs_cons (pf_num (pv 1)) pfs_nil))))) pa_nil)))) pss_nil), ?_⟩
    refine ⟨_, rfl, a, 0, rfl, rfl, _, rfl, ite2 (fun h => ?_) (fun h => ?_)⟩
    · simp only [decide_eq_true_eq] at h
      rw [if_pos (.inl h)] at k
      refine iteT ?_
      exact ⟨_, rfl, n, rfl, hn, _, rfl, a, rfl, ha, fun y hy ea hea => ⟨ea, d0, none, .str y, rfl, upd_same, T.c0.cls, rfl, ea, d0, none, rfl, upd_same, T.c0.cls, hea, k _ (fun b o q => (by have nb : b ≠ ea := (fun e => by rw [e, hea] at q; cases q); rw [del_ne nb, upd_ne nb]; exact q))⟩⟩
    · simp only [decide_eq_true_eq] at h
      refine ⟨_, rfl, _, rfl, a, n, rfl, rfl, _, rfl, m, dx, _, rfl, hm, rfl, m, c, dx, xs, rfl, ⟨hm, hc⟩, _, _, rfl, rfl, _, rfl, ite2 (fun g => ?_) (fun g => ?_)⟩
      · simp only [decide_eq_true_eq] at g
        rw [if_pos (.inr g)] at k
        exact ⟨_, rfl, n, rfl, hn, _, rfl, a, rfl, ha, fun y hy ea hea => ⟨ea, d0, none, .str y, rfl, upd_same, T.c0.cls, rfl, ea, d0, none, rfl, upd_same, T.c0.cls, hea, k _ (fun b o q => (by have nb : b ≠ ea := (fun e => by rw [e, hea] at q; cases q); rw [del_ne nb, upd_ne nb]; exact q))⟩⟩
      · simp only [decide_eq_true_eq] at g
        rw [if_neg (fun z => z.elim h (fun z => g z))] at k
        exact k

/-- fields_told, for heads -/
def spTold (K : PySem.W.Frag) (CM BA : Addr) : Sp := fun vs H Q E => ∃ N m c dx xs ws ks, ∃ a : Int, vs = [.ref m, .int a, .ref ks] ∧ SqT K H ks [.str "head"] ∧ MW CM N H m c dx xs ws ∧ a.natAbs.log2 < 1920 ∧ (match thg ws a with | some p => Q (.int p.2) H | none => ∀ H', Same H H' → E (.ref BA) none H')
theorem scTo : FnScope ["memory", "a", "kinds", "word"] ["memory", "a", "kinds"] (defScope sTold) := ⟨rfl, rfl, rfl, by decide +kernel, rfl, by decide +kernel, by decide +kernel⟩
theorem ok_told {f fK fR : Addr} {fd fdX fdfAt fdfK fdfR : FuncData} (F : Fun K "fields_told" "fields_told" sTold f fd) (T : Txt K mg CH d0 dR fXI) (M : MemC K CM fMI fSz fAt fPut fCp fLk) (GX : FnOk P w K mg base (CXE P w) 1 fXI fdX ["self", "text"] (spXI K)) (bX : Binds K fdX ["self", "text"] []) (GfAt : FnOk P w K mg base (CXE P w) 4 fAt fdfAt ["self", "a"] (spAt CM d0)) (bfAt : Binds K fdfAt ["self", "a"] []) (GfK : FnOk P w K mg base (CXE P w) 1 fK fdfK ["value"] spKind) (mfK : mg "kind_of" = some (.ref fK)) (kfK : PySem.W.keepIn K (.ref fK) = true) (bfK : Binds K fdfK ["value"] []) (GfR : FnOk P w K mg base (CXE P w) 3 fR fdfR ["memory", "a", "fields"] (spRoom CM d0)) (mfR : mg "look_at_room" = some (.ref fR)) (kfR : PySem.W.keepIn K (.ref fR) = true) (bfR : Binds K fdfR ["memory", "a", "fields"] []) : FnOk P w K mg base (CXE P w) 5 f fd ["memory", "a", "kinds"] (spTold K CM d0) := by
  refine F.okE scTo (fun vs H Q E h => ?_) (fun cdv A outer s H vs Q E hr h => ?_)
  · obtain ⟨N, m, c, dx, xs, ws, ks, a, rfl, _⟩ := h
    rfl
  · obtain ⟨N, m, c, dx, xs, ws, ks, a, rfl, hks, W, ha, k⟩ := h
    refine ⟨_, pss_cons (ps_set (i := 3) scTo.nd rfl (Or.inl rfl) (xe_meth (pv 0) M.c M.at_ GfAt hr bfAt .nil (Passes.x (passE fun _ _ _ q => q)) (pa_cons (pv 1) pa_nil)))
      (pss_cons (ps_if (PW.pt (pw_or (pt_cmpR op_notIn_seq (xe_call GfK (hr.mono (by decide)) rfl mfK kfK bfK .nil (Passes.x (passE fun _ _ _ q => q)) (pa_cons (pv 3) pa_nil)) (pv 2) (by with_unfolding_all rfl)) (pw_or1 (pt_cmpR op_lt (pe_ix ix_tup (pv 3) pe_int (fun _ _ => rfl)) pe_int (nomark _))))) (pss_one (ps_raise rfl raiseE (xe_err T.mx0 GX (hr.mono (by decide)) rfl T.m0 bX (Passes.x (passE fun _ _ _ q => q)) (pa_cons (pe_fstr (pfs_cons pf_text (pfs_cons (pf_num (pv 1)) pfs_nil))) pa_nil)))) pss_nil)
      (pss_cons (ps_expr (xe_call GfR (hr.mono (by decide)) rfl mfR kfR bfR .nil (Passes.x (passE fun _ _ _ q => q)) (pa_cons (pv 0) (pa_cons (pv 1) (pa_cons (pe_ix ix_tup (pv 3) pe_int (fun _ _ => rfl)) pa_nil)))))
      (pss_one (ps_ret (pe_ix ix_tup (pv 3) pe_int (fun _ _ => rfl)))))), ?_⟩
    refine ⟨_, rfl, m, dx, _, rfl, W.mem.1, rfl, _, rfl, m, c, dx, xs, a, rfl, W.mem, ha, ?_⟩
    by_cases g : 0 ≤ a ∧ a < xs.length
    · rw [if_pos g]
      intro v hv
      have g1 : a < N := by have := g.2; rw [W.len] at this; exact this
      obtain ⟨v', wd, hv', hw, wv⟩ := W.at_ g.1 g1
      rw [hv] at hv'
      cases hv'
      refine ⟨_, rfl, v, wd, rfl, wv, _, rfl, ks, _, rfl, .inr hks, rfl, rfl, _, rfl, ?_⟩
      cases wd with
      | no =>
        have kn : thg ws a = none := by unfold thg; rw [if_pos g.1, hw]
        rw [kn] at k
        refine ite2 (fun _ => ⟨_, rfl, a, rfl, ha, fun y hy ea hea => ⟨ea, d0, none, .str y, rfl, upd_same, T.c0.cls, rfl, ea, d0, none, rfl, upd_same, T.c0.cls, hea, k _ (fun b o q => (by have nb : b ≠ ea := (fun e => by rw [e, hea] at q; cases q); rw [del_ne nb, upd_ne nb]; exact q))⟩⟩) (fun h => absurd (by kernel_rfl) h)
      | num n =>
        have kn : thg ws a = none := by unfold thg; rw [if_pos g.1, hw]
        rw [kn] at k
        refine ite2 (fun _ => ⟨_, rfl, a, rfl, ha, fun y hy ea hea => ⟨ea, d0, none, .str y, rfl, upd_same, T.c0.cls, rfl, ea, d0, none, rfl, upd_same, T.c0.cls, hea, k _ (fun b o q => (by have nb : b ≠ ea := (fun e => by rw [e, hea] at q; cases q); rw [del_ne nb, upd_ne nb]; exact q))⟩⟩) (fun h => absurd (by kernel_rfl) h)
      | ad n =>
        have kn : thg ws a = none := by unfold thg; rw [if_pos g.1, hw]
        rw [kn] at k
        refine ite2 (fun _ => ⟨_, rfl, a, rfl, ha, fun y hy ea hea => ⟨ea, d0, none, .str y, rfl, upd_same, T.c0.cls, rfl, ea, d0, none, rfl, upd_same, T.c0.cls, hea, k _ (fun b o q => (by have nb : b ≠ ea := (fun e => by rw [e, hea] at q; cases q); rw [del_ne nb, upd_ne nb]; exact q))⟩⟩) (fun h => absurd (by kernel_rfl) h)
      | hd t n =>
        obtain ⟨p, rfl, hp⟩ := wv
        obtain ⟨n0, n6⟩ := W.hd hw
        refine ite2 (fun h => absurd h (Bool.eq_false_iff.mp (by kernel_rfl))) (fun _ => ?_)
        refine ⟨_, rfl, p, _, 2, .int n, rfl, rfl, SqT.of hp, rfl, n, 0, rfl, rfl, _, rfl, ite2 (fun h => ?_) (fun _ => ?_)⟩
        · simp only [decide_eq_true_eq] at h
          omega
        refine ⟨_, rfl, _, rfl, _, rfl, p, _, 2, .int n, rfl, rfl, SqT.of hp, rfl, m, c, dx, xs, a, n, rfl, W.mem, ha, log7 (by omega) (by omega), ?_⟩
        cases e : thg ws a with
        | none =>
          rw [e] at k
          have := thg_none e g.1 hw
          rw [if_pos (.inr (by rw [W.rel.1]; exact this))]
          exact k
        | some q =>
          obtain ⟨t', n'⟩ := q
          rw [e] at k
          obtain ⟨_, e2, e3⟩ := thg_some e
          rw [hw] at e2
          cases e2
          rw [if_neg (fun z => z.elim (fun z => by omega) (fun z => by rw [W.rel.1] at z; omega))]
          exact ⟨_, rfl, p, _, 2, .int n, rfl, rfl, SqT.of hp, rfl, k⟩
    · rw [if_neg g]
      have kn : thg ws a = none := by
        cases e : thg ws a with
        | none => rfl
        | some q =>
          obtain ⟨t', n'⟩ := q
          obtain ⟨e1, e2, e3⟩ := thg_some e
          exact absurd ⟨e1, by have := (List.getElem?_eq_some_iff.mp e2).1; rw [W.rel.1]; omega⟩ g
      rw [kn] at k
      exact k
/-- fields_at -/
def spFAt (CM BA : Addr) : Sp := fun vs H Q E => ∃ N m c dx xs ws, ∃ a : Int, vs = [.ref m, .int a] ∧ MW CM N H m c dx xs ws ∧ a.natAbs.log2 < 1920 ∧ (match thg ws a with | some p => ∀ H', Same H H' → Q (.int p.2) H' | none => ∀ H', Same H H' → E (.ref BA) none H')
theorem ok_fat {f fTo : Addr} {fd fdfTo : FuncData} (F : Fun K "fields_at" "fields_at" sFAt f fd) (GfTo : FnOk P w K mg base (CXE P w) 5 fTo fdfTo ["memory", "a", "kinds"] (spTold K CM d0)) (mfTo : mg "fields_told" = some (.ref fTo)) (kfTo : PySem.W.keepIn K (.ref fTo) = true) (bfTo : Binds K fdfTo ["memory", "a", "kinds"] []) : FnOk P w K mg base (CXE P w) 6 f fd ["memory", "a"] (spFAt CM d0) := by
  refine F.okE (N := ["memory", "a"]) ⟨rfl, rfl, rfl, by decide +kernel, rfl, by decide +kernel, by decide +kernel⟩ (fun vs H Q E h => ?_) (fun cdv A outer s H vs Q E hr h => ?_)
  · obtain ⟨N, m, c, dx, xs, ws, a, rfl, _⟩ := h
    rfl
  · obtain ⟨N, m, c, dx, xs, ws, a, rfl, W, ha, k⟩ := h
    refine ⟨_, pss_one (ps_ret (xe_call GfTo hr rfl mfTo kfTo bfTo .nil (Passes.x (passE fun _ _ _ q => q)) (pa_cons (pv 0) (pa_cons (pv 1) (pa_cons (pe_tup (pa_cons pe_str pa_nil)) pa_nil))))), ?_⟩
    refine ⟨_, rfl, _, rfl, by show 1 ≤ sizeLine; decide, fun p hp => ⟨N, m, c, dx, xs, ws, p, a, rfl, SqT.of upd_same, W.same (Same.upd hp), ha, ?_⟩⟩
    cases e : thg ws a with
    | none => rw [e] at k; exact fun H' s' => k H' ((Same.upd hp).trans s')
    | some q => rw [e] at k; exact k _ (Same.upd hp)
/-- field_address -/
def spAddr (CM BA : Addr) : Sp := fun vs H Q E => ∃ N m c dx xs ws, ∃ a kk : Int, vs = [.ref m, .int a, .int kk] ∧ MW CM N H m c dx xs ws ∧ a.natAbs.log2 < 1920 ∧ kk.natAbs.log2 < 1920 ∧
  (match thg ws a with | some p => (if 0 ≤ kk ∧ kk < p.2 then ∀ H', Same H H' → Q (.int (a + 1 + kk)) H' else ∀ H', Same H H' → E (.ref BA) none H') | none => ∀ H', Same H H' → E (.ref BA) none H')
theorem ok_addr {f fFA : Addr} {fd fdX fdfFA : FuncData} (F : Fun K "field_address" "field_address" sAddr f fd) (T : Txt K mg CH d0 dR fXI) (GX : FnOk P w K mg base (CXE P w) 1 fXI fdX ["self", "text"] (spXI K)) (bX : Binds K fdX ["self", "text"] []) (GfFA : FnOk P w K mg base (CXE P w) 6 fFA fdfFA ["memory", "a"] (spFAt CM d0)) (mfFA : mg "fields_at" = some (.ref fFA)) (kfFA : PySem.W.keepIn K (.ref fFA) = true) (bfFA : Binds K fdfFA ["memory", "a"] []) : FnOk P w K mg base (CXE P w) 7 f fd ["memory", "a", "k"] (spAddr CM d0) := by
  refine F.okE (N := ["memory", "a", "k"]) ⟨rfl, rfl, rfl, by decide +kernel, rfl, by decide +kernel, by decide +kernel⟩ (fun vs H Q E h => ?_) (fun cdv A outer s H vs Q E hr h => ?_)
  · obtain ⟨N, m, c, dx, xs, ws, a, kk, rfl, _⟩ := h
    rfl
  · obtain ⟨N, m, c, dx, xs, ws, a, kk, rfl, W, ha, hk, k⟩ := h
    refine ⟨_, pss_cons (ps_if (pt_not (pt_chain op_le op_lt pe_int (pv 2) (xe_call GfFA hr rfl mfFA kfFA bfFA .nil (Passes.x (passE fun _ _ _ q => q)) (pa_cons (pv 0) (pa_cons (pv 1) pa_nil))))) (pss_one (ps_raise rfl raiseE (xe_err T.mx0 GX (hr.mono (by decide)) rfl T.m0 bX (Passes.x (passE fun _ _ _ q => q)) (pa_cons (pe_fstr (pfs_cons pf_text (pfs_cons (pf_num (pv 1)) (pfs_cons pf_text (pfs_cons (pf_num (pv 2)) pfs_nil))))) pa_nil)))) pss_nil)
      (pss_one (ps_ret (pe_op op_add (pe_op op_add (pv 1) pe_int) (pv 2)))), ?_⟩
    have bad : ¬ (∃ p, thg ws a = some p ∧ 0 ≤ kk ∧ kk < p.2) → ∀ H', Same H H' → E (.ref d0) none H' := fun hn => by
      cases e : thg ws a with
      | none => rw [e] at k; exact k
      | some p => rw [e] at k; simp only at k; rw [if_neg (fun z => hn ⟨p, e, z⟩)] at k; exact k
    refine ⟨.int kk, rfl, 0, kk, rfl, rfl, _, rfl, ite2 (fun h1 => ?_) (fun h1 => ⟨_, rfl, iteT ⟨_, rfl, a, rfl, ha, _, rfl, kk, rfl, hk, fun y hy ea hea => ⟨ea, d0, none, .str y, rfl, upd_same, T.c0.cls, rfl, ea, d0, none, rfl, upd_same, T.c0.cls, hea, bad (fun ⟨p, e, z1, z2⟩ => by simp only [decide_eq_true_eq] at h1; exact h1 z1) _ (fun b o q => (by have nb : b ≠ ea := (fun e => by rw [e, hea] at q; cases q); rw [del_ne nb, upd_ne nb]; exact q))⟩⟩⟩)⟩
    · simp only [decide_eq_true_eq] at h1
      refine ⟨_, rfl, _, rfl, N, m, c, dx, xs, ws, a, rfl, W, ha, ?_⟩
      cases e : thg ws a with
      | none => rw [e] at k; exact k
      | some p =>
        rw [e] at k
        simp only at k
        intro H1 s1
        refine ⟨kk, p.2, rfl, rfl, _, rfl, ite2 (fun h2 => ?_) (fun h2 => ?_)⟩
        · simp only [Bool.not_eq_true', decide_eq_false_iff_not] at h2
          rw [if_neg (fun z => h2 z.2)] at k
          exact ⟨_, rfl, a, rfl, ha, _, rfl, kk, rfl, hk, fun y hy ea hea => ⟨ea, d0, none, .str y, rfl, upd_same, T.c0.cls, rfl, ea, d0, none, rfl, upd_same, T.c0.cls, none_of_same s1 hea, k _ (fun b o q => (by replace q := s1 _ _ q; have nb : b ≠ ea := (fun e => by rw [e, hea] at q; cases q); rw [del_ne nb, upd_ne nb]; exact q))⟩⟩
        · simp only [Bool.not_eq_true', decide_eq_false_iff_not, Decidable.not_not] at h2
          rw [if_pos ⟨h1, h2⟩] at k
          exact ⟨_, rfl, a, 1, rfl, rfl, _, rfl, _, kk, rfl, rfl, k H1 s1⟩
theorem sz_len : (100 : Nat) ≤ sizeLine := by decide
theorem But.of {c : Addr} {H H' : Hp} (s : Same H H') : But c H H' := fun b u _ q => s b u q
theorem But.set {c : Addr} {H : Hp} {o : HO} : But c H (L2.upd H c o) := fun b u n q => by rw [upd_ne n]; exact q
/-- n words behind a -/
def seg (ws : List Wc) (a n : Int) : List Wc := (ws.drop (a + 1).toNat).take n.toNat
theorem seg_at {ws : List Wc} {a n : Int} {i : Nat} (h0 : 0 ≤ a) (hi : (i : Int) < n) : (seg ws a n)[i]? = ws[(a + 1 + i).toNat]? := by
  unfold seg
  rw [List.getElem?_take_of_lt (by omega), List.getElem?_drop]
  congr 1
  omega
theorem seg_len {ws : List Wc} {a n : Int} (h0 : 0 ≤ a) (hn : 0 ≤ n) (h : a + n < ws.length) : (seg ws a n).length = n.toNat := by
  unfold seg
  rw [List.length_take, List.length_drop]
  omega
/-- thing_at -/
def spThing (CM BA : Addr) : Sp := fun vs H Q E => ∃ N m c dx xs ws, ∃ a : Int, vs = [.ref m, .int a] ∧ MW CM N H m c dx xs ws ∧ a.natAbs.log2 < 1920 ∧
  (match thg ws a with | some p => ∀ q r zs H', Same H H' → H r = none → H' q = some (.tup [.int p.1, .ref r]) → H' r = some (.lst zs) → Rel H' zs (seg ws a p.2) → Q (.ref q) H' | none => ∀ H', Same H H' → E (.ref BA) none H')
theorem scTh : FnScope ["memory", "a", "fields"] ["memory", "a"] (defScope sThing) := ⟨rfl, rfl, rfl, by decide +kernel, rfl, by decide +kernel, by decide +kernel⟩
theorem ok_thing {f fFA : Addr} {fd fdfAt fdfFA : FuncData} (F : Fun K "thing_at" "thing_at" sThing f fd) (T : Txt K mg CH d0 dR fXI) (M : MemC K CM fMI fSz fAt fPut fCp fLk) (GfAt : FnOk P w K mg base (CXE P w) 4 fAt fdfAt ["self", "a"] (spAt CM d0)) (bfAt : Binds K fdfAt ["self", "a"] []) (GfFA : FnOk P w K mg base (CXE P w) 6 fFA fdfFA ["memory", "a"] (spFAt CM d0)) (mfFA : mg "fields_at" = some (.ref fFA)) (kfFA : PySem.W.keepIn K (.ref fFA) = true) (bfFA : Binds K fdfFA ["memory", "a"] []) : FnOk P w K mg base (CXE P w) 7 f fd ["memory", "a"] (spThing CM d0) := by
  refine F.okE scTh (fun vs H Q E h => ?_) (fun cdv A outer s H vs Q E hr h => ?_)
  · obtain ⟨N, m, c, dx, xs, ws, a, rfl, _⟩ := h
    rfl
  · obtain ⟨N, m, c, dx, xs, ws, a, rfl, W, ha, k⟩ := h
    refine ⟨_, pss_cons (ps_set (i := 2) scTh.nd rfl (Or.inl rfl) (xe_call GfFA hr rfl mfFA kfFA bfFA .nil (Passes.x (passE fun _ _ _ q => q)) (pa_cons (pv 0) (pa_cons (pv 1) pa_nil))))
      (PSs.nox (pss_one (ps_ret (pe_tup (pa_cons (pe_ix ix_tup (xe_meth (pv 0) M.c M.at_ GfAt (hr.mono (by decide)) bfAt .nil passN (pa_cons (pv 1) pa_nil)) pe_int (fun _ _ => rfl))
        (pa_cons (pe_comp (cl := [("memory", s.heap.objs.size + 1), ("a", s.heap.objs.size + 1 + 1)]) (x := "k") (idx := [0, 1]) (NC := ["k", "memory", "a"]) ?co rfl (pi_range1 rfl T.z_range (pa_cons (pv 2) pa_nil))
          (fun C fp s₀ H₀ => xe_meth (pv 1) M.c M.at_ GfAt (hr.mono (by decide)) bfAt .nil passF (pa_cons (pe_op op_add (pe_op op_add (pv 2) pe_int) (pv 0)) pa_nil))) pa_nil)))))), ?_⟩
    case co =>
      exact comp_ok (sc := defScope sThing) (N := ["memory", "a", "fields"]) (ns := ["memory", "a"]) rfl rfl rfl (by decide +kernel) rfl rfl (by
        intro q hq
        rcases List.mem_cons.mp hq with rfl | hq
        · rfl
        · rw [List.mem_singleton.mp hq]
          rfl)
    refine ⟨_, rfl, _, rfl, N, m, c, dx, xs, ws, a, rfl, W, ha, ?_⟩
    cases e : thg ws a with
    | none => rw [e] at k; exact k
    | some p =>
      obtain ⟨t, n⟩ := p
      rw [e] at k
      simp only at k
      intro H1 s1
      obtain ⟨h0, hw, hl⟩ := thg_some e
      have W1 := W.same s1
      obtain ⟨n0, n6⟩ := W1.hd hw
      have l60 := W1.good.1
      have b100 := W1.big
      obtain ⟨v, wd, hv, hw', wv⟩ := W1.at_ h0 (show a < N by omega)
      rw [hw] at hw'
      cases hw'
      obtain ⟨p, rfl, hp⟩ := wv
      refine ⟨_, rfl, m, dx, _, rfl, W1.mem.1, rfl, _, rfl, m, c, dx, xs, a, rfl, W1.mem, ha, ?_⟩
      rw [if_pos ⟨h0, by rw [W1.len]; omega⟩]
      intro v' hv'
      rw [hv] at hv'
      cases hv'
      refine ⟨p, _, 1, .int t, rfl, rfl, SqT.of hp, rfl, ?_⟩
      refine ⟨_, rfl, n, rfl, by omega, by omega, fun D hD => ?_⟩
      refine comp_range (lo := 0) (n := n.toNat) (fun i zs H2 => zs.length = i ∧ Same H1 H2 ∧ H2 D = some (.lst zs) ∧ ∀ (j : Nat) (v : V), zs[j]? = some v → xs[(a + 1 + j).toNat]? = some v) ⟨rfl, Same.upd hD, upd_same, fun j v z => by simp at z⟩ (fun i zs H2 hi ⟨e1, _, z, _⟩ => ⟨z, e1⟩)
        (Nat.le_trans (show n.toNat ≤ 100 by omega) sz_len) (fun i zs H2 hi ⟨e1, s2, z, hz⟩ => ?_) (fun zs H2 ⟨e1, s2, z, hz⟩ => ?_)
      · have W2 := W1.same s2
        refine ⟨_, rfl, m, dx, _, rfl, W2.mem.1, rfl, _, rfl, a, 1, rfl, rfl, _, rfl, _, 0 + (i : Int), rfl, rfl, m, c, dx, xs, a + 1 + (0 + (i : Int)), rfl, W2.mem, log7 (by omega) (by omega), ?_⟩
        rw [if_pos ⟨by omega, by rw [W2.len]; omega⟩]
        intro v hv
        refine ⟨z, by rw [List.length_append, e1]; rfl, fun b u q => by rw [upd_ne (ne_of_none q hD)]; exact s2 b u q, upd_same, fun j u hu => ?_⟩
        by_cases hj : j < zs.length
        · rw [List.getElem?_append_left hj] at hu
          exact hz j u hu
        · rw [List.getElem?_append_right (by omega)] at hu
          have ej : j = i := by
            have := (List.getElem?_eq_some_iff.mp hu).1
            simp only [List.length_singleton] at this
            omega
          subst ej
          rw [show j - zs.length = 0 by omega] at hu
          cases hu
          rw [show a + 1 + (j : Int) = a + 1 + (0 + (j : Int)) by omega]
          exact hv
      · refine ⟨by show 2 ≤ sizeLine; decide, fun q hq => ?_⟩
        have st := (s1.trans s2).trans (Same.upd (o := .tup [.int t, .ref D]) hq)
        have nDq : D ≠ q := ne_of_none z hq
        refine k q D zs _ st (none_of_same s1 hD) upd_same (by rw [upd_ne nDq]; exact z) ⟨by rw [e1, seg_len h0 n0 hl], fun i v wd a1 a2 => ?_⟩
        have hi : (i : Int) < n := by
          have := (List.getElem?_eq_some_iff.mp a1).1
          omega
        rw [seg_at h0 hi] at a2
        exact (W.rel.2 _ _ _ (hz i v a1) a2).keep (Tups.of st)
/-- put_field -/
def spPutF (CM BA : Addr) : Sp := fun vs H Q E => ∃ N m c dx xs ws v, ∃ a kk : Int, vs = [.ref m, .int a, .int kk, v] ∧ MW CM N H m c dx xs ws ∧ a.natAbs.log2 < 1920 ∧ kk.natAbs.log2 < 1920 ∧
  (match thg ws a with | some p => (if 0 ≤ kk ∧ kk < p.2 then ∀ H', Same H H' → Q .non (upd H' c (.lst (xs.set (a + 1 + kk).toNat v))) else ∀ H', Same H H' → E (.ref BA) none H') | none => ∀ H', Same H H' → E (.ref BA) none H')
theorem ok_putf {f fFA : Addr} {fd fdfPut fdfFA : FuncData} (F : Fun K "put_field" "put_field" sPutF f fd) (M : MemC K CM fMI fSz fAt fPut fCp fLk) (GfPut : FnOk P w K mg base (CXE P w) 4 fPut fdfPut ["self", "a", "word"] (spPut CM d0)) (bfPut : Binds K fdfPut ["self", "a", "word"] []) (GfFA : FnOk P w K mg base (CXE P w) 7 fFA fdfFA ["memory", "a", "k"] (spAddr CM d0)) (mfFA : mg "field_address" = some (.ref fFA)) (kfFA : PySem.W.keepIn K (.ref fFA) = true) (bfFA : Binds K fdfFA ["memory", "a", "k"] []) : FnOk P w K mg base (CXE P w) 8 f fd ["memory", "a", "k", "word"] (spPutF CM d0) := by
  refine F.okE (N := ["memory", "a", "k", "word"]) ⟨rfl, rfl, rfl, by decide +kernel, rfl, by decide +kernel, by decide +kernel⟩ (fun vs H Q E h => ?_) (fun cdv A outer s H vs Q E hr h => ?_)
  · obtain ⟨N, m, c, dx, xs, ws, v, a, kk, rfl, _⟩ := h
    rfl
  · obtain ⟨N, m, c, dx, xs, ws, v, a, kk, rfl, W, ha, hk, k⟩ := h
    refine ⟨_, pss_one (ps_expr (xe_meth (pv 0) M.c M.pt GfPut (hr.mono (by decide)) bfPut .nil (Passes.x (passE fun _ _ _ q => q)) (pa_cons (xe_call GfFA hr rfl mfFA kfFA bfFA .nil (Passes.x (passE fun _ _ _ q => q)) (pa_cons (pv 0) (pa_cons (pv 1) (pa_cons (pv 2) pa_nil)))) (pa_cons (pv 3) pa_nil)))), ?_⟩
    refine ⟨_, rfl, m, dx, _, rfl, W.mem.1, rfl, _, rfl, _, rfl, _, rfl, N, m, c, dx, xs, ws, a, kk, rfl, W, ha, hk, ?_⟩
    cases e : thg ws a with
    | none => rw [e] at k; exact k
    | some p =>
      obtain ⟨t, n⟩ := p
      rw [e] at k
      simp only at k ⊢
      by_cases g : 0 ≤ kk ∧ kk < n
      · rw [if_pos g] at k ⊢
        intro H1 s1
        obtain ⟨h0, hw, hl⟩ := thg_some e
        have W1 := W.same s1
        have l60 := W1.good.1
        have b100 := W1.big
        refine ⟨_, rfl, m, c, dx, xs, v, a + 1 + kk, rfl, W1.mem, log7 (by omega) (by omega), ?_⟩
        rw [if_pos ⟨by omega, by rw [W1.len]; omega⟩]
        exact k H1 s1
      · rw [if_neg g] at k ⊢
        exact k
def NotHd (wd : Wc) : Prop := ∀ t n, wd ≠ .hd t n
/-- laid up to i words -/
def laidN (ws : List Wc) (a t : Int) (wv : List Wc) : Nat → List Wc
  | 0 => ws.set a.toNat (.hd t wv.length)
  | i + 1 => match wv[i]? with
    | some wd => (laidN ws a t wv i).set (a + 1 + i).toNat wd
    | none => laidN ws a t wv i
theorem Good.set {N : Nat} {ws : List Wc} {i : Nat} {wd : Wc} (g : Good N ws) (h : ∀ t n, wd = .hd t n → 0 ≤ n ∧ n ≤ 6) : Good N (ws.set i wd) := by
  refine ⟨by rw [List.length_set]; exact g.1, fun x hx => ?_⟩
  rcases List.mem_or_eq_of_mem_set hx with q | q
  · exact g.2 x q
  · rw [q]; exact h
theorem laid_good {N : Nat} {ws wv : List Wc} {a t : Int} (g : Good N ws) (hv : ∀ x ∈ wv, NotHd x) (hl : wv.length ≤ 6) : ∀ i, Good N (laidN ws a t wv i)
  | 0 => g.set fun t' n e => by cases e; omega
  | i + 1 => by
    show Good N (match wv[i]? with | some wd => (laidN ws a t wv i).set (a + 1 + i).toNat wd | none => laidN ws a t wv i)
    cases e : wv[i]? with
    | none => exact laid_good g hv hl i
    | some wd => exact (laid_good g hv hl i).set fun t' n e' => absurd e' (hv wd (List.mem_of_getElem? e) t' n)
theorem MW.put {H : Hp} {m c dx : Addr} {xs : List V} {ws : List Wc} {i : Nat} {v : V} {wd : Wc} (W : MW CM N H m c dx xs ws) (hv : WV H v wd) (g : Good N (ws.set i wd)) : MW CM N (upd H c (.lst (xs.set i v))) m c dx (xs.set i v) (ws.set i wd) :=
  ⟨⟨by rw [upd_ne (ne_of W.mem.1 W.mem.2 (by intro z; cases z))]; exact W.mem.1, upd_same⟩, (W.rel.set hv).keep (Tups.set W.mem.2), g, W.big⟩
/-- lay -/
def spLay (CM BA : Addr) : Sp := fun vs H Q E => ∃ N m c dx xs ws vl us wv, ∃ a t : Int, vs = [.ref m, .int a, .int t, .ref vl] ∧ MW CM N H m c dx xs ws ∧ H vl = some (.lst us) ∧ Rel H us wv ∧ us.length ≤ 6 ∧ (∀ x ∈ wv, NotHd x) ∧ vl ≠ c ∧ a.natAbs.log2 < 1920 ∧
  (if a < 0 ∨ (N : Int) ≤ a + wv.length then ∀ H', Same H H' → E (.ref BA) none H' else ∀ xs' H', MW CM N H' m c dx xs' (laidN ws a t wv wv.length) → But c H H' → Q .non H')
theorem scLy : FnScope ["memory", "a", "t", "values", "k", "value"] ["memory", "a", "t", "values"] (defScope sLay) := ⟨rfl, rfl, rfl, by decide +kernel, rfl, by decide +kernel, by decide +kernel⟩
theorem ok_lay {f fR : Addr} {fd fdfPut fdfR : FuncData} (F : Fun K "lay" "lay" sLay f fd) (T : Txt K mg CH d0 dR fXI) (M : MemC K CM fMI fSz fAt fPut fCp fLk) (GfPut : FnOk P w K mg base (CXE P w) 4 fPut fdfPut ["self", "a", "word"] (spPut CM d0)) (bfPut : Binds K fdfPut ["self", "a", "word"] []) (GfR : FnOk P w K mg base (CXE P w) 3 fR fdfR ["memory", "a", "fields"] (spRoom CM d0)) (mfR : mg "look_at_room" = some (.ref fR)) (kfR : PySem.W.keepIn K (.ref fR) = true) (bfR : Binds K fdfR ["memory", "a", "fields"] []) : FnOk P w K mg base (CXE P w) 5 f fd ["memory", "a", "t", "values"] (spLay CM d0) := by
  refine F.okE scLy (fun vs H Q E h => ?_) (fun cdv A outer s H vs Q E hr h => ?_)
  · obtain ⟨N, m, c, dx, xs, ws, vl, us, wv, a, t, rfl, _⟩ := h
    rfl
  · obtain ⟨N, m, c, dx, xs, ws, vl, us, wv, a, t, rfl, W, hu, hR, hlu, hnh, hvc, ha, k⟩ := h
    refine ⟨_, pss_cons (ps_expr (xe_call GfR (hr.mono (by decide)) rfl mfR kfR bfR .nil (Passes.x (passE fun _ _ _ q => q)) (pa_cons (pv 0) (pa_cons (pv 1) (pa_cons (pe_callB call_len_seq rfl T.z_len PyProof.Rows.Boot.«len» (pa_cons (pv 3) pa_nil)) pa_nil)))))
      (PSs.nox (pss_cons (ps_expr (xe_meth (pv 0) M.c M.pt GfPut hr bfPut .nil passN (pa_cons (pv 1) (pa_cons (pe_tup (pa_cons pe_str (pa_cons (pv 2) (pa_cons (pe_callB call_len_seq rfl T.z_len PyProof.Rows.Boot.«len» (pa_cons (pv 3) pa_nil)) pa_nil)))) pa_nil))))
      (pss_one (ps_for PassesOwn.never rfl (pi_enum rfl T.z_enumerate (pa_cons (pv 3) pa_nil)) (pg_tup rfl (pgs_cons (pg_name (i := 4) scLy.nd rfl (Or.inl rfl)) (pgs_cons (pg_name (i := 5) scLy.nd rfl (Or.inl rfl)) pgs_nil)))
        (pss_one (ps_expr (xe_meth (pv 0) M.c M.pt GfPut hr bfPut .nil passN (pa_cons (pe_op op_add (pe_op op_add (pv 1) pe_int) (pv 4)) (pa_cons (pv 5) pa_nil))))))))), ?_⟩
    have elen := hR.1
    refine ⟨_, rfl, _, rfl, _, rfl, vl, us, rfl, .inl (SqL.of hu), m, c, dx, xs, a, (us.length : Int), rfl, W.mem, ha, log7 (by omega) (by omega), ?_⟩
    have l60 := W.len
    have b100 := W.big
    by_cases g : a < 0 ∨ (N : Int) ≤ a + wv.length
    · rw [if_pos g] at k
      rw [if_pos (by rw [l60, elen]; exact g)]
      exact k
    · rw [if_neg g] at k
      rw [if_neg (by rw [l60, elen]; exact g)]
      have a0 : 0 ≤ a := by omega
      have a1 : a + wv.length < N := by omega
      refine ⟨_, rfl, m, dx, _, rfl, W.mem.1, rfl, _, rfl, _, rfl, _, rfl, vl, us, rfl, .inl (SqL.of hu), by show 3 ≤ sizeLine; decide, fun p hp => ?_⟩
      have s1 : Same H (upd H p (.tup [.str "head", .int t, .int us.length])) := Same.upd hp
      have W1 := W.same s1
      refine ⟨m, c, dx, xs, _, a, rfl, W1.mem, ha, ?_⟩
      rw [if_pos ⟨a0, by rw [l60]; omega⟩]
      have hh : WV (upd H p (.tup [.str "head", .int t, .int us.length])) (.ref p) (.hd t wv.length) := ⟨p, rfl, by rw [upd_same, elen]; rfl⟩
      have W2 := W1.put (i := a.toNat) hh (laid_good W1.good hnh (by omega) 0)
      have b2 : But c H (upd (upd H p (.tup [.str "head", .int t, .int us.length])) c (.lst (xs.set a.toNat (.ref p)))) := (But.of s1).trans But.set
      refine ⟨_, rfl, vl, rfl, ⟨us, SqL.of (b2 _ _ hvc hu)⟩, for_enum (K := K) (a := vl) (xs := us) (fun i σ H2 => ∃ (v4 v5 : Option V) (xs' : List V), σ = [some (.ref m), some (.int a), some (.int t), some (.ref vl), v4, v5] ∧ MW CM N H2 m c dx xs' (laidN ws a t wv i) ∧ But c H H2)
        ⟨none, none, _, rfl, W2, b2⟩ (fun i σ H2 _ ⟨_, _, _, _, _, bt⟩ => SqL.of (bt _ _ hvc hu)) ?_ ?_⟩
      · rintro i x σ H2 q hi ⟨v4, v5, xs', rfl, W3, b3⟩ hq
        have hil := (List.getElem?_eq_some_iff.mp hi).1
        obtain ⟨wd, hwd⟩ : ∃ wd, wv[i]? = some wd := ⟨_, List.getElem?_eq_getElem (by omega)⟩
        have W4 := W3.same (Same.upd (o := .tup [.int (i : Int), x]) hq)
        have b4 := b3.trans (But.of (c := c) (Same.upd (o := .tup [.int (i : Int), x]) hq))
        refine ⟨q, _, rfl, SqT.of upd_same, rfl, _, _, rfl, _, _, rfl, rfl, ?_⟩
        refine ⟨_, rfl, m, dx, _, rfl, W4.mem.1, rfl, _, rfl, a, 1, rfl, rfl, _, rfl, _, (i : Int), rfl, rfl, _, rfl, m, c, dx, xs', x, a + 1 + (i : Int), rfl, W4.mem, log7 (by omega) (by omega), ?_⟩
        rw [if_pos ⟨by omega, by rw [W4.len]; omega⟩]
        have hx : WV _ x wd := (hR.2 i x wd hi hwd).keep (fun t us z => b4 t _ (ne_of z W.mem.2 (by intro z; cases z)) z)
        have el : laidN ws a t wv (i + 1) = (laidN ws a t wv i).set (a + 1 + i).toNat wd := by
          show (match wv[i]? with | some wd => (laidN ws a t wv i).set (a + 1 + i).toNat wd | none => laidN ws a t wv i) = _
          rw [hwd]
        refine ⟨_, _, xs'.set (a + 1 + (i : Int)).toNat x, rfl, ?_, b4.trans But.set⟩
        rw [el]
        exact W4.put hx (by rw [← el]; exact laid_good W.good hnh (by omega) (i + 1))
      · rintro σ H2 ⟨v4, v5, xs', rfl, W3, b3⟩
        rw [elen] at W3
        exact k xs' H2 W3 b3
end
end K61
end
section
set_option Elab.async false
set_option linter.all false
set_option maxRecDepth 100000
set_option maxHeartbeats 4000000
set_option exponentiation.threshold 4000
namespace K61
open PySem L2 LX
/-- the class Boxes -/
structure BoxC (K : PySem.W.Frag) (CB fBI fBL fBT fBP fBC fBM fBF fLF fLT : Addr) : Prop where
  c : Cls K CB
  nw : NoAttr K CB "words_kept"
  nt : NoAttr K CB "taken_firsts"
  mke : Mk K CB fBI
  ly : Meth K CB "lay" fBL
  th : Meth K CB "thing" fBT
  pt : Meth K CB "put" fBP
  cl : Meth K CB "clear" fBC
  mm : Meth K CB "memory" fBM
  fi : Meth K CB "firsts" fBF
  lf : Meth K CB "least_free" fLF
  lt : Meth K CB "look_at_thing_in" fLT
/-- boxes at B -/
structure Bx (CB CM : Addr) (N : Nat) (H : Hp) (B dB m c dx : Addr) (xs : List V) (ws : List Wc) (d : Addr) (kvs : List (Key × V)) : Prop where
  b : H B = some (.ins CB dB [("words_kept", .ref m), ("taken_firsts", .ref d)])
  w : MW CM N H m c dx xs ws
  t : H d = some (.dK kvs)
theorem Bx.same {CB CM : Addr} {N : Nat} {H H' : Hp} {B dB m c dx : Addr} {xs : List V} {ws : List Wc} {d : Addr} {kvs : List (Key × V)} (x : Bx CB CM N H B dB m c dx xs ws d kvs) (s : Same H H') : Bx CB CM N H' B dB m c dx xs ws d kvs := ⟨s _ _ x.b, x.w.same s, s _ _ x.t⟩
def But2 (m d : Addr) (H H' : Hp) : Prop := ∀ b u, b ≠ m → b ≠ d → H b = some u → H' b = some u
theorem passF0 {P : Program} {w : World} {X : Cx} : Passes (CXE P w) X (fun _ _ _ => False) := fun _ _ _ _ _ _ _ ⟨_, _, _, _, _, _, _, _, _, q⟩ => q.elim
theorem manyC7 (n : Nat) : manyC 0 (7 * (n : Int)) 7 = n := by
  unfold manyC
  split
  · omega
  · omega
/-- cleared up to i words -/
def clearN (ws : List Wc) (a : Int) : Nat → List Wc
  | 0 => ws
  | i + 1 => (clearN ws a i).set (a + (i : Int)).toNat .no
theorem clear_good {N : Nat} {ws : List Wc} {a : Int} (g : Good N ws) : ∀ i, Good N (clearN ws a i)
  | 0 => g
  | i + 1 => (clear_good g i).set fun _ _ e => nomatch e
section
variable {N : Nat} {P : Program} {w : World} {K : PySem.W.Frag} {mg : Str → Option Value} {base : Heap} {CH d0 dR fXI : Addr} {CM fMI fSz fAt fPut fCp fLk : Addr} {CB fBI fBL fBT fBP fBC fBM fBF fLF fLT : Addr}
/-- look_at_thing_in -/
def spLT (CB CM BA : Addr) : Sp := fun vs H Q E => ∃ N B dB m c dx xs ws d kvs, ∃ a : Int, vs = [.ref B, .int a] ∧ Bx CB CM N H B dB m c dx xs ws d kvs ∧ a.natAbs.log2 < 1920 ∧
  (if valV kvs (Sum.inl a) = none then ∀ H', Same H H' → E (.ref BA) none H' else Q .non H)
theorem ok_lt {f : Addr} {fd fdX : FuncData} (F : Fun K "look_at_thing_in" "Boxes.look_at_thing_in" sB8 f fd) (T : Txt K mg CH d0 dR fXI) (M : BoxC K CB fBI fBL fBT fBP fBC fBM fBF fLF fLT) (GX : FnOk P w K mg base (CXE P w) 1 fXI fdX ["self", "text"] (spXI K)) (bX : Binds K fdX ["self", "text"] []) :
    FnOk P w K mg base (CXE P w) 3 f fd ["self", "a"] (spLT CB CM d0) := by
  refine F.okE (N := ["self", "a"]) ⟨rfl, rfl, rfl, by decide +kernel, rfl, by decide +kernel, by decide +kernel⟩ (fun vs H Q E h => ?_) (fun cdv A outer s H vs Q E hr h => ?_)
  · obtain ⟨N, B, dB, m, c, dx, xs, ws, d, kvs, a, rfl, _⟩ := h
    rfl
  · obtain ⟨N, B, dB, m, c, dx, xs, ws, d, kvs, a, rfl, X, ha, k⟩ := h
    have hu := hu_of hr
    refine ⟨_, pss_one (ps_if (pt_cmp (pc_dnotin hu (pv 1) (pe_fld (pv 0) rfl)) (by with_unfolding_all rfl))
        (pss_one (ps_raise rfl raiseE (xe_err T.mx0 GX hr rfl T.m0 bX (Passes.x (passE fun _ _ _ q => q)) (pa_cons (pe_fstr (pfs_cons pf_text (pfs_cons (pf_num (pv 1)) pfs_nil))) pa_nil)))) pss_nil), ?_⟩
    refine ⟨_, rfl, _, rfl, B, CB, dB, _, .ref d, rfl, X.b, M.c, M.nt, rfl, d, _, rfl, DGet.k (k := Sum.inl a) X.t, _, rfl, ?_⟩
    cases e : valV kvs (Sum.inl a) with
    | none =>
      rw [if_pos e] at k
      refine iteT ⟨_, rfl, a, rfl, ha, fun y hy ea hea => ⟨ea, d0, none, .str y, rfl, upd_same, T.c0.cls, rfl, ea, d0, none, rfl, upd_same, T.c0.cls, hea, k _ fun b o q => ?_⟩⟩
      have nb : b ≠ ea := fun z => by rw [z, hea] at q; cases q
      rw [del_ne nb, upd_ne nb]
      exact q
    | some v =>
      rw [if_neg (by rw [e]; exact fun z => nomatch z)] at k
      exact iteF k
/-- least_free -/
def spLF (CB CM C : Addr) : Sp := fun vs H Q E => ∃ (n : Nat) (B dB m c dx : Addr) (xs : List V) (ws : List Wc) (d : Addr) (kvs : List (Key × V)), vs = [.ref B] ∧ Bx CB CM (7 * n) H B dB m c dx xs ws d kvs ∧
  (∀ i : Nat, i < n → (∀ j : Nat, j < i → valV kvs (Sum.inl (7 * (j : Int))) ≠ none) → valV kvs (Sum.inl (7 * (i : Int))) = none → Q (.int (7 * (i : Int))) H) ∧
  ((∀ j : Nat, j < n → valV kvs (Sum.inl (7 * (j : Int))) ≠ none) → ∀ H', Same H H' → E (.ref C) none H')
theorem scLF : FnScope ["self", "a"] ["self"] (defScope sB7) := ⟨rfl, rfl, rfl, by decide +kernel, rfl, by decide +kernel, by decide +kernel⟩
theorem ok_lf {f : Addr} {fd fdX fdS : FuncData} {tk : Tok} (F : Fun K "least_free" "Boxes.least_free" sB7 f fd) (T : Txt K mg CH d0 dR fXI) (MM : MemC K CM fMI fSz fAt fPut fCp fLk) (M : BoxC K CB fBI fBL fBT fBP fBC fBM fBF fLF fLT) (hc : mg "BOX_WORDS" = some (.int 7 tk)) (GX : FnOk P w K mg base (CXE P w) 1 fXI fdX ["self", "text"] (spXI K)) (bX : Binds K fdX ["self", "text"] [])
    (GS : FnOk P w K mg base (CXE P w) 1 fSz fdS ["self"] (spSize CM)) (bS : Binds K fdS ["self"] []) : FnOk P w K mg base (CXE P w) 3 f fd ["self"] (spLF CB CM dR) := by
  refine F.okE scLF (fun vs H Q E h => ?_) (fun cdv A outer s H vs Q E hr h => ?_)
  · obtain ⟨n, B, dB, m, c, dx, xs, ws, d, kvs, rfl, _⟩ := h
    rfl
  · obtain ⟨n, B, dB, m, c, dx, xs, ws, d, kvs, rfl, X, k1, k2⟩ := h
    have hu := hu_of hr
    have big := X.w.big
    refine ⟨_, pss_cons (PS.nox (ps_for PassesOwn.never rfl (pi_range3 rfl T.z_range (pa_cons pe_int (pa_cons (xe_meth0 (pe_fld (pv 0) rfl) MM.c MM.sz GS (hr.mono (by decide)) bS .nil passN) (pa_cons (pe_glob (v := .int 7) rfl hc ⟨_, rfl⟩) pa_nil)))) (pg_name (i := 1) scLF.nd rfl (Or.inl rfl))
        (pss_one (ps_if (pt_cmp (pc_dnotin hu (pv 1) (pe_fld (pv 0) rfl)) (by with_unfolding_all rfl)) (pss_one (ps_ret (pv 1))) pss_nil))))
      (pss_one (ps_raise rfl raiseE (xe_err T.mxR GX hr rfl T.mR bX (Passes.x (passE fun _ _ _ q => q)) (pa_cons pe_str pa_nil)))), ?_⟩
    refine ⟨_, rfl, B, CB, dB, _, .ref m, rfl, X.b, M.c, M.nw, rfl, m, dx, _, rfl, X.w.mem.1, rfl, m, c, dx, xs, rfl, X.w.mem, 0, _, 7, rfl, ⟨by decide, by decide, by omega, ?_⟩, by decide, by decide, ?_⟩
    · rw [X.w.len]; omega
    have en : manyC 0 (xs.length : Int) 7 = n := by rw [X.w.len, show ((7 * n : Nat) : Int) = 7 * (n : Int) by omega]; exact manyC7 n
    rw [en]
    refine for_rangeC (lo := 0) (c := 7) (n := n) (fun i σ H2 => ∃ v1, σ = [some (.ref B), v1] ∧ H2 = H ∧ ∀ j : Nat, j < i → valV kvs (Sum.inl (7 * (j : Int))) ≠ none) ⟨none, rfl, rfl, fun j hj => by omega⟩ ?_ ?_
    · rintro i σ H2 hi ⟨v1, rfl, rfl, hj⟩
      have ei : 0 + (i : Int) * 7 = 7 * (i : Int) := by omega
      rw [ei]
      refine ⟨_, rfl, _, rfl, B, CB, dB, _, .ref d, rfl, X.b, M.c, M.nt, rfl, d, _, rfl, DGet.k (k := Sum.inl (7 * (i : Int))) X.t, _, rfl, ?_⟩
      cases e : valV kvs (Sum.inl (7 * (i : Int))) with
      | none => exact iteT ⟨_, rfl, k1 i hi hj e⟩
      | some v =>
        refine iteF ⟨_, rfl, rfl, fun j hj' => ?_⟩
        by_cases q : j < i
        · exact hj j q
        · have : j = i := by omega
          rw [this, e]
          exact fun z => nomatch z
    · rintro σ H2 ⟨v1, rfl, rfl, hj⟩
      refine fun ea hea => ⟨ea, dR, none, .str "no box is free", rfl, upd_same, T.cR.cls, rfl, ea, dR, none, rfl, upd_same, T.cR.cls, hea, k2 hj _ fun b o q => ?_⟩
      have nb : b ≠ ea := fun z => by rw [z, hea] at q; cases q
      rw [del_ne nb, upd_ne nb]
      exact q
/-- lay -/
def spBL (CB CM C : Addr) : Sp := fun vs H Q E => ∃ (n : Nat) (B dB m c dx : Addr) (xs : List V) (ws : List Wc) (d : Addr) (kvs : List (Key × V)) (vl : Addr) (us : List V) (wv : List Wc), ∃ t : Int, vs = [.ref B, .int t, .ref vl] ∧ Bx CB CM (7 * n) H B dB m c dx xs ws d kvs ∧ H vl = some (.lst us) ∧ Rel H us wv ∧ us.length ≤ 6 ∧ (∀ x ∈ wv, NotHd x) ∧ vl ≠ c ∧ kvs.length ≤ 100 ∧
  (∀ i : Nat, i < n → (∀ j : Nat, j < i → valV kvs (Sum.inl (7 * (j : Int))) ≠ none) → valV kvs (Sum.inl (7 * (i : Int))) = none →
    ∀ xs' H', Bx CB CM (7 * n) H' B dB m c dx xs' (laidN ws (7 * (i : Int)) t wv wv.length) d (putK kvs (Sum.inl (7 * (i : Int))) (.bl true)) → But2 c d H H' → Q (.int (7 * (i : Int))) H') ∧
  ((∀ j : Nat, j < n → valV kvs (Sum.inl (7 * (j : Int))) ≠ none) → ∀ H', Same H H' → E (.ref C) none H')
theorem scBL : FnScope ["self", "t", "values", "a"] ["self", "t", "values"] (defScope sB1) := ⟨rfl, rfl, rfl, by decide +kernel, rfl, by decide +kernel, by decide +kernel⟩
theorem ok_bl {f fLy : Addr} {fd fdF fdL : FuncData} (F : Fun K "lay" "Boxes.lay" sB1 f fd) (T : Txt K mg CH d0 dR fXI) (M : BoxC K CB fBI fBL fBT fBP fBC fBM fBF fLF fLT)
    (GF : FnOk P w K mg base (CXE P w) 3 fLF fdF ["self"] (spLF CB CM dR)) (bF : Binds K fdF ["self"] []) (GL : FnOk P w K mg base (CXE P w) 5 fLy fdL ["memory", "a", "t", "values"] (spLay CM d0)) (mL : mg "lay_layout" = some (.ref fLy)) (kL : PySem.W.keepIn K (.ref fLy) = true) (bL : Binds K fdL ["memory", "a", "t", "values"] []) :
    FnOk P w K mg base (CXE P w) 6 f fd ["self", "t", "values"] (spBL CB CM dR) := by
  refine F.okE scBL (fun vs H Q E h => ?_) (fun cdv A outer s H vs Q E hr h => ?_)
  · obtain ⟨n, B, dB, m, c, dx, xs, ws, d, kvs, vl, us, wv, t, rfl, _⟩ := h
    rfl
  · obtain ⟨n, B, dB, m, c, dx, xs, ws, d, kvs, vl, us, wv, t, rfl, X, hv, hR, hl6, hnh, nvc, hkl, k1, k2⟩ := h
    have hu := hu_of hr
    have big := X.w.big
    refine ⟨_, pss_cons (ps_set (i := 3) scBL.nd rfl (Or.inl rfl) (xe_meth0 (pv 0) M.c M.lf GF (hr.mono (by decide)) bF .nil (Passes.x (passE fun _ _ _ q => q))))
      (PSs.nox (pss_cons (ps_expr (xe_call GL hr rfl mL kL bL .nil passN (pa_cons (pe_fld (pv 0) rfl) (pa_cons (pv 3) (pa_cons (pv 1) (pa_cons (pv 2) pa_nil))))))
      (pss_cons (ps_dput hu (pe_fld (pv 0) rfl) (pv 3) pe_bl rfl)
      (pss_one (ps_ret (pv 3)))))), ?_⟩
    refine ⟨_, rfl, B, dB, _, rfl, X.b, rfl, n, B, dB, m, c, dx, xs, ws, d, kvs, rfl, X, fun i hi hj hn => ?_, k2⟩
    have elen := hR.1
    refine ⟨_, rfl, B, CB, dB, _, .ref m, rfl, X.b, M.c, M.nw, rfl, _, rfl, _, rfl, _, rfl, 7 * n, m, c, dx, xs, ws, vl, us, wv, 7 * (i : Int), t, rfl, X.w, hv, hR, hl6, hnh, nvc, log7 (by omega) (by omega), ?_⟩
    rw [if_neg (by omega)]
    intro xs' H' W' bt
    have nBc : B ≠ c := ne_of X.b X.w.mem.2 (by intro z; cases z)
    have ndc : d ≠ c := ne_of X.t X.w.mem.2 (by intro z; cases z)
    have b' := bt B _ nBc X.b
    have d' := bt d _ ndc X.t
    refine ⟨_, rfl, B, CB, dB, _, .ref d, rfl, b', M.c, M.nt, rfl, _, rfl, d, _, rfl, DPut.k (k := Sum.inl (7 * (i : Int))) d' (Nat.lt_of_le_of_lt hkl (by decide)), ?_⟩
    have nBd : B ≠ d := ne_of X.b X.t (by intro z; cases z)
    refine ⟨_, rfl, k1 i hi hj hn xs' _ ⟨by rw [upd_ne nBd]; exact b', ⟨⟨?_, ?_⟩, ?_, W'.good, W'.big⟩, upd_same⟩ (fun b u n1 n2 q => by rw [upd_ne n2]; exact bt b u n1 q)⟩
    · rw [upd_ne (ne_of W'.mem.1 d' (by intro z; cases z))]; exact W'.mem.1
    · rw [upd_ne (Ne.symm ndc)]; exact W'.mem.2
    · exact W'.rel.keep fun t us q => by rw [upd_ne (ne_of q d' (by intro z; cases z))]; exact q
/-- thing -/
def spBT (CB CM BA : Addr) : Sp := fun vs H Q E => ∃ N B dB m c dx xs ws d kvs, ∃ a : Int, vs = [.ref B, .int a] ∧ Bx CB CM N H B dB m c dx xs ws d kvs ∧ a.natAbs.log2 < 1920 ∧
  (if valV kvs (Sum.inl a) = none then ∀ H', Same H H' → E (.ref BA) none H' else ∃ t n : Int, thg ws a = some (t, n) ∧ ∀ q r zs H', Same H H' → H r = none → H' q = some (.tup [.int t, .ref r]) → H' r = some (.lst zs) → Rel H' zs (seg ws a n) → Q (.ref q) H')
theorem ok_bt {f fTh : Addr} {fd fdT fdH : FuncData} (F : Fun K "thing" "Boxes.thing" sB2 f fd) (M : BoxC K CB fBI fBL fBT fBP fBC fBM fBF fLF fLT)
    (GT : FnOk P w K mg base (CXE P w) 3 fLT fdT ["self", "a"] (spLT CB CM d0)) (bT : Binds K fdT ["self", "a"] []) (GH : FnOk P w K mg base (CXE P w) 7 fTh fdH ["memory", "a"] (spThing CM d0)) (mH : mg "thing_at" = some (.ref fTh)) (kH : PySem.W.keepIn K (.ref fTh) = true) (bH : Binds K fdH ["memory", "a"] []) :
    FnOk P w K mg base (CXE P w) 8 f fd ["self", "a"] (spBT CB CM d0) := by
  refine F.okE (N := ["self", "a"]) ⟨rfl, rfl, rfl, by decide +kernel, rfl, by decide +kernel, by decide +kernel⟩ (fun vs H Q E h => ?_) (fun cdv A outer s H vs Q E hr h => ?_)
  · obtain ⟨N, B, dB, m, c, dx, xs, ws, d, kvs, a, rfl, _⟩ := h
    rfl
  · obtain ⟨N, B, dB, m, c, dx, xs, ws, d, kvs, a, rfl, X, ha, k⟩ := h
    refine ⟨_, pss_cons (ps_expr (xe_meth (pv 0) M.c M.lt GT (hr.mono (by decide)) bT .nil (Passes.x (passE fun _ _ _ q => q)) (pa_cons (pv 1) pa_nil)))
      (PSs.nox (pss_one (ps_ret (xe_call GH hr rfl mH kH bH .nil passN (pa_cons (pe_fld (pv 0) rfl) (pa_cons (pv 1) pa_nil)))))), ?_⟩
    refine ⟨_, rfl, B, dB, _, rfl, X.b, rfl, _, rfl, N, B, dB, m, c, dx, xs, ws, d, kvs, a, rfl, X, ha, ?_⟩
    by_cases e : valV kvs (Sum.inl a) = none
    · rw [if_pos e] at k ⊢
      exact k
    · rw [if_neg e] at k ⊢
      obtain ⟨t, n, et, k⟩ := k
      refine ⟨_, rfl, B, CB, dB, _, .ref m, rfl, X.b, M.c, M.nw, rfl, _, rfl, N, m, c, dx, xs, ws, a, rfl, X.w, ha, ?_⟩
      rw [et]
      exact k
/-- put -/
def spBP (CB CM BA : Addr) : Sp := fun vs H Q E => ∃ N B dB m c dx xs ws d kvs v, ∃ a kk : Int, vs = [.ref B, .int a, .int kk, v] ∧ Bx CB CM N H B dB m c dx xs ws d kvs ∧ a.natAbs.log2 < 1920 ∧ kk.natAbs.log2 < 1920 ∧
  (if valV kvs (Sum.inl a) = none then ∀ H', Same H H' → E (.ref BA) none H' else ∃ t n : Int, thg ws a = some (t, n) ∧ (if 0 ≤ kk ∧ kk < n then ∀ H', Same H H' → Q .non (upd H' c (.lst (xs.set (a + 1 + kk).toNat v))) else ∀ H', Same H H' → E (.ref BA) none H'))
theorem ok_bp {f fPF : Addr} {fd fdT fdP : FuncData} (F : Fun K "put" "Boxes.put" sB3 f fd) (M : BoxC K CB fBI fBL fBT fBP fBC fBM fBF fLF fLT)
    (GT : FnOk P w K mg base (CXE P w) 3 fLT fdT ["self", "a"] (spLT CB CM d0)) (bT : Binds K fdT ["self", "a"] []) (GP : FnOk P w K mg base (CXE P w) 8 fPF fdP ["memory", "a", "k", "word"] (spPutF CM d0)) (mP : mg "put_field" = some (.ref fPF)) (kP : PySem.W.keepIn K (.ref fPF) = true) (bP : Binds K fdP ["memory", "a", "k", "word"] []) :
    FnOk P w K mg base (CXE P w) 9 f fd ["self", "a", "k", "word"] (spBP CB CM d0) := by
  refine F.okE (N := ["self", "a", "k", "word"]) ⟨rfl, rfl, rfl, by decide +kernel, rfl, by decide +kernel, by decide +kernel⟩ (fun vs H Q E h => ?_) (fun cdv A outer s H vs Q E hr h => ?_)
  · obtain ⟨N, B, dB, m, c, dx, xs, ws, d, kvs, v, a, kk, rfl, _⟩ := h
    rfl
  · obtain ⟨N, B, dB, m, c, dx, xs, ws, d, kvs, v, a, kk, rfl, X, ha, hk, k⟩ := h
    refine ⟨_, pss_cons (ps_expr (xe_meth (pv 0) M.c M.lt GT (hr.mono (by decide)) bT .nil (Passes.x (passE fun _ _ _ q => q)) (pa_cons (pv 1) pa_nil)))
      (pss_one (ps_expr (xe_call GP hr rfl mP kP bP .nil (Passes.x (passE fun _ _ _ q => q)) (pa_cons (pe_fld (pv 0) rfl) (pa_cons (pv 1) (pa_cons (pv 2) (pa_cons (pv 3) pa_nil))))))), ?_⟩
    refine ⟨_, rfl, B, dB, _, rfl, X.b, rfl, _, rfl, N, B, dB, m, c, dx, xs, ws, d, kvs, a, rfl, X, ha, ?_⟩
    by_cases e : valV kvs (Sum.inl a) = none
    · rw [if_pos e] at k ⊢
      exact k
    · rw [if_neg e] at k ⊢
      obtain ⟨t, n, et, k⟩ := k
      refine ⟨_, rfl, B, CB, dB, _, .ref m, rfl, X.b, M.c, M.nw, rfl, _, rfl, _, rfl, _, rfl, N, m, c, dx, xs, ws, v, a, kk, rfl, X.w, ha, hk, ?_⟩
      rw [et]
      exact k
/-- clear -/
def spBC (CB CM BA : Addr) : Sp := fun vs H Q E => ∃ N B dB m c dx xs ws d kvs, ∃ a : Int, vs = [.ref B, .int a] ∧ Bx CB CM N H B dB m c dx xs ws d kvs ∧ a.natAbs.log2 < 1920 ∧
  (if valV kvs (Sum.inl a) = none then ∀ H', Same H H' → E (.ref BA) none H' else 0 ≤ a ∧ a + 7 ≤ N ∧ ∀ xs' H', Bx CB CM N H' B dB m c dx xs' (clearN ws a 7) d (dropK kvs (Sum.inl a)) → But2 c d H H' → Q .non H')
theorem scBC : FnScope ["self", "a", "i"] ["self", "a"] (defScope sB4) := ⟨rfl, rfl, rfl, by decide +kernel, rfl, by decide +kernel, by decide +kernel⟩
theorem ok_bc {f : Addr} {fd fdT fdP : FuncData} {tk : Tok} (F : Fun K "clear" "Boxes.clear" sB4 f fd) (T : Txt K mg CH d0 dR fXI) (MM : MemC K CM fMI fSz fAt fPut fCp fLk) (M : BoxC K CB fBI fBL fBT fBP fBC fBM fBF fLF fLT) (hc : mg "BOX_WORDS" = some (.int 7 tk))
    (GT : FnOk P w K mg base (CXE P w) 3 fLT fdT ["self", "a"] (spLT CB CM d0)) (bT : Binds K fdT ["self", "a"] []) (GP : FnOk P w K mg base (CXE P w) 4 fPut fdP ["self", "a", "word"] (spPut CM d0)) (bP : Binds K fdP ["self", "a", "word"] []) :
    FnOk P w K mg base (CXE P w) 5 f fd ["self", "a"] (spBC CB CM d0) := by
  refine F.okE scBC (fun vs H Q E h => ?_) (fun cdv A outer s H vs Q E hr h => ?_)
  · obtain ⟨N, B, dB, m, c, dx, xs, ws, d, kvs, a, rfl, _⟩ := h
    rfl
  · obtain ⟨N, B, dB, m, c, dx, xs, ws, d, kvs, a, rfl, X, ha, k⟩ := h
    have big := X.w.big
    refine ⟨_, pss_cons (ps_expr (xe_meth (pv 0) M.c M.lt GT (hr.mono (by decide)) bT .nil (Passes.x (passE fun _ _ _ q => q)) (pa_cons (pv 1) pa_nil)))
      (PSs.nox (pss_cons (ps_expr (pe_dpop1 (pe_fld (pv 0) rfl) (pv 1) ⟨rfl, rfl, rfl, rfl⟩))
      (pss_one (ps_for PassesOwn.never rfl (pi_range1 rfl T.z_range (pa_cons (pe_glob (v := .int 7) rfl hc ⟨_, rfl⟩) pa_nil)) (pg_name (i := 2) scBC.nd rfl (Or.inl rfl))
        (pss_one (ps_expr (xe_meth (pe_fld (pv 0) rfl) MM.c MM.pt GP hr bP .nil passN (pa_cons (pe_op op_add (pv 1) (pv 2)) (pa_cons pe_non pa_nil))))))))), ?_⟩
    refine ⟨_, rfl, B, dB, _, rfl, X.b, rfl, _, rfl, N, B, dB, m, c, dx, xs, ws, d, kvs, a, rfl, X, ha, ?_⟩
    cases e : valV kvs (Sum.inl a) with
    | none =>
      rw [if_pos e] at k
      rw [if_pos rfl]
      exact k
    | some v =>
      rw [if_neg (by rw [e]; exact fun z => nomatch z)] at k
      rw [if_neg (fun z => nomatch z)]
      obtain ⟨a0, a7, k⟩ := k
      refine ⟨_, rfl, B, CB, dB, _, .ref d, rfl, X.b, M.c, M.nt, rfl, d, rfl, .inl ⟨_, .inl X.t⟩, _, rfl, _, Sum.inl a, v, X.t, rfl, e, ?_⟩
      have nBd : B ≠ d := ne_of X.b X.t (by intro z; cases z)
      have nBc : B ≠ c := ne_of X.b X.w.mem.2 (by intro z; cases z)
      have ndc : d ≠ c := ne_of X.t X.w.mem.2 (by intro z; cases z)
      have X1 : Bx CB CM N (upd H d (.dK (dropK kvs (Sum.inl a)))) B dB m c dx xs ws d (dropK kvs (Sum.inl a)) := ⟨by rw [upd_ne nBd]; exact X.b, ⟨⟨by rw [upd_ne (ne_of X.w.mem.1 X.t (by intro z; cases z))]; exact X.w.mem.1, by rw [upd_ne (Ne.symm ndc)]; exact X.w.mem.2⟩, X.w.rel.keep fun t us q => by rw [upd_ne (ne_of q X.t (by intro z; cases z))]; exact q, X.w.good, X.w.big⟩, upd_same⟩
      refine ⟨7, rfl, by decide, by decide, for_range (n := 7) (fun i σ H2 => ∃ v2 xs', σ = [some (.ref B), some (.int a), v2] ∧ Bx CB CM N H2 B dB m c dx xs' (clearN ws a i) d (dropK kvs (Sum.inl a)) ∧ But2 c d H H2)
        ⟨none, xs, rfl, X1, fun b u n1 n2 q => by rw [upd_ne n2]; exact q⟩ ?_ ?_⟩
      · rintro i σ H2 hi ⟨v2, xs', rfl, X2, bt⟩
        refine ⟨_, rfl, B, CB, dB, _, .ref m, rfl, X2.b, M.c, M.nw, rfl, m, dx, _, rfl, X2.w.mem.1, rfl, _, rfl, _, rfl, a, 0 + (i : Int), rfl, rfl, m, c, dx, xs', .non, a + (0 + (i : Int)), rfl, X2.w.mem, log7 (by omega) (by omega), ?_⟩
        rw [if_pos ⟨by omega, by rw [X2.w.len]; omega⟩]
        have ei : a + (0 + (i : Int)) = a + (i : Int) := by omega
        rw [ei]
        refine ⟨_, _, rfl, ⟨by rw [upd_ne nBc]; exact X2.b, X2.w.put (wd := .no) rfl (clear_good X.w.good (i + 1)), by rw [upd_ne ndc]; exact X2.t⟩, fun b u n1 n2 q => by rw [upd_ne n1]; exact bt b u n1 n2 q⟩
      · rintro σ H2 ⟨v2, xs', rfl, X2, bt⟩
        exact k xs' H2 X2 bt
/-- memory -/
def spBM (CB CM : Addr) : Sp := fun vs H Q _ => ∃ N B dB m c dx xs ws d kvs, vs = [.ref B] ∧ Bx CB CM N H B dB m c dx xs ws d kvs ∧ ∀ o c' dx' H', Same H H' → H c' = none → H o = none → c' ≠ o → Mem CM H' o c' dx' xs → Q (.ref o) H'
theorem ok_bm {f : Addr} {fd fdC : FuncData} (F : Fun K "memory" "Boxes.memory" sB5 f fd) (MM : MemC K CM fMI fSz fAt fPut fCp fLk) (M : BoxC K CB fBI fBL fBT fBP fBC fBM fBF fLF fLT)
    (GC : FnOk P w K mg base (CXE P w) 3 fCp fdC ["self"] (spCp CM)) (bC : Binds K fdC ["self"] []) : FnOk P w K mg base (CXE P w) 4 f fd ["self"] (spBM CB CM) := by
  refine F.okE (N := ["self"]) ⟨rfl, rfl, rfl, by decide +kernel, rfl, by decide +kernel, by decide +kernel⟩ (fun vs H Q E h => ?_) (fun cdv A outer s H vs Q E hr h => ?_)
  · obtain ⟨N, B, dB, m, c, dx, xs, ws, d, kvs, rfl, _⟩ := h
    rfl
  · obtain ⟨N, B, dB, m, c, dx, xs, ws, d, kvs, rfl, X, k⟩ := h
    have big := X.w.big
    refine ⟨_, PSs.nox (pss_one (ps_ret (xe_meth0 (pe_fld (pv 0) rfl) MM.c MM.cp GC hr bC .nil passN))), ?_⟩
    exact ⟨_, rfl, B, CB, dB, _, .ref m, rfl, X.b, M.c, M.nw, rfl, m, dx, _, rfl, X.w.mem.1, rfl, m, c, dx, xs, rfl, X.w.mem, by rw [X.w.len]; omega, k⟩
/-- firsts -/
def spBF (CB CM : Addr) : Sp := fun vs H Q _ => ∃ N B dB m c dx xs ws d kvs, ∃ ks : List Int, vs = [.ref B] ∧ Bx CB CM N H B dB m c dx xs ws d kvs ∧ kvs.map (·.1) = ks.map Sum.inl ∧ ks.length < 64 ∧ ∀ (l : Addr) (ns : List Int), H l = none → ns.Perm ks → ns.Pairwise (· ≤ ·) → Q (.ref l) (upd H l (.lst (ns.map V.int)))
theorem ok_bf {f : Addr} {fd : FuncData} (F : Fun K "firsts" "Boxes.firsts" sB6 f fd) (T : Txt K mg CH d0 dR fXI) (M : BoxC K CB fBI fBL fBT fBP fBC fBM fBF fLF fLT) : FnOk P w K mg base (CXE P w) 1 f fd ["self"] (spBF CB CM) := by
  refine F.okE (N := ["self"]) ⟨rfl, rfl, rfl, by decide +kernel, rfl, by decide +kernel, by decide +kernel⟩ (fun vs H Q E h => ?_) (fun cdv A outer s H vs Q E hr h => ?_)
  · obtain ⟨N, B, dB, m, c, dx, xs, ws, d, kvs, ks, rfl, _⟩ := h
    rfl
  · obtain ⟨N, B, dB, m, c, dx, xs, ws, d, kvs, ks, rfl, X, hk, h64, k⟩ := h
    refine ⟨_, pss_one (ps_ret (pe_callB (call_sortedD rfl) rfl T.z_sorted PyProof.Rows.Boot.«sorted» (pa_cons (pe_fld (pv 0) rfl) pa_nil))), ?_⟩
    exact ⟨_, rfl, B, CB, dB, _, .ref d, rfl, X.b, M.c, M.nt, rfl, d, kvs, ks, rfl, X.t, hk, h64, fun p ns hp h1 h2 => k p ns hp h1 h2⟩
/-- Boxes(many) -/
def spBI (CB CM : Addr) : Sp := fun vs H Q _ => ∃ B dB, ∃ n : Nat, vs = [.ref B, .int n] ∧ H B = some (.ins CB dB []) ∧ n ≤ 13 ∧
  ∀ m c dx d H', But B H H' → H c = none → H d = none → Bx CB CM (7 * n) H' B dB m c dx (List.replicate (7 * n) .non) (List.replicate (7 * n) .no) d [] → Q .non H'
theorem ok_bi {f : Addr} {fd fdI : FuncData} {tk : Tok} (F : Fun K "__init__" "Boxes.__init__" sB0 f fd) (MM : MemC K CM fMI fSz fAt fPut fCp fLk) (M : BoxC K CB fBI fBL fBT fBP fBC fBM fBF fLF fLT) (hc : mg "BOX_WORDS" = some (.int 7 tk)) (mM : mg "Memory" = some (.ref CM))
    (GI : FnOk P w K mg base (CXE P w) 1 fMI fdI ["self", "size"] (spMI CM)) (bI : Binds K fdI ["self", "size"] []) : FnOk P w K mg base (CXE P w) 3 f fd ["self", "many"] (spBI CB CM) := by
  refine F.okE (N := ["self", "many"]) ⟨rfl, rfl, rfl, by decide +kernel, rfl, by decide +kernel, by decide +kernel⟩ (fun vs H Q E h => ?_) (fun cdv A outer s H vs Q E hr h => ?_)
  · obtain ⟨B, dB, n, rfl, _⟩ := h
    rfl
  · obtain ⟨B, dB, n, rfl, hB, hn, k⟩ := h
    refine ⟨_, PSs.nox (pss_cons (ps_fld (pv 0) (pe_make MM.mke GI hr rfl mM bI .nil passF0 (pa_cons (pe_op op_mul (pe_glob (v := .int 7) rfl hc ⟨_, rfl⟩) (pv 1)) pa_nil)) rfl) (pss_one (ps_fld (pv 0) pe_dnewK rfl))), ?_⟩
    refine ⟨_, rfl, 7, (n : Int), rfl, rfl, .inl ⟨by decide, by decide⟩, fun m dx hm hdx nd => ?_⟩
    refine ⟨m, dx, 7 * (n : Int), rfl, upd_same, by omega, by omega, fun c H1 b1 hc1 hcl hml => ⟨rfl, ?_⟩⟩
    have nBm : B ≠ m := ne_of_none hB hm
    have s1 : Same H H1 := fun b u q => b1 b u (ne_of_none q hm) (by rw [upd_ne (ne_of_none q hm), upd_ne (ne_of_none q hdx)]; exact q)
    have hc0 : H c = none := by
      cases q : H c with
      | none => rfl
      | some u => rw [upd_ne (ne_of_none q hm), upd_ne (ne_of_none q hdx), q] at hc1; cases hc1
    have B1 := s1 _ _ hB
    have nBc : B ≠ c := ne_of_none hB hc0
    refine ⟨_, rfl, B, CB, dB, [], rfl, B1, M.c, M.nw, by decide, ?_⟩
    intro d hd
    have nBd : B ≠ d := ne_of_none upd_same hd
    have nmd : m ≠ d := ne_of_none (by rw [upd_ne (Ne.symm nBm)]; exact hml) hd
    have ncd : c ≠ d := ne_of_none (by rw [upd_ne (Ne.symm nBc)]; exact hcl) hd
    have hd0 : H d = none := by
      rw [upd_ne (Ne.symm nBd)] at hd
      exact none_of_same s1 hd
    refine ⟨_, rfl, B, CB, dB, _, rfl, (by rw [upd_ne nBd]; exact upd_same), M.c, M.nt, by show 1 < 1000; decide, ?_⟩
    have e7 : (7 * (n : Int)).toNat = 7 * n := by omega
    rw [e7] at hcl
    refine k m c dx d _ (fun b u nb q => ?_) hc0 hd0 ⟨upd_same, ⟨⟨?_, ?_⟩, ⟨by rw [List.length_replicate, List.length_replicate], fun i v w a b => ?_⟩, ⟨List.length_replicate, fun w hw t n e => ?_⟩, by omega⟩, ?_⟩
    · rw [upd_ne nb, upd_ne (ne_of_none q hd0), upd_ne nb]
      exact s1 b u q
    · rw [upd_ne (Ne.symm nBm), upd_ne nmd, upd_ne (Ne.symm nBm)]; exact hml
    · rw [upd_ne (Ne.symm nBc), upd_ne ncd, upd_ne (Ne.symm nBc)]; exact hcl
    · rw [List.getElem?_replicate] at a b
      split at a
      · rename_i q
        rw [if_pos q] at b
        cases a
        cases b
        rfl
      · cases a
    · rw [List.eq_of_mem_replicate hw] at e
      cases e
    · rw [upd_ne (Ne.symm nBd), upd_same]
end
end K61
end
section
set_option Elab.async false
set_option linter.all false
set_option maxRecDepth 100000
namespace K61
/-! ### rows of boxes -/
abbrev Row := Option (Int × List Wc)
def box : Row → List Wc
  | none => List.replicate 7 .no
  | some (t, fs) => .hd t fs.length :: (fs ++ List.replicate (6 - fs.length) .no)
def RowOk : Row → Prop
  | none => True
  | some (_, fs) => fs.length ≤ 6 ∧ ∀ x ∈ fs, NotHd x
theorem box_len {r : Row} (h : RowOk r) : (box r).length = 7 := by
  cases r with
  | none => rfl
  | some p =>
    obtain ⟨t, fs⟩ := p
    have h1 : fs.length ≤ 6 := h.1
    simp only [box, List.length_cons, List.length_append, List.length_replicate]
    omega
def wordsOf (rows : List Row) : List Wc := (rows.map box).flatten
def AllOk (rows : List Row) : Prop := ∀ r ∈ rows, RowOk r
theorem AllOk.set {rows : List Row} {b : Nat} {r : Row} (h : AllOk rows) (hr : RowOk r) : AllOk (rows.set b r) := fun x hx => by
  rcases List.mem_or_eq_of_mem_set hx with q | q
  · exact h x q
  · rw [q]; exact hr
theorem words_len : ∀ {rows : List Row}, AllOk rows → (wordsOf rows).length = 7 * rows.length
  | [], _ => rfl
  | r :: rs, h => by
    have h1 := box_len (h r (List.mem_cons_self ..))
    have h2 := words_len (rows := rs) fun x hx => h x (List.mem_cons_of_mem _ hx)
    unfold wordsOf at h2 ⊢
    rw [List.map_cons, List.flatten_cons, List.length_append, h1, h2, List.length_cons]
    omega
theorem words_at : ∀ {rows : List Row}, AllOk rows → ∀ (j : Nat), (wordsOf rows)[j]? = (rows[j / 7]?).bind fun r => (box r)[j % 7]?
  | [], _, j => by simp [wordsOf]
  | r :: rs, h, j => by
    have h1 := box_len (h r (List.mem_cons_self ..))
    have ih := words_at (rows := rs) fun x hx => h x (List.mem_cons_of_mem _ hx)
    unfold wordsOf at ih ⊢
    rw [List.map_cons, List.flatten_cons]
    by_cases q : j < 7
    · rw [List.getElem?_append_left (by omega), Nat.div_eq_of_lt q, Nat.mod_eq_of_lt q]
      rfl
    · rw [List.getElem?_append_right (by omega), h1, ih (j - 7)]
      have e1 : j / 7 = (j - 7) / 7 + 1 := by omega
      have e2 : j % 7 = (j - 7) % 7 := by omega
      rw [e1, e2, List.getElem?_cons_succ]
theorem words_box {rows : List Row} {b : Nat} {r : Row} (h : AllOk rows) (e : rows[b]? = some r) {j : Nat} (hj : j / 7 = b) : (wordsOf rows)[j]? = (box r)[j % 7]? := by
  rw [words_at h, hj, e]
  rfl
theorem words_set {rows : List Row} {b : Nat} {r : Row} (h : AllOk rows) (hr : RowOk r) (hb : b < rows.length) (j : Nat) : (wordsOf (rows.set b r))[j]? = if j / 7 = b then (box r)[j % 7]? else (wordsOf rows)[j]? := by
  rw [words_at (h.set hr)]
  split
  · rename_i q
    rw [q, List.getElem?_set_self hb]
    rfl
  · rename_i q
    rw [List.getElem?_set_ne (fun z => q z.symm), ← words_at h]
/-- laid, word by word -/
theorem laid_at {ws wv : List Wc} {a t : Int} (h0 : 0 ≤ a) (hl : a + wv.length < ws.length) : ∀ (i : Nat), i ≤ wv.length → ∀ j : Nat, (laidN ws a t wv i)[j]? = if (j : Int) = a then some (.hd t wv.length) else if a < j ∧ (j : Int) ≤ a + i then wv[j - a.toNat - 1]? else ws[j]?
  | 0, _, j => by
    show (ws.set a.toNat (.hd t wv.length))[j]? = _
    rw [List.getElem?_set]
    split
    · rename_i q
      rw [if_pos (by omega), if_pos (by omega)]
    · rename_i q
      rw [if_neg (by omega), if_neg (by omega)]
  | i + 1, hi, j => by
    have ih := laid_at (t := t) h0 hl i (by omega) j
    have hlen : ∀ k, (laidN ws a t wv k).length = ws.length := fun k => by
      induction k with
      | zero => exact List.length_set
      | succ k ihk =>
        show (match wv[k]? with | some wd => (laidN ws a t wv k).set (a + 1 + k).toNat wd | none => laidN ws a t wv k).length = _
        cases wv[k]? with
        | none => exact ihk
        | some wd => rw [List.length_set]; exact ihk
    have e : wv[i]? = some wv[i] := List.getElem?_eq_getElem (by omega)
    show (match wv[i]? with | some wd => (laidN ws a t wv i).set (a + 1 + i).toNat wd | none => laidN ws a t wv i)[j]? = _
    rw [e]
    show ((laidN ws a t wv i).set (a + 1 + i).toNat wv[i])[j]? = _
    rw [List.getElem?_set]
    split
    · rename_i q
      rw [if_pos (by rw [hlen]; omega), if_neg (by omega), if_pos (by omega), show j - a.toNat - 1 = i by omega, e]
    · rename_i q
      rw [ih]
      by_cases q1 : (j : Int) = a
      · rw [if_pos q1, if_pos q1]
      · rw [if_neg q1, if_neg q1]
        by_cases q2 : a < j ∧ (j : Int) ≤ a + i
        · rw [if_pos q2, if_pos (by omega)]
        · rw [if_neg q2, if_neg (by omega)]
theorem laid_words {rows : List Row} {b : Nat} {t : Int} {wv : List Wc} (h : AllOk rows) (e : rows[b]? = some none) (hw : wv.length ≤ 6) (hn : ∀ x ∈ wv, NotHd x) : laidN (wordsOf rows) (7 * (b : Int)) t wv wv.length = wordsOf (rows.set b (some (t, wv))) := by
  have hb := (List.getElem?_eq_some_iff.mp e).1
  have hL := words_len h
  refine List.ext_getElem? fun j => ?_
  rw [laid_at (by omega) (by omega) wv.length (Nat.le_refl _) j, words_set h (r := some (t, wv)) ⟨hw, hn⟩ hb]
  by_cases q : j / 7 = b
  · rw [if_pos q]
    have ej : j = 7 * b + j % 7 := by omega
    by_cases q1 : j % 7 = 0
    · rw [if_pos (by omega), q1]
      rfl
    · rw [if_neg (by omega)]
      obtain ⟨k, hk⟩ : ∃ k, j % 7 = k + 1 := ⟨j % 7 - 1, by omega⟩
      have k6 : k < 6 := by omega
      rw [hk]
      show _ = (Wc.hd t wv.length :: (wv ++ List.replicate (6 - wv.length) .no))[k + 1]?
      rw [List.getElem?_cons_succ]
      by_cases q2 : k < wv.length
      · rw [if_pos (by omega), List.getElem?_append_left q2, show j - (7 * (b : Int)).toNat - 1 = k by omega]
      · rw [if_neg (by omega), List.getElem?_append_right (by omega), words_box h e q, hk]
        show (List.replicate 7 Wc.no)[k + 1]? = _
        rw [List.getElem?_replicate, List.getElem?_replicate, if_pos (by omega), if_pos (by omega)]
  · rw [if_neg q, if_neg (by omega), if_neg (by omega)]
theorem clear_at {ws : List Wc} {a : Int} (h0 : 0 ≤ a) : ∀ (i : Nat), a + i ≤ ws.length → ∀ j : Nat, (clearN ws a i)[j]? = if a ≤ j ∧ (j : Int) < a + i then some .no else ws[j]?
  | 0, _, j => by
    rw [if_neg (by omega)]
    rfl
  | i + 1, hi, j => by
    have ih := clear_at (ws := ws) h0 i (by omega) j
    have hlen : ∀ k, (clearN ws a k).length = ws.length := fun k => by
      induction k with
      | zero => rfl
      | succ k ihk => show ((clearN ws a k).set _ _).length = _; rw [List.length_set]; exact ihk
    show ((clearN ws a i).set (a + (i : Int)).toNat .no)[j]? = _
    rw [List.getElem?_set]
    split
    · rename_i q
      rw [if_pos (by rw [hlen]; omega), if_pos (by omega)]
    · rename_i q
      rw [ih]
      by_cases q2 : a ≤ j ∧ (j : Int) < a + i
      · rw [if_pos q2, if_pos (by omega)]
      · rw [if_neg q2, if_neg (by omega)]
theorem clear_words {rows : List Row} {b : Nat} (h : AllOk rows) (hb : b < rows.length) : clearN (wordsOf rows) (7 * (b : Int)) 7 = wordsOf (rows.set b none) := by
  have hL := words_len h
  refine List.ext_getElem? fun j => ?_
  rw [clear_at (by omega) 7 (by omega) j, words_set h (r := none) trivial hb]
  by_cases q : j / 7 = b
  · rw [if_pos q, if_pos (by omega)]
    show _ = (List.replicate 7 Wc.no)[j % 7]?
    rw [List.getElem?_replicate, if_pos (by omega)]
  · rw [if_neg q, if_neg (by omega)]
theorem put_words {rows : List Row} {b : Nat} {t : Int} {fs : List Wc} {k : Nat} {wd : Wc} (h : AllOk rows) (e : rows[b]? = some (some (t, fs))) (hk : k < fs.length) (hw : NotHd wd) : (wordsOf rows).set (7 * (b : Int) + 1 + (k : Int)).toNat wd = wordsOf (rows.set b (some (t, fs.set k wd))) := by
  have hb := (List.getElem?_eq_some_iff.mp e).1
  have hL := words_len h
  have hr : RowOk (some (t, fs)) := h _ (List.mem_of_getElem? e)
  have h6 : fs.length ≤ 6 := hr.1
  refine List.ext_getElem? fun j => ?_
  rw [words_set h (r := some (t, fs.set k wd)) ⟨by rw [List.length_set]; exact h6, fun x hx => by
    rcases List.mem_or_eq_of_mem_set hx with q | q
    · exact hr.2 x q
    · rw [q]; exact hw⟩ hb, List.getElem?_set]
  have eb : ∀ i : Nat, (box (some (t, fs.set k wd)))[i]? = if i = k + 1 then some wd else (box (some (t, fs)))[i]? := fun i => by
    show (Wc.hd t (fs.set k wd).length :: (fs.set k wd ++ List.replicate (6 - (fs.set k wd).length) .no))[i]? = if i = k + 1 then some wd else (Wc.hd t fs.length :: (fs ++ List.replicate (6 - fs.length) .no))[i]?
    rw [List.length_set]
    cases i with
    | zero => rw [if_neg (by omega)]; rfl
    | succ i =>
      rw [List.getElem?_cons_succ, List.getElem?_cons_succ]
      by_cases q : i < fs.length
      · rw [List.getElem?_append_left (by rw [List.length_set]; exact q), List.getElem?_append_left q, List.getElem?_set]
        split
        · rename_i z
          rw [if_pos (by omega)]
        · rename_i z
          rw [if_neg (by omega)]
      · rw [List.getElem?_append_right (by rw [List.length_set]; omega), List.getElem?_append_right (by omega), List.length_set, if_neg (by omega)]
  by_cases q : j / 7 = b
  · rw [if_pos q, eb, words_box h e q]
    split
    · rename_i z
      rw [if_pos (by omega), if_pos (by omega)]
    · rename_i z
      rw [if_neg (by omega)]
  · rw [if_neg q, if_neg (by omega)]
theorem thg_words {rows : List Row} {b : Nat} {t : Int} {fs : List Wc} (h : AllOk rows) (e : rows[b]? = some (some (t, fs))) : thg (wordsOf rows) (7 * (b : Int)) = some (t, (fs.length : Int)) := by
  have hb := (List.getElem?_eq_some_iff.mp e).1
  have hL := words_len h
  have h6 : fs.length ≤ 6 := (h _ (List.mem_of_getElem? e)).1
  have e0 : (wordsOf rows)[(7 * (b : Int)).toNat]? = some (.hd t fs.length) := by
    rw [words_box h e (by omega), show (7 * (b : Int)).toNat % 7 = 0 by omega]
    rfl
  unfold thg
  rw [if_pos (by omega), e0]
  simp only
  rw [if_pos (by omega)]
theorem seg_words {rows : List Row} {b : Nat} {t : Int} {fs : List Wc} (h : AllOk rows) (e : rows[b]? = some (some (t, fs))) : seg (wordsOf rows) (7 * (b : Int)) (fs.length : Int) = fs := by
  have hb := (List.getElem?_eq_some_iff.mp e).1
  have hL := words_len h
  have h6 : fs.length ≤ 6 := (h _ (List.mem_of_getElem? e)).1
  refine List.ext_getElem? fun i => ?_
  by_cases q : i < fs.length
  · rw [seg_at (by omega) (by omega), words_box h e (by omega), show (7 * (b : Int) + 1 + (i : Int)).toNat % 7 = i + 1 by omega]
    show (Wc.hd t fs.length :: (fs ++ List.replicate (6 - fs.length) .no))[i + 1]? = _
    rw [List.getElem?_cons_succ, List.getElem?_append_left q]
  · rw [List.getElem?_eq_none (by unfold seg; rw [List.length_take]; omega), List.getElem?_eq_none (by omega)]
/-- the first addresses -/
def firstsTo (rows : List Row) : Nat → List Int
  | 0 => []
  | n + 1 => if (rows[n]?.bind id).isSome then firstsTo rows n ++ [7 * (n : Int)] else firstsTo rows n
def firsts (rows : List Row) : List Int := firstsTo rows rows.length
def taken (rows : List Row) (b : Nat) : Prop := ∃ p, rows[b]? = some (some p)
theorem mem_firstsTo {rows : List Row} : ∀ {n : Nat} {a : Int}, a ∈ firstsTo rows n ↔ ∃ b : Nat, b < n ∧ a = 7 * (b : Int) ∧ taken rows b
  | 0, a => ⟨fun h => (by cases h), fun ⟨b, h, _⟩ => by omega⟩
  | n + 1, a => by
    have ih := mem_firstsTo (rows := rows) (n := n) (a := a)
    have tk : (rows[n]?.bind id).isSome = true ↔ taken rows n := by
      unfold taken
      cases rows[n]? with
      | none => simp
      | some r => cases r <;> simp
    unfold firstsTo
    split
    · rename_i q
      rw [List.mem_append, ih, List.mem_singleton]
      constructor
      · rintro (⟨b, h1, h2, h3⟩ | h)
        · exact ⟨b, by omega, h2, h3⟩
        · exact ⟨n, by omega, h, tk.mp q⟩
      · rintro ⟨b, h1, h2, h3⟩
        by_cases z : b = n
        · subst z; exact .inr h2
        · exact .inl ⟨b, by omega, h2, h3⟩
    · rename_i q
      rw [ih]
      constructor
      · rintro ⟨b, h1, h2, h3⟩
        exact ⟨b, by omega, h2, h3⟩
      · rintro ⟨b, h1, h2, h3⟩
        by_cases z : b = n
        · subst z; exact absurd (tk.mpr h3) q
        · exact ⟨b, by omega, h2, h3⟩
theorem firstsTo_lt {rows : List Row} : ∀ {n : Nat}, (firstsTo rows n).Pairwise (· < ·)
  | 0 => .nil
  | n + 1 => by
    unfold firstsTo
    split
    · rw [List.pairwise_append]
      refine ⟨firstsTo_lt, by simp, fun a ha b hb => ?_⟩
      obtain ⟨i, h1, h2, _⟩ := mem_firstsTo.mp ha
      rw [List.mem_singleton.mp hb]
      omega
    · exact firstsTo_lt
theorem firstsTo_le {rows : List Row} : ∀ n : Nat, (firstsTo rows n).length ≤ n
  | 0 => Nat.le_refl _
  | n + 1 => by
    have := firstsTo_le (rows := rows) n
    unfold firstsTo
    split
    · rw [List.length_append]; simp; omega
    · omega
theorem mem_firsts {rows : List Row} {a : Int} : a ∈ firsts rows ↔ ∃ b : Nat, a = 7 * (b : Int) ∧ taken rows b := by
  unfold firsts
  rw [mem_firstsTo]
  constructor
  · rintro ⟨b, _, h⟩; exact ⟨b, h⟩
  · rintro ⟨b, h, p, e⟩; exact ⟨b, (List.getElem?_eq_some_iff.mp e).1, h, p, e⟩
theorem perm_firsts {rows : List Row} {ks : List Int} (hn : ks.Nodup) (h : ∀ a : Int, a ∈ ks ↔ ∃ b : Nat, a = 7 * (b : Int) ∧ taken rows b) : ks.Perm (firsts rows) :=
  (List.perm_ext_iff_of_nodup hn (firstsTo_lt.imp fun h => Int.ne_of_lt h)).mpr fun a => (h a).trans mem_firsts.symm
theorem taken_set {rows : List Row} {b : Nat} {r : Row} (hb : b < rows.length) (j : Nat) : taken (rows.set b r) j ↔ if j = b then r.isSome = true else taken rows j := by
  unfold taken
  split
  · rename_i q
    rw [q, List.getElem?_set_self hb]
    cases r <;> simp
  · rename_i q
    rw [List.getElem?_set_ne (fun z => q z.symm)]
end K61
end
section
set_option Elab.async false
set_option linter.all false
set_option maxRecDepth 100000
set_option maxHeartbeats 4000000
set_option exponentiation.threshold 4000
namespace K61
open PySem L2 LX
/-- the law's rows of boxes, at R; vl: where the fields are kept -/
structure RA (H : Hp) (R : Addr) (rs : List V) (rows : List Row) (vl : Nat → Addr) : Prop where
  at_ : H R = some (.lst rs)
  len : rs.length = rows.length
  no : ∀ b : Nat, rows[b]? = some none → rs[b]? = some V.non
  so : ∀ (b : Nat) (t : Int) (fs : List Wc), rows[b]? = some (some (t, fs)) → ∃ (p : Addr) (us : List V), rs[b]? = some (V.ref p) ∧ H p = some (.tup [.int t, .ref (vl b)]) ∧ H (vl b) = some (.lst us) ∧ Rel H us fs
  inj : ∀ b b', taken rows b → taken rows b' → vl b = vl b' → b = b'
  ne : ∀ b, taken rows b → vl b ≠ R
theorem RA.same {H H' : Hp} {R : Addr} {rs : List V} {rows : List Row} {vl : Nat → Addr} (r : RA H R rs rows vl) (s : Same H H') : RA H' R rs rows vl :=
  ⟨s _ _ r.at_, r.len, r.no, fun b t fs e => by
    obtain ⟨p, us, h1, h2, h3, h4⟩ := r.so b t fs e
    exact ⟨p, us, h1, s _ _ h2, s _ _ h3, h4.keep (Tups.of s)⟩, r.inj, r.ne⟩
/-- where something else changes -/
theorem RA.but {H H' : Hp} {c d R : Addr} {rs ys : List V} {kvs : List (Key × V)} {rows : List Row} {vl : Nat → Addr} (r : RA H R rs rows vl) (hc : H c = some (.lst ys)) (hd : H d = some (.dK kvs)) (bt : But2 c d H H') (nR : R ≠ c) (nv : ∀ b, taken rows b → vl b ≠ c) : RA H' R rs rows vl := by
  have tp : Tups H H' := fun t us q => bt t _ (ne_of q hc (by intro z; cases z)) (ne_of q hd (by intro z; cases z)) q
  refine ⟨bt R _ nR (ne_of r.at_ hd (by intro z; cases z)) r.at_, r.len, r.no, fun b t fs e => ?_, r.inj, r.ne⟩
  obtain ⟨p, us, h1, h2, h3, h4⟩ := r.so b t fs e
  exact ⟨p, us, h1, tp _ _ h2, bt _ _ (nv b ⟨_, e⟩) (ne_of h3 hd (by intro z; cases z)) h3, h4.keep tp⟩
theorem val_none {kvs : List (Key × V)} {ks : List Int} (hk : kvs.map (·.1) = ks.map Sum.inl) (a : Int) : valV kvs (Sum.inl a) = none ↔ a ∉ ks := by
  have h1 : (kvs.any fun kv => decide (kv.1 = Sum.inl a)) = true ↔ a ∈ ks := by
    rw [List.any_eq_true]
    constructor
    · rintro ⟨p, hp, e⟩
      have e : p.1 = Sum.inl a := by simpa using e
      have : (Sum.inl a : Key) ∈ kvs.map (·.1) := List.mem_map.mpr ⟨p, hp, e⟩
      rw [hk] at this
      obtain ⟨z, hz, e2⟩ := List.mem_map.mp this
      injection e2 with e2
      rw [← e2]
      exact hz
    · intro h
      have : (Sum.inl a : Key) ∈ kvs.map (·.1) := by rw [hk]; exact List.mem_map.mpr ⟨a, h, rfl⟩
      obtain ⟨p, hp, e⟩ := List.mem_map.mp this
      exact ⟨p, hp, by simpa using e⟩
  rw [valV_any] at h1
  cases e : valV kvs (Sum.inl a) with
  | none => rw [e] at h1; exact ⟨fun _ h => absurd (h1.mpr h) (by decide), fun _ => rfl⟩
  | some v => rw [e] at h1; exact ⟨(fun z => nomatch z), fun h => absurd (h1.mp rfl) h⟩
/-- the firsts that are kept -/
def Keys (kvs : List (Key × V)) (rows : List Row) : Prop := ∃ ks : List Int, kvs.map (·.1) = ks.map Sum.inl ∧ ks.Nodup ∧ ∀ a : Int, a ∈ ks ↔ ∃ b : Nat, a = 7 * (b : Int) ∧ taken rows b
theorem Keys.nil0 {kvs : List (Key × V)} {rows : List Row} (h : Keys kvs rows) (a : Int) : valV kvs (Sum.inl a) = none ↔ ¬ ∃ b : Nat, a = 7 * (b : Int) ∧ taken rows b := by
  obtain ⟨ks, h1, _, h3⟩ := h
  rw [val_none h1, h3]
theorem Keys.nil7 {kvs : List (Key × V)} {rows : List Row} (h : Keys kvs rows) (b : Nat) : valV kvs (Sum.inl (7 * (b : Int))) = none ↔ ¬ taken rows b := by
  rw [h.nil0]
  constructor
  · exact fun q z => q ⟨b, rfl, z⟩
  · rintro q ⟨b', e, z⟩
    have : b' = b := by omega
    rw [this] at z
    exact q z
theorem Keys.put {kvs : List (Key × V)} {rows : List Row} {b : Nat} {p : Int × List Wc} {v : V} (h : Keys kvs rows) (hb : b < rows.length) (hn : ¬ taken rows b) : Keys (putK kvs (Sum.inl (7 * (b : Int))) v) (rows.set b (some p)) := by
  have e := (h.nil7 b).mpr hn
  obtain ⟨ks, h1, h2, h3⟩ := h
  refine ⟨ks ++ [7 * (b : Int)], ?_, ?_, fun a => ?_⟩
  · rw [putK_new v e, List.map_append, List.map_append, h1]
    rfl
  · rw [List.nodup_append]
    refine ⟨h2, by simp, fun x hx y hy z => ?_⟩
    rw [List.mem_singleton.mp hy] at z
    rw [z] at hx
    exact (val_none h1 _).mp e hx
  · rw [List.mem_append, List.mem_singleton, h3]
    constructor
    · rintro (⟨b', e, z⟩ | q)
      · refine ⟨b', e, (taken_set hb b').mpr ?_⟩
        split
        · rfl
        · exact z
      · exact ⟨b, q, (taken_set hb b).mpr (by rw [if_pos rfl]; rfl)⟩
    · rintro ⟨b', e, z⟩
      have z := (taken_set hb b').mp z
      split at z
      · rename_i q
        rw [q] at e
        exact .inr e
      · exact .inl ⟨b', e, z⟩
theorem Keys.drop {kvs : List (Key × V)} {rows : List Row} {b : Nat} (h : Keys kvs rows) (hb : b < rows.length) : Keys (dropK kvs (Sum.inl (7 * (b : Int)))) (rows.set b none) := by
  obtain ⟨ks, h1, h2, h3⟩ := h
  refine ⟨ks.filter fun a => decide (a ≠ 7 * (b : Int)), ?_, h2.sublist List.filter_sublist, fun a => ?_⟩
  · unfold dropK
    have e1 : (kvs.filter fun kv => decide (kv.1 ≠ Sum.inl (7 * (b : Int)))).map (·.1) = (kvs.map (·.1)).filter fun k => decide (k ≠ Sum.inl (7 * (b : Int))) := by
      rw [List.filter_map]
      rfl
    rw [e1, h1, List.filter_map]
    congr 1
    refine List.filter_congr fun x _ => ?_
    simp
  · rw [List.mem_filter, h3]
    constructor
    · rintro ⟨⟨b', e, z⟩, q⟩
      refine ⟨b', e, (taken_set hb b').mpr ?_⟩
      rw [if_neg (fun y => by simp at q; rw [y] at e; exact q e)]
      exact z
    · rintro ⟨b', e, z⟩
      have z := (taken_set hb b').mp z
      split at z
      · cases z
      · rename_i q
        exact ⟨⟨b', e, z⟩, by simp; omega⟩
theorem Keys.same {kvs : List (Key × V)} {rows rows' : List Row} (h : Keys kvs rows) (e : ∀ b, taken rows' b ↔ taken rows b) : Keys kvs rows' := by
  obtain ⟨ks, h1, h2, h3⟩ := h
  exact ⟨ks, h1, h2, fun a => (h3 a).trans ⟨fun ⟨b, q, z⟩ => ⟨b, q, (e b).mpr z⟩, fun ⟨b, q, z⟩ => ⟨b, q, (e b).mp z⟩⟩⟩
theorem Keys.len {kvs : List (Key × V)} {rows : List Row} (h : Keys kvs rows) : kvs.length ≤ rows.length := by
  obtain ⟨ks, h1, h2, h3⟩ := h
  have e := congrArg List.length h1
  rw [List.length_map, List.length_map] at e
  rw [e, (perm_firsts h2 h3).length_eq]
  exact firstsTo_le _
/-- two words of one content are the same through and through -/
theorem deep_word {K : PySem.W.Frag} {H : Hp} {u v : V} {x : Wc} (hu : WV H u x) (hv : WV H v x) : Deep K H 1 u v := by
  rcases hu.cases with ⟨rfl, rfl⟩ | ⟨p, rfl, hp⟩
  · rcases hv.cases with ⟨_, rfl⟩ | ⟨q, rfl, hq⟩
    · exact .flat rfl
    · cases (show V.ref q = V.non from hv)
  · rcases hv.cases with ⟨rfl, rfl⟩ | ⟨q, rfl, hq⟩
    · cases (show V.ref p = V.non from hu)
    · refine Deep.tup (SqT.of hp) (SqT.of hq) rfl fun j h1 _ => .flat ?_
      have hall : ∀ y ∈ x.its, flatV y = true := by
        cases x <;> simp [Wc.its, flatV]
      exact hall _ (List.getElem_mem h1)
theorem deep_words {K : PySem.W.Frag} {H : Hp} {xs ys : List V} {ws : List Wc} (hx : Rel H xs ws) (hy : Rel H ys ws) : ∀ j (h1 : j < xs.length) (h2 : j < ys.length), Deep K H 1 xs[j] ys[j] := fun j h1 h2 => by
  have hw : j < ws.length := by rw [← hx.1]; exact h1
  exact deep_word (hx.2 j _ _ (List.getElem?_eq_getElem h1) (List.getElem?_eq_getElem hw)) (hy.2 j _ _ (List.getElem?_eq_getElem h2) (List.getElem?_eq_getElem hw))
section
variable {N : Nat} {P : Program} {w : World} {K : PySem.W.Frag} {mg : Str → Option Value} {base : Heap} {CH d0 dR fXI : Addr} {CM fMI fSz fAt fPut fCp fLk : Addr} {CB fBI fBL fBT fBP fBC fBM fBF fLF fLT : Addr}
/-- _law_cell_at -/
def spCell (K : PySem.W.Frag) : Sp := fun vs H Q _ => ∃ (a : Addr) (ns : List Int), ∃ k : Nat, vs = [.ref a, .int k] ∧ SqL K H a (ns.map V.int) ∧ ∀ n : Int, 0 ≤ n → n < 10 ^ 61 → Q (.int n) H
theorem ok_cell {f : Addr} {fd : FuncData} (F : Fun K "_law_cell_at" "_law_cell_at" sCell f fd) (T : Txt K mg CH d0 dR fXI) : FnOk P w K mg base (CXE P w) 1 f fd ["script", "k"] (spCell K) := by
  refine F.okE (N := ["script", "k"]) ⟨rfl, rfl, rfl, by decide +kernel, rfl, by decide +kernel, by decide +kernel⟩ (fun vs H Q E h => ?_) (fun cdv A outer s H vs Q E hr h => ?_)
  · obtain ⟨a, ns, j, rfl, _⟩ := h
    rfl
  · obtain ⟨a, ns, j, rfl, hS, k⟩ := h
    refine ⟨_, pss_cons (ps_if (pt_cmpR op_lt (pv 1) (pe_callB call_len_seq rfl T.z_len PyProof.Rows.Boot.«len» (pa_cons (pv 0) pa_nil)) (nomark _)) (pss_one (ps_ret (pe_op op_mod (pe_ix ix_list (pv 0) (pv 1) (fun _ _ => rfl)) (pe_op op_pow pe_int pe_int)))) pss_nil) (pss_one (ps_ret pe_int)), ?_⟩
    refine ⟨_, rfl, _, rfl, a, _, rfl, .inl hS, _, _, rfl, rfl, _, rfl, ite2 (fun h => ?_) (fun _ => k 0 (by decide) (by decide))⟩
    simp only [List.length_map, decide_eq_true_eq] at h
    have hj : j < ns.length := by omega
    have hp : (0 : Int) < 10 ^ (61 : Int).toNat := by decide
    refine ⟨_, rfl, _, rfl, a, _, _, .int (ns[j]'hj), rfl, rfl, hS, atI_nat (by rw [List.getElem?_map, List.getElem?_eq_getElem hj]; rfl), 10, 61, rfl, rfl, ⟨by decide, by decide, by decide⟩, _, _, rfl, rfl, hp, ?_⟩
    exact k _ (Int.emod_nonneg _ (Int.ne_of_gt hp)) (Int.emod_lt_of_pos _ hp)
/-- _law_words -/
def spWords : Sp := fun vs H Q _ => ∃ R rs rows vl, vs = [.ref R] ∧ RA H R rs rows vl ∧ AllOk rows ∧ rows.length ≤ 13 ∧ ∀ p us H', Same H H' → H' p = some (.lst us) → Rel H' us (wordsOf rows) → Q (.ref p) H'
theorem scW : FnScope ["rows", "words", "row", "some"] ["rows"] (defScope sWords) := ⟨rfl, rfl, rfl, by decide +kernel, rfl, by decide +kernel, by decide +kernel⟩
theorem rel_app {H : Hp} {xs ys : List V} {ws vs : List Wc} (h1 : Rel H xs ws) (h2 : Rel H ys vs) : Rel H (xs ++ ys) (ws ++ vs) := by
  refine ⟨by rw [List.length_append, List.length_append, h1.1, h2.1], fun i v x a b => ?_⟩
  by_cases q : i < xs.length
  · rw [List.getElem?_append_left q] at a
    rw [List.getElem?_append_left (by rw [← h1.1]; exact q)] at b
    exact h1.2 i v x a b
  · rw [List.getElem?_append_right (by omega)] at a
    rw [List.getElem?_append_right (by rw [← h1.1]; omega), ← h1.1] at b
    exact h2.2 _ v x a b
theorem rel_none {H : Hp} (n : Nat) : Rel H (List.replicate n .non) (List.replicate n .no) := by
  refine ⟨by rw [List.length_replicate, List.length_replicate], fun i v x a b => ?_⟩
  rw [List.getElem?_replicate] at a b
  split at a
  · rename_i q
    rw [if_pos q] at b
    cases a; cases b; rfl
  · cases a
theorem words_take {rows : List Row} {i : Nat} {r : Row} (e : rows[i]? = some r) : wordsOf (rows.take (i + 1)) = wordsOf (rows.take i) ++ box r := by
  unfold wordsOf
  have hlt := (List.getElem?_eq_some_iff.mp e).1
  rw [List.take_succ_eq_append_getElem hlt, (List.getElem?_eq_some_iff.mp e).2, List.map_append, List.flatten_append]
  simp
theorem ok_words {f : Addr} {fd : FuncData} (F : Fun K "_law_words" "_law_words" sWords f fd) (T : Txt K mg CH d0 dR fXI) : FnOk P w K mg base (CXE P w) 1 f fd ["rows"] spWords := by
  refine F.okE scW (fun vs H Q E h => ?_) (fun cdv A outer s H vs Q E hr h => ?_)
  · obtain ⟨R, rs, rows, vl, rfl, _⟩ := h
    rfl
  · obtain ⟨R, rs, rows, vl, rfl, ra, ok, hn, k⟩ := h
    refine ⟨_, PSs.nox (pss_cons (ps_set (i := 1) scW.nd rfl (Or.inl rfl) (pe_lst pa_nil))
      (pss_cons (ps_for PassesOwn.never rfl (pi_list (pv 0)) (pg_name (i := 2) scW.nd rfl (Or.inl rfl))
        (pss_cons (ps_set (i := 3) scW.nd rfl (Or.inl rfl) (pe_lst pa_nil))
        (pss_cons (ps_if (pt_cmp (pc_notN (pv 2)))
          (pss_one (ps_set (i := 3) scW.nd rfl (Or.inl rfl) (pe_op op_cat (pe_lst (pa_cons (pe_tup (pa_cons pe_str (pa_cons (pe_ix ix_tup (pv 2) pe_int (fun _ _ => rfl)) (pa_cons (pe_callB call_len_seq rfl T.z_len PyProof.Rows.Boot.«len» (pa_cons (pe_ix ix_tup (pv 2) pe_int (fun _ _ => rfl)) pa_nil)) pa_nil)))) pa_nil)) (pe_ix ix_tup (pv 2) pe_int (fun _ _ => rfl))))) pss_nil)
        (pss_one (ps_set (i := 1) scW.nd rfl (Or.inl rfl) (pe_op op_cat (pe_op op_cat (pv 1) (pv 3)) (pe_comp (cl := []) (x := "k") (idx := []) (NC := ["k"]) ?co rfl (pi_range1 rfl T.z_range (pa_cons (pe_op op_sub pe_int (pe_callB call_len_seq rfl T.z_len PyProof.Rows.Boot.«len» (pa_cons (pv 3) pa_nil))) pa_nil)) (fun C fp s₀ H₀ => pe_non))))))))
      (pss_one (ps_ret (pv 1))))), ?_⟩
    case co =>
      exact comp_ok (sc := defScope sWords) (N := ["rows", "words", "row", "some"]) (ns := []) rfl rfl rfl (by decide +kernel) rfl rfl (by
        intro q hq
        cases hq)
    have rl : rs.length ≤ 13 := by rw [ra.len]; exact hn
    refine ⟨Nat.zero_le _, fun p0 hp0 => ?_⟩
    refine ⟨_, rfl, R, rfl, ⟨rs, SqL.of (Same.upd hp0 _ _ ra.at_)⟩, for_list (K := K) (a := R) (xs := rs) (fun i σ H2 => ∃ p us v2 v3, σ = [some (.ref R), some (.ref p), v2, v3] ∧ Same H H2 ∧ H2 p = some (.lst us) ∧ Rel H2 us (wordsOf (rows.take i)))
      ⟨p0, [], none, none, rfl, Same.upd hp0, upd_same, ⟨rfl, fun i v x a b => by cases a⟩⟩ (fun i σ H2 _ ⟨_, _, _, _, _, s2, _⟩ => SqL.of (s2 _ _ ra.at_)) ?_ ?_⟩
    · rintro i x σ H2 hi ⟨p, us, v2, v3, rfl, s2, hp, hrel⟩
      have hlt := (List.getElem?_eq_some_iff.mp hi).1
      obtain ⟨r, er⟩ : ∃ r, rows[i]? = some r := ⟨_, List.getElem?_eq_getElem (by rw [← ra.len]; exact hlt)⟩
      have okr := ok r (List.mem_of_getElem? er)
      have ul : us.length ≤ 91 := by
        have h1 := hrel.1
        have h2 := words_len (rows := rows.take i) fun x hx => ok x (List.mem_of_mem_take hx)
        rw [h1, h2, List.length_take]
        omega
      simp only [words_take er]
      refine ⟨Nat.zero_le _, fun p1 hp1 => ?_⟩
      have s3 := Same.upd (o := .lst []) hp1
      cases r with
      | none =>
        have ex : x = .non := by
          have := ra.no i er
          rw [hi] at this
          exact Option.some.inj this
        subst ex
        have z0 : ([] : List V).length = 0 := rfl
        have eb : box none = ([] : List Wc) ++ List.replicate (7 - ([] : List V).length) .no := rfl
        have r0 : Rel (upd H2 p1 (.lst [])) ([] : List V) [] := ⟨rfl, fun i v x a b => by cases a⟩
        refine ⟨_, rfl, _, rfl, iteNS rfl ?_⟩
        refine ⟨_, rfl, _, rfl, p, p1, us, ([] : List V), rfl, rfl, s3 _ _ hp, upd_same, Nat.le_trans (show us.length + (([] : List V)).length ≤ 98 by have := z0; omega) (by decide), fun q1 hq1 => ?_⟩
        have t1 := s3.trans (Same.upd (o := .lst (us ++ ([] : List V))) hq1)
        have z1 : upd (upd H2 p1 (.lst [])) q1 (.lst (us ++ ([] : List V))) p1 = some (.lst (([] : List V))) := Same.upd hq1 _ _ upd_same
        have hzl := z0
        refine ⟨_, rfl, p1, _, rfl, .inl (SqL.of z1), 7, _, rfl, rfl, _, rfl, by omega, by omega, fun D hD => ?_⟩
        first | rw [show (7 - ((([] : List V)).length : Int)).toNat = 7 - (([] : List V)).length by omega] | skip
        refine comp_range (lo := 0) (n := 7 - (([] : List V)).length) (fun i ys H5 => ys = List.replicate i .non ∧ Same (upd (upd H2 p1 (.lst [])) q1 (.lst (us ++ ([] : List V)))) H5 ∧ H5 D = some (.lst ys)) ⟨rfl, Same.upd hD, upd_same⟩ (fun i ys H5 hi ⟨e, _, z⟩ => ⟨z, by rw [e, List.length_replicate]⟩) (Nat.le_trans (show 7 - (([] : List V)).length ≤ 7 by omega) (by decide)) (fun i ys H5 hi ⟨e, s5, z⟩ => ?_) (fun ys H5 ⟨e, s5, z⟩ => ?_)
        · refine ⟨z, ?_, fun b u q => by rw [upd_ne (ne_of_none q hD)]; exact s5 b u q, upd_same⟩
          rw [e, List.replicate_succ']
        · have q1' : H5 q1 = some (.lst (us ++ ([] : List V))) := s5 _ _ upd_same
          refine ⟨q1, D, _, ys, rfl, rfl, q1', z, Nat.le_trans (show (us ++ ([] : List V)).length + ys.length ≤ 120 by rw [e, List.length_append, List.length_replicate]; omega) (by decide), fun q2 hq2 => ?_⟩
          have t5 := (t1.trans s5).trans (Same.upd (o := .lst ((us ++ ([] : List V)) ++ ys)) hq2)
          refine ⟨q2, _, _, _, rfl, s2.trans t5, upd_same, ?_⟩
          rw [eb, ← List.append_assoc (wordsOf (rows.take i))]
          exact rel_app (rel_app (hrel.keep (Tups.of t5)) (r0.keep (Tups.of ((((Same.upd hq1).trans s5).trans (Same.upd hq2)))))) (by rw [e]; exact rel_none _)
      | some q =>
        obtain ⟨t, fs⟩ := q
        obtain ⟨pt, us', e1, e2, e3, e4⟩ := ra.so i t fs er
        have ex : x = .ref pt := by
          rw [hi] at e1
          exact Option.some.inj e1
        subst ex
        have f6 : fs.length ≤ 6 := okr.1
        have u6 := e4.1
        have k2 := s2.trans s3
        refine ⟨_, rfl, _, rfl, ite2 (fun _ => ?_) (fun h => absurd (by simp) h)⟩
        refine ⟨_, rfl, pt, _, 0, .int t, rfl, rfl, SqT.of (k2 _ _ e2), rfl, _, rfl, pt, _, 1, .ref (vl i), rfl, rfl, SqT.of (k2 _ _ e2), rfl, vl i, us', rfl, .inl (SqL.of (k2 _ _ e3)), by show 3 ≤ sizeLine; decide, fun hp' hhp => ?_⟩
        have k3 := k2.trans (Same.upd (o := .tup [.str "head", .int t, .int us'.length]) hhp)
        refine ⟨by show 1 ≤ sizeLine; decide, fun l hl => ?_⟩
        have k4 := k3.trans (Same.upd (o := .lst [.ref hp']) hl)
        refine ⟨_, rfl, pt, _, 1, .ref (vl i), rfl, rfl, SqT.of (k4 _ _ e2), rfl, l, vl i, [.ref hp'], us', rfl, rfl, upd_same, k4 _ _ e3, Nat.le_trans (show 1 + us'.length ≤ 7 by omega) (by decide), fun p4 hp4 => ?_⟩
        obtain ⟨H4, e4'⟩ : ∃ H4, upd (upd (upd (upd H2 p1 (.lst [])) hp' (.tup [.str "head", .int t, .int us'.length])) l (.lst [.ref hp'])) p4 (.lst ([.ref hp'] ++ us')) = H4 := ⟨_, rfl⟩
        have s4 : Same H2 H4 := by rw [← e4']; exact ((s3.trans (Same.upd hhp)).trans (Same.upd hl)).trans (Same.upd hp4)
        have hh4 : H4 hp' = some (.tup [.str "head", .int t, .int us'.length]) := by rw [← e4']; exact ((Same.upd hl).trans (Same.upd hp4)) _ _ upd_same
        have hz4 : H4 p4 = some (.lst ([.ref hp'] ++ us')) := by rw [← e4']; exact upd_same
        rw [e4']
        have zl : ([V.ref hp'] ++ us').length ≤ 7 := by rw [List.length_append]; simp; omega
        have rz : Rel H4 ([.ref hp'] ++ us') (.hd t fs.length :: fs) := rel_app (xs := [.ref hp']) (ws := [.hd t fs.length]) ⟨rfl, fun j v y a b => by
          cases j with
          | zero =>
            cases a
            cases b
            exact ⟨hp', rfl, by rw [hh4, u6]; rfl⟩
          | succ j => cases a⟩ (e4.keep (Tups.of (s2.trans s4)))
        have eb : box (some (t, fs)) = (.hd t fs.length :: fs) ++ List.replicate (7 - ([V.ref hp'] ++ us').length) .no := by
          show Wc.hd t fs.length :: (fs ++ List.replicate (6 - fs.length) .no) = _
          rw [List.cons_append, List.length_append, u6, show 7 - ([V.ref hp'].length + fs.length) = 6 - fs.length by simp; omega]
        refine ⟨_, rfl, _, rfl, p, p4, us, ([V.ref hp'] ++ us'), rfl, rfl, s4 _ _ hp, hz4, Nat.le_trans (show us.length + (([V.ref hp'] ++ us')).length ≤ 98 by have := zl; omega) (by decide), fun q1 hq1 => ?_⟩
        have t1 := s4.trans (Same.upd (o := .lst (us ++ ([V.ref hp'] ++ us'))) hq1)
        have z1 : upd H4 q1 (.lst (us ++ ([V.ref hp'] ++ us'))) p4 = some (.lst (([V.ref hp'] ++ us'))) := Same.upd hq1 _ _ hz4
        have hzl := zl
        refine ⟨_, rfl, p4, _, rfl, .inl (SqL.of z1), 7, _, rfl, rfl, _, rfl, by omega, by omega, fun D hD => ?_⟩
        first | rw [show (7 - ((([V.ref hp'] ++ us')).length : Int)).toNat = 7 - (([V.ref hp'] ++ us')).length by omega] | skip
        refine comp_range (lo := 0) (n := 7 - (([V.ref hp'] ++ us')).length) (fun i ys H5 => ys = List.replicate i .non ∧ Same (upd H4 q1 (.lst (us ++ ([V.ref hp'] ++ us')))) H5 ∧ H5 D = some (.lst ys)) ⟨rfl, Same.upd hD, upd_same⟩ (fun i ys H5 hi ⟨e, _, z⟩ => ⟨z, by rw [e, List.length_replicate]⟩) (Nat.le_trans (show 7 - (([V.ref hp'] ++ us')).length ≤ 7 by omega) (by decide)) (fun i ys H5 hi ⟨e, s5, z⟩ => ?_) (fun ys H5 ⟨e, s5, z⟩ => ?_)
        · refine ⟨z, ?_, fun b u q => by rw [upd_ne (ne_of_none q hD)]; exact s5 b u q, upd_same⟩
          rw [e, List.replicate_succ']
        · have q1' : H5 q1 = some (.lst (us ++ ([V.ref hp'] ++ us'))) := s5 _ _ upd_same
          refine ⟨q1, D, _, ys, rfl, rfl, q1', z, Nat.le_trans (show (us ++ ([V.ref hp'] ++ us')).length + ys.length ≤ 120 by rw [e, List.length_append, List.length_replicate]; omega) (by decide), fun q2 hq2 => ?_⟩
          have t5 := (t1.trans s5).trans (Same.upd (o := .lst ((us ++ ([V.ref hp'] ++ us')) ++ ys)) hq2)
          refine ⟨q2, _, _, _, rfl, s2.trans t5, upd_same, ?_⟩
          rw [eb, ← List.append_assoc (wordsOf (rows.take i))]
          exact rel_app (rel_app (hrel.keep (Tups.of t5)) (rz.keep (Tups.of ((((Same.upd hq1).trans s5).trans (Same.upd hq2)))))) (by rw [e]; exact rel_none _)
    · rintro σ H2 ⟨p, us, v2, v3, rfl, s2, hp, hrel⟩
      rw [ra.len, List.take_of_length_le (Nat.le_refl _)] at hrel
      exact ⟨_, rfl, k p us H2 s2 hp hrel⟩
/-- _law_told: lay -/
def spT0 (CB CM : Addr) : Sp := fun vs H Q _ => ∃ (n : Nat) (B dB m c dx : Addr) (xs : List V) (ws : List Wc) (d : Addr) (kvs : List (Key × V)) (vl : Addr) (us : List V) (wv : List Wc) (kv : V), ∃ t : Int, vs = [.ref B, .int 0, .int t, kv, .ref vl] ∧ Bx CB CM (7 * n) H B dB m c dx xs ws d kvs ∧ H vl = some (.lst us) ∧ Rel H us wv ∧ us.length ≤ 6 ∧ (∀ x ∈ wv, NotHd x) ∧ vl ≠ c ∧ kvs.length ≤ 100 ∧
  (∀ i : Nat, i < n → (∀ j : Nat, j < i → valV kvs (Sum.inl (7 * (j : Int))) ≠ none) → valV kvs (Sum.inl (7 * (i : Int))) = none →
    ∀ xs' H', Bx CB CM (7 * n) H' B dB m c dx xs' (laidN ws (7 * (i : Int)) t wv wv.length) d (putK kvs (Sum.inl (7 * (i : Int))) (.bl true)) → But2 c d H H' → Q (.int (7 * (i : Int))) H') ∧
  ((∀ j : Nat, j < n → valV kvs (Sum.inl (7 * (j : Int))) ≠ none) → ∀ H', Same H H' → Q (.str "NoRoom") H')
theorem scD : FnScope ["boxes", "way", "a", "k", "word", "caught", "told", "e"] ["boxes", "way", "a", "k", "word"] (defScope sLTold) := ⟨rfl, rfl, rfl, by decide +kernel, rfl, by decide +kernel, by decide +kernel⟩
theorem ok_t0 {f : Addr} {fd fdL fdT fdP fdC : FuncData} (F : Fun K "_law_told" "_law_told" sLTold f fd) (T : Txt K mg CH d0 dR fXI) (M : BoxC K CB fBI fBL fBT fBP fBC fBM fBF fLF fLT)
    (GL : FnOk P w K mg base (CXE P w) 6 fBL fdL ["self", "t", "values"] (spBL CB CM dR)) (bL : Binds K fdL ["self", "t", "values"] []) (GT : FnOk P w K mg base (CXE P w) 8 fBT fdT ["self", "a"] (spBT CB CM d0)) (bT : Binds K fdT ["self", "a"] [])
    (GP : FnOk P w K mg base (CXE P w) 9 fBP fdP ["self", "a", "k", "word"] (spBP CB CM d0)) (bP : Binds K fdP ["self", "a", "k", "word"] []) (GC : FnOk P w K mg base (CXE P w) 5 fBC fdC ["self", "a"] (spBC CB CM d0)) (bC : Binds K fdC ["self", "a"] []) :
    FnOk P w K mg base (CXE P w) 10 f fd ["boxes", "way", "a", "k", "word"] (spT0 CB CM) := by
  refine F.okE scD (fun vs H Q E h => ?_) (fun cdv A outer s H vs Q E hr h => ?_)
  · obtain ⟨n, B, dB, m, c, dx, xs, ws, d, kvs, vl, us, wv, kv, t, rfl, _⟩ := h
    rfl
  · obtain ⟨n, B, dB, m, c, dx, xs, ws, d, kvs, vl, us, wv, kv, t, rfl, X, hv, hR, hl6, hnh, nvc, hkl, k1, k2⟩ := h
    obtain ⟨cdH, xH⟩ := T.h
    have hr5 := hr.mono (show 5 ≤ 9 by decide)
    have hr6 := hr.mono (show 6 ≤ 9 by decide)
    have hr8 := hr.mono (show 8 ≤ 9 by decide)
    refine ⟨_, pss_cons (ps_set (i := 5) scD.nd rfl (Or.inl rfl) pe_non)
      (pss_cons (ps_set (i := 6) scD.nd rfl (Or.inl rfl) pe_non)
      (pss_cons (ps_try (i := 7) rfl rfl rfl rfl T.mH xH scD.nd rfl rfl
        (fun pins E' EK hp => pss_one (ps_if (pt_cmpR op_eq (pv 1) pe_int (nomark _)) (pss_one (ps_set (i := 6) scD.nd rfl (Or.inl rfl) (xe_meth (pv 0) M.c M.ly GL hr6 bL .nil hp (pa_cons (pv 2) (pa_cons (pv 4) pa_nil)))))
          (pss_one (ps_if (pt_cmpR op_eq (pv 1) pe_int (nomark _)) (pss_one (ps_set (i := 6) scD.nd rfl (Or.inl rfl) (xe_meth (pv 0) M.c M.th GT hr8 bT .nil hp (pa_cons (pv 2) pa_nil))))
            (pss_one (ps_if (pt_cmpR op_eq (pv 1) pe_int (nomark _)) (pss_one (ps_expr (xe_meth (pv 0) M.c M.pt GP hr bP .nil hp (pa_cons (pv 2) (pa_cons (pv 3) (pa_cons (pv 4) pa_nil))))))
              (pss_one (ps_expr (xe_meth (pv 0) M.c M.cl GC hr5 bC .nil hp (pa_cons (pv 2) pa_nil))))))))))
        (fun ea => pss_one (ps_set (i := 5) scD.nd rfl (Or.inl rfl) (pv 7))))
      (pss_cons (ps_if (pt_cmp (pc_isN (pv 5))) (pss_one (ps_ret (pv 6))) pss_nil)
      (pss_cons (ps_if (PW.pt (pw_and (pt_val (pe_callB call_isi rfl T.z_isinstance PyProof.Rows.Boot.«isinstance» (pa_cons (pv 5) (pa_cons (pe_glob (v := .ref dR) rfl T.mR rfl) pa_nil)))) (pw_and1 (pt_not (pt_val (pe_callB call_isi rfl T.z_isinstance PyProof.Rows.Boot.«isinstance» (pa_cons (pv 5) (pa_cons (pe_glob (v := .ref d0) rfl T.m0 rfl) pa_nil)))))))) (pss_one (ps_ret pe_str)) pss_nil)
      (pss_cons (ps_if (PW.pt (pw_and (pt_val (pe_callB call_isi rfl T.z_isinstance PyProof.Rows.Boot.«isinstance» (pa_cons (pv 5) (pa_cons (pe_glob (v := .ref d0) rfl T.m0 rfl) pa_nil)))) (pw_and1 (pt_not (pt_val (pe_callB call_isi rfl T.z_isinstance PyProof.Rows.Boot.«isinstance» (pa_cons (pv 5) (pa_cons (pe_glob (v := .ref dR) rfl T.mR rfl) pa_nil)))))))) (pss_one (ps_ret pe_str)) pss_nil)
      (pss_one (ps_ret pe_str))))))), ?_⟩
    refine ⟨_, rfl, rfl, _, rfl, ite2 (fun _ => ?_) (fun h => absurd (by decide) h)⟩
    refine ⟨_, rfl, B, dB, _, rfl, X.b, rfl, _, rfl, _, rfl, n, B, dB, m, c, dx, xs, ws, d, kvs, vl, us, wv, t, rfl, X, hv, hR, hl6, hnh, nvc, hkl, fun i hi hj hn xs' H' X' bt => ?_, fun hj H' sm => ?_⟩
    · exact ⟨_, rfl, _, rfl, ite2 (fun _ => ⟨_, rfl, k1 i hi hj hn xs' H' X' bt⟩) (fun h => absurd (by simp) h)⟩
    · obtain ⟨cd, xc, hmr⟩ := T.subR
      refine ⟨dR, cd, rfl, xc, hmr, fun ea hea => ⟨.ref ea, rfl, ?_⟩⟩
      have ty : TyX K (upd H' ea (exo false dR ea none)) (.ref ea) (.ref dR) := T.cR.ty upd_same
      refine ⟨_, rfl, _, rfl, ite2 (fun h => by simp at h) (fun _ => ?_)⟩
      refine isi_read (x := .ref ea) (t := .ref dR) (b := true) rfl ty (by simp [PySem.W.kitOne]) ⟨_, rfl, iteT ?_⟩
      refine isi_read (x := .ref ea) (t := .ref dR) (b := false) rfl ty T.fR0 ⟨_, rfl, iteT ?_⟩
      exact k2 hj _ (sm.trans (Same.upd hea))

/-- _law_told: thing -/
def spT1 (CB CM : Addr) : Sp := fun vs H Q _ => ∃ N B dB m c dx xs ws d kvs kv wv, ∃ a : Int, vs = [.ref B, .int 1, .int a, kv, wv] ∧ Bx CB CM N H B dB m c dx xs ws d kvs ∧ a.natAbs.log2 < 1920 ∧
  (if valV kvs (Sum.inl a) = none then ∀ H', Same H H' → Q (.str "BadAddress") H' else ∃ t n : Int, thg ws a = some (t, n) ∧ ∀ q r zs H', Same H H' → H r = none → H' q = some (.tup [.int t, .ref r]) → H' r = some (.lst zs) → Rel H' zs (seg ws a n) → Q (.ref q) H')
theorem ok_t1 {f : Addr} {fd fdL fdT fdP fdC : FuncData} (F : Fun K "_law_told" "_law_told" sLTold f fd) (T : Txt K mg CH d0 dR fXI) (M : BoxC K CB fBI fBL fBT fBP fBC fBM fBF fLF fLT)
    (GL : FnOk P w K mg base (CXE P w) 6 fBL fdL ["self", "t", "values"] (spBL CB CM dR)) (bL : Binds K fdL ["self", "t", "values"] []) (GT : FnOk P w K mg base (CXE P w) 8 fBT fdT ["self", "a"] (spBT CB CM d0)) (bT : Binds K fdT ["self", "a"] [])
    (GP : FnOk P w K mg base (CXE P w) 9 fBP fdP ["self", "a", "k", "word"] (spBP CB CM d0)) (bP : Binds K fdP ["self", "a", "k", "word"] []) (GC : FnOk P w K mg base (CXE P w) 5 fBC fdC ["self", "a"] (spBC CB CM d0)) (bC : Binds K fdC ["self", "a"] []) :
    FnOk P w K mg base (CXE P w) 10 f fd ["boxes", "way", "a", "k", "word"] (spT1 CB CM) := by
  refine F.okE scD (fun vs H Q E h => ?_) (fun cdv A outer s H vs Q E hr h => ?_)
  · obtain ⟨N, B, dB, m, c, dx, xs, ws, d, kvs, kv, wv, a, rfl, _⟩ := h
    rfl
  · obtain ⟨N, B, dB, m, c, dx, xs, ws, d, kvs, kv, wv, a, rfl, X, ha, k⟩ := h
    obtain ⟨cdH, xH⟩ := T.h
    have hr5 := hr.mono (show 5 ≤ 9 by decide)
    have hr6 := hr.mono (show 6 ≤ 9 by decide)
    have hr8 := hr.mono (show 8 ≤ 9 by decide)
    refine ⟨_, pss_cons (ps_set (i := 5) scD.nd rfl (Or.inl rfl) pe_non)
      (pss_cons (ps_set (i := 6) scD.nd rfl (Or.inl rfl) pe_non)
      (pss_cons (ps_try (i := 7) rfl rfl rfl rfl T.mH xH scD.nd rfl rfl
        (fun pins E' EK hp => pss_one (ps_if (pt_cmpR op_eq (pv 1) pe_int (nomark _)) (pss_one (ps_set (i := 6) scD.nd rfl (Or.inl rfl) (xe_meth (pv 0) M.c M.ly GL hr6 bL .nil hp (pa_cons (pv 2) (pa_cons (pv 4) pa_nil)))))
          (pss_one (ps_if (pt_cmpR op_eq (pv 1) pe_int (nomark _)) (pss_one (ps_set (i := 6) scD.nd rfl (Or.inl rfl) (xe_meth (pv 0) M.c M.th GT hr8 bT .nil hp (pa_cons (pv 2) pa_nil))))
            (pss_one (ps_if (pt_cmpR op_eq (pv 1) pe_int (nomark _)) (pss_one (ps_expr (xe_meth (pv 0) M.c M.pt GP hr bP .nil hp (pa_cons (pv 2) (pa_cons (pv 3) (pa_cons (pv 4) pa_nil))))))
              (pss_one (ps_expr (xe_meth (pv 0) M.c M.cl GC hr5 bC .nil hp (pa_cons (pv 2) pa_nil))))))))))
        (fun ea => pss_one (ps_set (i := 5) scD.nd rfl (Or.inl rfl) (pv 7))))
      (pss_cons (ps_if (pt_cmp (pc_isN (pv 5))) (pss_one (ps_ret (pv 6))) pss_nil)
      (pss_cons (ps_if (PW.pt (pw_and (pt_val (pe_callB call_isi rfl T.z_isinstance PyProof.Rows.Boot.«isinstance» (pa_cons (pv 5) (pa_cons (pe_glob (v := .ref dR) rfl T.mR rfl) pa_nil)))) (pw_and1 (pt_not (pt_val (pe_callB call_isi rfl T.z_isinstance PyProof.Rows.Boot.«isinstance» (pa_cons (pv 5) (pa_cons (pe_glob (v := .ref d0) rfl T.m0 rfl) pa_nil)))))))) (pss_one (ps_ret pe_str)) pss_nil)
      (pss_cons (ps_if (PW.pt (pw_and (pt_val (pe_callB call_isi rfl T.z_isinstance PyProof.Rows.Boot.«isinstance» (pa_cons (pv 5) (pa_cons (pe_glob (v := .ref d0) rfl T.m0 rfl) pa_nil)))) (pw_and1 (pt_not (pt_val (pe_callB call_isi rfl T.z_isinstance PyProof.Rows.Boot.«isinstance» (pa_cons (pv 5) (pa_cons (pe_glob (v := .ref dR) rfl T.mR rfl) pa_nil)))))))) (pss_one (ps_ret pe_str)) pss_nil)
      (pss_one (ps_ret pe_str))))))), ?_⟩
    refine ⟨_, rfl, rfl, _, rfl, ite2 (fun h => absurd h (by decide)) (fun _ => ⟨_, rfl, rfl, _, rfl, ite2 (fun _ => ?_) (fun h => absurd (by decide) h)⟩)⟩
    refine ⟨_, rfl, B, dB, _, rfl, X.b, rfl, _, rfl, N, B, dB, m, c, dx, xs, ws, d, kvs, a, rfl, X, ha, ?_⟩
    by_cases g : valV kvs (Sum.inl a) = none
    · rw [if_pos g] at k ⊢
      intro H' sm
      obtain ⟨cd, xc, hmr⟩ := T.sub0
      refine ⟨d0, cd, rfl, xc, hmr, fun ea hea => ⟨.ref ea, rfl, ?_⟩⟩
      have ty : TyX K (upd H' ea (exo false d0 ea none)) (.ref ea) (.ref d0) := T.c0.ty upd_same
      refine ⟨_, rfl, _, rfl, ite2 (fun h => by simp at h) (fun _ => ?_)⟩
      refine isi_read (x := .ref ea) (t := .ref d0) (b := false) rfl ty T.f0R ⟨_, rfl, iteF (iteF ?_)⟩
      refine isi_read (x := .ref ea) (t := .ref d0) (b := true) rfl ty (by simp [PySem.W.kitOne]) ⟨_, rfl, iteT ?_⟩
      refine isi_read (x := .ref ea) (t := .ref d0) (b := false) rfl ty T.f0R ⟨_, rfl, iteT ?_⟩
      exact k _ (sm.trans (Same.upd hea))
    · rw [if_neg g] at k ⊢
      obtain ⟨t, n, et, k⟩ := k
      exact ⟨t, n, et, fun q r zs H' h1 h2 h3 h4 h5 => ⟨_, rfl, _, rfl, ite2 (fun _ => ⟨_, rfl, k q r zs H' h1 h2 h3 h4 h5⟩) (fun h => absurd (by simp) h)⟩⟩
/-- _law_told: put -/
def spT2 (CB CM : Addr) : Sp := fun vs H Q _ => ∃ N B dB m c dx xs ws d kvs v, ∃ a kk : Int, vs = [.ref B, .int 2, .int a, .int kk, v] ∧ Bx CB CM N H B dB m c dx xs ws d kvs ∧ a.natAbs.log2 < 1920 ∧ kk.natAbs.log2 < 1920 ∧
  (if valV kvs (Sum.inl a) = none then ∀ H', Same H H' → Q (.str "BadAddress") H' else ∃ t n : Int, thg ws a = some (t, n) ∧ (if 0 ≤ kk ∧ kk < n then ∀ H', Same H H' → Q .non (upd H' c (.lst (xs.set (a + 1 + kk).toNat v))) else ∀ H', Same H H' → Q (.str "BadAddress") H'))
theorem ok_t2 {f : Addr} {fd fdL fdT fdP fdC : FuncData} (F : Fun K "_law_told" "_law_told" sLTold f fd) (T : Txt K mg CH d0 dR fXI) (M : BoxC K CB fBI fBL fBT fBP fBC fBM fBF fLF fLT)
    (GL : FnOk P w K mg base (CXE P w) 6 fBL fdL ["self", "t", "values"] (spBL CB CM dR)) (bL : Binds K fdL ["self", "t", "values"] []) (GT : FnOk P w K mg base (CXE P w) 8 fBT fdT ["self", "a"] (spBT CB CM d0)) (bT : Binds K fdT ["self", "a"] [])
    (GP : FnOk P w K mg base (CXE P w) 9 fBP fdP ["self", "a", "k", "word"] (spBP CB CM d0)) (bP : Binds K fdP ["self", "a", "k", "word"] []) (GC : FnOk P w K mg base (CXE P w) 5 fBC fdC ["self", "a"] (spBC CB CM d0)) (bC : Binds K fdC ["self", "a"] []) :
    FnOk P w K mg base (CXE P w) 10 f fd ["boxes", "way", "a", "k", "word"] (spT2 CB CM) := by
  refine F.okE scD (fun vs H Q E h => ?_) (fun cdv A outer s H vs Q E hr h => ?_)
  · obtain ⟨N, B, dB, m, c, dx, xs, ws, d, kvs, v, a, kk, rfl, _⟩ := h
    rfl
  · obtain ⟨N, B, dB, m, c, dx, xs, ws, d, kvs, v, a, kk, rfl, X, ha, hk, k⟩ := h
    obtain ⟨cdH, xH⟩ := T.h
    have hr5 := hr.mono (show 5 ≤ 9 by decide)
    have hr6 := hr.mono (show 6 ≤ 9 by decide)
    have hr8 := hr.mono (show 8 ≤ 9 by decide)
    refine ⟨_, pss_cons (ps_set (i := 5) scD.nd rfl (Or.inl rfl) pe_non)
      (pss_cons (ps_set (i := 6) scD.nd rfl (Or.inl rfl) pe_non)
      (pss_cons (ps_try (i := 7) rfl rfl rfl rfl T.mH xH scD.nd rfl rfl
        (fun pins E' EK hp => pss_one (ps_if (pt_cmpR op_eq (pv 1) pe_int (nomark _)) (pss_one (ps_set (i := 6) scD.nd rfl (Or.inl rfl) (xe_meth (pv 0) M.c M.ly GL hr6 bL .nil hp (pa_cons (pv 2) (pa_cons (pv 4) pa_nil)))))
          (pss_one (ps_if (pt_cmpR op_eq (pv 1) pe_int (nomark _)) (pss_one (ps_set (i := 6) scD.nd rfl (Or.inl rfl) (xe_meth (pv 0) M.c M.th GT hr8 bT .nil hp (pa_cons (pv 2) pa_nil))))
            (pss_one (ps_if (pt_cmpR op_eq (pv 1) pe_int (nomark _)) (pss_one (ps_expr (xe_meth (pv 0) M.c M.pt GP hr bP .nil hp (pa_cons (pv 2) (pa_cons (pv 3) (pa_cons (pv 4) pa_nil))))))
              (pss_one (ps_expr (xe_meth (pv 0) M.c M.cl GC hr5 bC .nil hp (pa_cons (pv 2) pa_nil))))))))))
        (fun ea => pss_one (ps_set (i := 5) scD.nd rfl (Or.inl rfl) (pv 7))))
      (pss_cons (ps_if (pt_cmp (pc_isN (pv 5))) (pss_one (ps_ret (pv 6))) pss_nil)
      (pss_cons (ps_if (PW.pt (pw_and (pt_val (pe_callB call_isi rfl T.z_isinstance PyProof.Rows.Boot.«isinstance» (pa_cons (pv 5) (pa_cons (pe_glob (v := .ref dR) rfl T.mR rfl) pa_nil)))) (pw_and1 (pt_not (pt_val (pe_callB call_isi rfl T.z_isinstance PyProof.Rows.Boot.«isinstance» (pa_cons (pv 5) (pa_cons (pe_glob (v := .ref d0) rfl T.m0 rfl) pa_nil)))))))) (pss_one (ps_ret pe_str)) pss_nil)
      (pss_cons (ps_if (PW.pt (pw_and (pt_val (pe_callB call_isi rfl T.z_isinstance PyProof.Rows.Boot.«isinstance» (pa_cons (pv 5) (pa_cons (pe_glob (v := .ref d0) rfl T.m0 rfl) pa_nil)))) (pw_and1 (pt_not (pt_val (pe_callB call_isi rfl T.z_isinstance PyProof.Rows.Boot.«isinstance» (pa_cons (pv 5) (pa_cons (pe_glob (v := .ref dR) rfl T.mR rfl) pa_nil)))))))) (pss_one (ps_ret pe_str)) pss_nil)
      (pss_one (ps_ret pe_str))))))), ?_⟩
    refine ⟨_, rfl, rfl, _, rfl, ite2 (fun h => absurd h (by decide)) (fun _ => ⟨_, rfl, rfl, _, rfl, ite2 (fun h => absurd h (by decide)) (fun _ => ⟨_, rfl, rfl, _, rfl, ite2 (fun _ => ?_) (fun h => absurd (by decide) h)⟩)⟩)⟩
    refine ⟨_, rfl, B, dB, _, rfl, X.b, rfl, _, rfl, _, rfl, _, rfl, N, B, dB, m, c, dx, xs, ws, d, kvs, v, a, kk, rfl, X, ha, hk, ?_⟩
    by_cases g : valV kvs (Sum.inl a) = none
    · rw [if_pos g] at k ⊢
      intro H' sm
      obtain ⟨cd, xc, hmr⟩ := T.sub0
      refine ⟨d0, cd, rfl, xc, hmr, fun ea hea => ⟨.ref ea, rfl, ?_⟩⟩
      have ty : TyX K (upd H' ea (exo false d0 ea none)) (.ref ea) (.ref d0) := T.c0.ty upd_same
      refine ⟨_, rfl, _, rfl, ite2 (fun h => by simp at h) (fun _ => ?_)⟩
      refine isi_read (x := .ref ea) (t := .ref d0) (b := false) rfl ty T.f0R ⟨_, rfl, iteF (iteF ?_)⟩
      refine isi_read (x := .ref ea) (t := .ref d0) (b := true) rfl ty (by simp [PySem.W.kitOne]) ⟨_, rfl, iteT ?_⟩
      refine isi_read (x := .ref ea) (t := .ref d0) (b := false) rfl ty T.f0R ⟨_, rfl, iteT ?_⟩
      exact k _ (sm.trans (Same.upd hea))
    · rw [if_neg g] at k ⊢
      obtain ⟨t, n, et, k⟩ := k
      refine ⟨t, n, et, ?_⟩
      by_cases g2 : 0 ≤ kk ∧ kk < n
      · rw [if_pos g2] at k ⊢
        exact fun H' sm => ⟨_, rfl, _, rfl, ite2 (fun _ => ⟨_, rfl, k H' sm⟩) (fun h => absurd (by simp) h)⟩
      · rw [if_neg g2] at k ⊢
        intro H' sm
        obtain ⟨cd, xc, hmr⟩ := T.sub0
        refine ⟨d0, cd, rfl, xc, hmr, fun ea hea => ⟨.ref ea, rfl, ?_⟩⟩
        have ty : TyX K (upd H' ea (exo false d0 ea none)) (.ref ea) (.ref d0) := T.c0.ty upd_same
        refine ⟨_, rfl, _, rfl, ite2 (fun h => by simp at h) (fun _ => ?_)⟩
        refine isi_read (x := .ref ea) (t := .ref d0) (b := false) rfl ty T.f0R ⟨_, rfl, iteF (iteF ?_)⟩
        refine isi_read (x := .ref ea) (t := .ref d0) (b := true) rfl ty (by simp [PySem.W.kitOne]) ⟨_, rfl, iteT ?_⟩
        refine isi_read (x := .ref ea) (t := .ref d0) (b := false) rfl ty T.f0R ⟨_, rfl, iteT ?_⟩
        exact k _ (sm.trans (Same.upd hea))
/-- _law_told: clear -/
def spT3 (CB CM : Addr) : Sp := fun vs H Q _ => ∃ N B dB m c dx xs ws d kvs kv wv, ∃ a : Int, vs = [.ref B, .int 3, .int a, kv, wv] ∧ Bx CB CM N H B dB m c dx xs ws d kvs ∧ a.natAbs.log2 < 1920 ∧
  (if valV kvs (Sum.inl a) = none then ∀ H', Same H H' → Q (.str "BadAddress") H' else 0 ≤ a ∧ a + 7 ≤ N ∧ ∀ xs' H', Bx CB CM N H' B dB m c dx xs' (clearN ws a 7) d (dropK kvs (Sum.inl a)) → But2 c d H H' → Q .non H')
theorem ok_t3 {f : Addr} {fd fdL fdT fdP fdC : FuncData} (F : Fun K "_law_told" "_law_told" sLTold f fd) (T : Txt K mg CH d0 dR fXI) (M : BoxC K CB fBI fBL fBT fBP fBC fBM fBF fLF fLT)
    (GL : FnOk P w K mg base (CXE P w) 6 fBL fdL ["self", "t", "values"] (spBL CB CM dR)) (bL : Binds K fdL ["self", "t", "values"] []) (GT : FnOk P w K mg base (CXE P w) 8 fBT fdT ["self", "a"] (spBT CB CM d0)) (bT : Binds K fdT ["self", "a"] [])
    (GP : FnOk P w K mg base (CXE P w) 9 fBP fdP ["self", "a", "k", "word"] (spBP CB CM d0)) (bP : Binds K fdP ["self", "a", "k", "word"] []) (GC : FnOk P w K mg base (CXE P w) 5 fBC fdC ["self", "a"] (spBC CB CM d0)) (bC : Binds K fdC ["self", "a"] []) :
    FnOk P w K mg base (CXE P w) 10 f fd ["boxes", "way", "a", "k", "word"] (spT3 CB CM) := by
  refine F.okE scD (fun vs H Q E h => ?_) (fun cdv A outer s H vs Q E hr h => ?_)
  · obtain ⟨N, B, dB, m, c, dx, xs, ws, d, kvs, kv, wv, a, rfl, _⟩ := h
    rfl
  · obtain ⟨N, B, dB, m, c, dx, xs, ws, d, kvs, kv, wv, a, rfl, X, ha, k⟩ := h
    obtain ⟨cdH, xH⟩ := T.h
    have hr5 := hr.mono (show 5 ≤ 9 by decide)
    have hr6 := hr.mono (show 6 ≤ 9 by decide)
    have hr8 := hr.mono (show 8 ≤ 9 by decide)
    refine ⟨_, pss_cons (ps_set (i := 5) scD.nd rfl (Or.inl rfl) pe_non)
      (pss_cons (ps_set (i := 6) scD.nd rfl (Or.inl rfl) pe_non)
      (pss_cons (ps_try (i := 7) rfl rfl rfl rfl T.mH xH scD.nd rfl rfl
        (fun pins E' EK hp => pss_one (ps_if (pt_cmpR op_eq (pv 1) pe_int (nomark _)) (pss_one (ps_set (i := 6) scD.nd rfl (Or.inl rfl) (xe_meth (pv 0) M.c M.ly GL hr6 bL .nil hp (pa_cons (pv 2) (pa_cons (pv 4) pa_nil)))))
          (pss_one (ps_if (pt_cmpR op_eq (pv 1) pe_int (nomark _)) (pss_one (ps_set (i := 6) scD.nd rfl (Or.inl rfl) (xe_meth (pv 0) M.c M.th GT hr8 bT .nil hp (pa_cons (pv 2) pa_nil))))
            (pss_one (ps_if (pt_cmpR op_eq (pv 1) pe_int (nomark _)) (pss_one (ps_expr (xe_meth (pv 0) M.c M.pt GP hr bP .nil hp (pa_cons (pv 2) (pa_cons (pv 3) (pa_cons (pv 4) pa_nil))))))
              (pss_one (ps_expr (xe_meth (pv 0) M.c M.cl GC hr5 bC .nil hp (pa_cons (pv 2) pa_nil))))))))))
        (fun ea => pss_one (ps_set (i := 5) scD.nd rfl (Or.inl rfl) (pv 7))))
      (pss_cons (ps_if (pt_cmp (pc_isN (pv 5))) (pss_one (ps_ret (pv 6))) pss_nil)
      (pss_cons (ps_if (PW.pt (pw_and (pt_val (pe_callB call_isi rfl T.z_isinstance PyProof.Rows.Boot.«isinstance» (pa_cons (pv 5) (pa_cons (pe_glob (v := .ref dR) rfl T.mR rfl) pa_nil)))) (pw_and1 (pt_not (pt_val (pe_callB call_isi rfl T.z_isinstance PyProof.Rows.Boot.«isinstance» (pa_cons (pv 5) (pa_cons (pe_glob (v := .ref d0) rfl T.m0 rfl) pa_nil)))))))) (pss_one (ps_ret pe_str)) pss_nil)
      (pss_cons (ps_if (PW.pt (pw_and (pt_val (pe_callB call_isi rfl T.z_isinstance PyProof.Rows.Boot.«isinstance» (pa_cons (pv 5) (pa_cons (pe_glob (v := .ref d0) rfl T.m0 rfl) pa_nil)))) (pw_and1 (pt_not (pt_val (pe_callB call_isi rfl T.z_isinstance PyProof.Rows.Boot.«isinstance» (pa_cons (pv 5) (pa_cons (pe_glob (v := .ref dR) rfl T.mR rfl) pa_nil)))))))) (pss_one (ps_ret pe_str)) pss_nil)
      (pss_one (ps_ret pe_str))))))), ?_⟩
    refine ⟨_, rfl, rfl, _, rfl, ite2 (fun h => absurd h (by decide)) (fun _ => ⟨_, rfl, rfl, _, rfl, ite2 (fun h => absurd h (by decide)) (fun _ => ⟨_, rfl, rfl, _, rfl, ite2 (fun h => absurd h (by decide)) (fun _ => ?_)⟩)⟩)⟩
    refine ⟨_, rfl, B, dB, _, rfl, X.b, rfl, _, rfl, N, B, dB, m, c, dx, xs, ws, d, kvs, a, rfl, X, ha, ?_⟩
    by_cases g : valV kvs (Sum.inl a) = none
    · rw [if_pos g] at k ⊢
      intro H' sm
      obtain ⟨cd, xc, hmr⟩ := T.sub0
      refine ⟨d0, cd, rfl, xc, hmr, fun ea hea => ⟨.ref ea, rfl, ?_⟩⟩
      have ty : TyX K (upd H' ea (exo false d0 ea none)) (.ref ea) (.ref d0) := T.c0.ty upd_same
      refine ⟨_, rfl, _, rfl, ite2 (fun h => by simp at h) (fun _ => ?_)⟩
      refine isi_read (x := .ref ea) (t := .ref d0) (b := false) rfl ty T.f0R ⟨_, rfl, iteF (iteF ?_)⟩
      refine isi_read (x := .ref ea) (t := .ref d0) (b := true) rfl ty (by simp [PySem.W.kitOne]) ⟨_, rfl, iteT ?_⟩
      refine isi_read (x := .ref ea) (t := .ref d0) (b := false) rfl ty T.f0R ⟨_, rfl, iteT ?_⟩
      exact k _ (sm.trans (Same.upd hea))
    · rw [if_neg g] at k ⊢
      obtain ⟨a0, a7, k⟩ := k
      exact ⟨a0, a7, fun xs' H' X' bt => ⟨_, rfl, _, rfl, ite2 (fun _ => ⟨_, rfl, k xs' H' X' bt⟩) (fun h => absurd (by simp) h)⟩⟩
end
end K61
end
section
set_option Elab.async false
set_option linter.all false
set_option maxRecDepth 100000
set_option maxHeartbeats 4000000
set_option exponentiation.threshold 4000
namespace K61
open PySem L2 LX
/-- boxes and rows are alike -/
structure Al (CB CM : Addr) (H : Hp) (B dB m c dx : Addr) (xs : List V) (d : Addr) (kvs : List (Key × V)) (R : Addr) (rs : List V) (rows : List Row) (vl : Nat → Addr) : Prop where
  x : Bx CB CM (7 * rows.length) H B dB m c dx xs (wordsOf rows) d kvs
  r : RA H R rs rows vl
  ok : AllOk rows
  ks : Keys kvs rows
  n : rows.length ≤ 13
  Rc : R ≠ c
  vc : ∀ b, taken rows b → vl b ≠ c
theorem Al.same {CB CM : Addr} {H H' : Hp} {B dB m c dx : Addr} {xs : List V} {d : Addr} {kvs : List (Key × V)} {R : Addr} {rs : List V} {rows : List Row} {vl : Nat → Addr} (a : Al CB CM H B dB m c dx xs d kvs R rs rows vl) (s : Same H H') : Al CB CM H' B dB m c dx xs d kvs R rs rows vl :=
  ⟨a.x.same s, a.r.same s, a.ok, a.ks, a.n, a.Rc, a.vc⟩
theorem RA.is {H : Hp} {R : Addr} {rs : List V} {rows : List Row} {vl : Nat → Addr} (r : RA H R rs rows vl) {i : Nat} (hi : i < rows.length) : ∃ v, rs[i]? = some v ∧ (v = .non ↔ ¬ taken rows i) := by
  obtain ⟨q, eq⟩ : ∃ q, rows[i]? = some q := ⟨_, List.getElem?_eq_getElem hi⟩
  cases q with
  | none => exact ⟨.non, r.no i eq, (fun _ ⟨p, e⟩ => by rw [eq] at e; cases e), fun _ => rfl⟩
  | some q =>
    obtain ⟨p, us, e1, _⟩ := r.so i q.1 q.2 eq
    exact ⟨.ref p, e1, fun z => (nomatch z), fun z => absurd ⟨q, eq⟩ z⟩
theorem firstsTo_succ {rows : List Row} {i : Nat} : firstsTo rows (i + 1) = if (rows[i]?.bind id).isSome then firstsTo rows i ++ [7 * (i : Int)] else firstsTo rows i := rfl
theorem taken_iff {rows : List Row} {i : Nat} : (rows[i]?.bind id).isSome = true ↔ taken rows i := by
  unfold taken
  cases rows[i]? with
  | none => simp
  | some r => cases r <;> simp
theorem flat_ints (ns : List Int) : (ns.map V.int).all flatV = true := List.all_eq_true.mpr fun v hv => by
  obtain ⟨n, _, rfl⟩ := List.mem_map.mp hv
  rfl
theorem eqAll_self {xs : List V} (h : xs.all flatV = true) : eqAll xs xs = true := by
  unfold eqAll
  rw [List.all_eq_true]
  intro j hj
  have hlt : j < xs.length := List.mem_range.mp hj
  have e : xs.getD j .non = xs[j] := by simp [List.getD, List.getElem?_eq_getElem hlt]
  rw [e]
  exact eqV_id (List.all_eq_true.mp h _ (List.getElem_mem hlt))
section
variable {N : Nat} {P : Program} {w : World} {K : PySem.W.Frag} {mg : Str → Option Value} {base : Heap} {CH d0 dR fXI : Addr} {CM fMI fSz fAt fPut fCp fLk : Addr} {CB fBI fBL fBT fBP fBC fBM fBF fLF fLT : Addr}
/-- _law_alike -/
def spAl (CB CM : Addr) : Sp := fun vs H Q _ => ∃ B dB m c dx xs d kvs R rs rows vl, vs = [.ref B, .ref R] ∧ Al CB CM H B dB m c dx xs d kvs R rs rows vl ∧ ∀ H', Same H H' → Q (.bl true) H'
theorem scA : FnScope ["boxes", "rows", "firsts", "told", "memory", "words"] ["boxes", "rows"] (defScope sLAlike) := ⟨rfl, rfl, rfl, by decide +kernel, rfl, by decide +kernel, by decide +kernel⟩
theorem ok_al {f fWd : Addr} {fd fdF fdM fdS fdA fdP fdW : FuncData} (F : Fun K "_law_alike" "_law_alike" sLAlike f fd) (T : Txt K mg CH d0 dR fXI) (MM : MemC K CM fMI fSz fAt fPut fCp fLk) (M : BoxC K CB fBI fBL fBT fBP fBC fBM fBF fLF fLT)
    (GF : FnOk P w K mg base (CXE P w) 1 fBF fdF ["self"] (spBF CB CM)) (bF : Binds K fdF ["self"] []) (GM : FnOk P w K mg base (CXE P w) 4 fBM fdM ["self"] (spBM CB CM)) (bM : Binds K fdM ["self"] []) (GS : FnOk P w K mg base (CXE P w) 1 fSz fdS ["self"] (spSize CM)) (bS : Binds K fdS ["self"] [])
    (GA : FnOk P w K mg base (CXE P w) 4 fAt fdA ["self", "a"] (spAt CM d0)) (bA : Binds K fdA ["self", "a"] []) (GP : FnOk P w K mg base (CXE P w) 4 fPut fdP ["self", "a", "word"] (spPut CM d0)) (bP : Binds K fdP ["self", "a", "word"] [])
    (GW : FnOk P w K mg base (CXE P w) 1 fWd fdW ["rows"] spWords) (mW : mg "_law_words" = some (.ref fWd)) (kW : PySem.W.keepIn K (.ref fWd) = true) (bW : Binds K fdW ["rows"] []) : FnOk P w K mg base (CXE P w) 5 f fd ["boxes", "rows"] (spAl CB CM) := by
  refine F.okE scA (fun vs H Q E h => ?_) (fun cdv A outer s H vs Q E hr h => ?_)
  · obtain ⟨B, dB, m, c, dx, xs, d, kvs, R, rs, rows, vl, rfl, _⟩ := h
    rfl
  · obtain ⟨B, dB, m, c, dx, xs, d, kvs, R, rs, rows, vl, rfl, a, k⟩ := h
    have hu := Nat.lt_of_succ_lt (hu_of hr)
    have hu2 : (A.deeper (PyProof.Rows.envOfC "_law_alike" (defScope sLAlike) s.heap.objs.size f cdv)).units + 1 + 1 < cLine := by
      have := hr.units
      omega
    have r1 := hr.mono (show 1 ≤ 4 by decide)
    refine ⟨_, PSs.nox (pss_cons (ps_compU (i := 2) scA.nd rfl rfl (cl := [("rows", s.heap.objs.size + 1)]) (x := "box") (idx := [1]) (NC := ["box", "rows"]) ?co1 rfl (pi_range1 rfl T.z_range (pa_cons (pe_callB call_len_seq rfl T.z_len PyProof.Rows.Boot.«len» (pa_cons (pv 1) pa_nil)) pa_nil))
          (fun C fp s₀ H₀ => pt_cmp (pc_notN (pe_ix (r := rIxL K) ix_list (pv 1) (pv 0) (fun _ _ => rfl)))) (fun C fp s₀ H₀ => pe_op op_mul pe_int (pv 0)))
      (pss_cons (ps_set (i := 3) scA.nd rfl (Or.inl rfl) (xe_meth0 (pv 0) M.c M.fi GF r1 bF .nil passN))
      (pss_cons (ps_if (PW.pt (pw_or (pt_not (pt_val (pe_callB call_isiT rfl T.z_isinstance PyProof.Rows.Boot.«isinstance» (pa_cons (pv 3) (pa_cons (pe_ty rfl T.z_list PyProof.Rows.Boot.«list») pa_nil))))) (pw_or1 (pt_cmpR (op_neL hu) (pv 3) (pv 2) (nomark _))))) (pss_one (ps_ret pe_bl)) pss_nil)
      (pss_cons (ps_expr (pe_bm PySem.F.plainAttrs_list PySem.F.slot_list_append PySem.F.type_list_append mt_append (pv 3) (pa_cons pe_int pa_nil)))
      (pss_cons (ps_set (i := 4) scA.nd rfl (Or.inr rfl) (xe_meth0 (pv 0) M.c M.mm GM hr bM .nil passN))
      (pss_cons (ps_if (pt_cmpR op_ne (xe_meth0 (pv 4) MM.c MM.sz GS r1 bS .nil passN) (pe_op op_mul pe_int (pe_callB call_len_seq rfl T.z_len PyProof.Rows.Boot.«len» (pa_cons (pv 1) pa_nil))) (nomark _)) (pss_one (ps_ret pe_bl)) pss_nil)
      (pss_cons (ps_comp (i := 5) scA.nd rfl rfl (cl := [("memory", s.heap.objs.size + 1 + 1)]) (x := "a") (idx := [4]) (NC := ["a", "memory"]) ?co2 rfl (pi_range1 rfl T.z_range (pa_cons (xe_meth0 (pv 4) MM.c MM.sz GS r1 bS .nil passN) pa_nil))
          (fun C fp s₀ H₀ => xe_meth (pv 1) MM.c MM.at_ GA hr bA .nil passF (pa_cons (pv 0) pa_nil)))
      (pss_cons (ps_if (pt_cmpR (op_neD (n := 1) hu2) (pv 5) (xe_call GW r1 rfl mW kW bW .nil passN (pa_cons (pv 1) pa_nil)) (nomark _)) (pss_one (ps_ret pe_bl)) pss_nil)
      (pss_cons (ps_if (pt_cmpR op_gt (pe_callB call_len_seq rfl T.z_len PyProof.Rows.Boot.«len» (pa_cons (pv 1) pa_nil)) pe_int (nomark _)) (pss_one (ps_expr (xe_meth (pv 4) MM.c MM.pt GP hr bP .nil passN (pa_cons pe_int (pa_cons (pe_tup (pa_cons pe_str (pa_cons pe_int pa_nil))) pa_nil))))) pss_nil)
      (pss_one (ps_ret (pe_cmpR (op_eqL hu) (xe_meth0 (pv 0) M.c M.fi GF r1 bF .nil passN) (pv 2) (nomark _))))))))))))), ?_⟩
    case co1 =>
      exact comp_ok (sc := defScope sLAlike) (N := ["boxes", "rows", "firsts", "told", "memory", "words"]) (ns := ["rows"]) rfl rfl rfl (by decide +kernel) rfl rfl (by
        intro q hq
        rw [List.mem_singleton.mp hq]
        rfl)
    case co2 =>
      exact comp_ok (sc := defScope sLAlike) (N := ["boxes", "rows", "firsts", "told", "memory", "words"]) (ns := ["memory"]) rfl rfl rfl (by decide +kernel) rfl rfl (by
        intro q hq
        rw [List.mem_singleton.mp hq]
        rfl)
    have rl : rs.length = rows.length := a.r.len
    have n13 := a.n
    obtain ⟨ks, hk1, hk2, hk3⟩ := id a.ks
    have pm := perm_firsts hk2 hk3
    have kl : ks.length < 64 := by
      have := firstsTo_le (rows := rows) rows.length
      have e : ks.length = (firsts rows).length := pm.length_eq
      unfold firsts at e
      omega
    have fi := flat_ints (firsts rows)
    refine ⟨_, rfl, R, rs, rfl, .inl (SqL.of a.r.at_), (rs.length : Int), rfl, by omega, by omega, fun D hD => ?_⟩
    refine compT_range (lo := 0) (n := (rs.length : Int).toNat) (fun i ys H2 => ys = (firstsTo rows i).map V.int ∧ Same H H2 ∧ H2 D = some (.lst ys)) ⟨rfl, Same.upd hD, upd_same⟩ (fun i ys H2 hi ⟨e, _, z⟩ => ⟨z, by rw [e, List.length_map]; exact firstsTo_le i⟩)
      (Nat.le_trans (show (rs.length : Int).toNat ≤ 13 by omega) (by decide)) (fun i ys H2 hi ⟨e, s2, z⟩ => ?_) (fun ys H2 ⟨e, s2, z⟩ => ?_)
    · obtain ⟨v, hv, hvn⟩ := a.r.is (i := i) (by omega)
      refine ⟨_, rfl, _, rfl, R, rs, 0 + (i : Int), v, rfl, rfl, SqL.of (s2 _ _ a.r.at_), at_int (by omega) (by rw [show (0 + (i : Int)).toNat = i by omega]; exact hv), _, rfl, ?_⟩
      refine ite2 (fun h => ?_) (fun h => ?_)
      · have tk : taken rows i := Classical.byContradiction fun q => by
          simp at h
          exact h (hvn.mpr q)
        refine ⟨_, rfl, 7, 0 + (i : Int), rfl, rfl, .inl ⟨by decide, by decide⟩, z, ?_, fun b u q => by rw [upd_ne (ne_of_none q hD)]; exact s2 b u q, upd_same⟩
        rw [firstsTo_succ, if_pos (taken_iff.mpr tk), List.map_append, e]
        simp
      · have tk : ¬ taken rows i := by
          simp at h
          exact hvn.mp h
        refine ⟨?_, s2, z⟩
        rw [firstsTo_succ, if_neg (fun q => tk (taken_iff.mp q)), e]
    · have ef : ys = (firsts rows).map V.int := by
        rw [e]
        unfold firsts
        rw [show (rs.length : Int).toNat = rows.length by omega]
      subst ef
      have a2 := a.same s2
      refine ⟨_, rfl, B, dB, _, rfl, a2.x.b, rfl, _, B, dB, m, c, dx, xs, _, d, kvs, ks, rfl, a2.x, hk1, kl, fun p1 ns hp1 q1 q2 => ?_⟩
      have en : ns = firsts rows := rising_eq (q1.trans pm) q2 (firstsTo_lt.imp fun h => Int.le_of_lt h)
      subst en
      have s3 := Same.upd (o := .lst ((firsts rows).map V.int)) hp1
      refine isi_readT (x := .ref p1) (t := .type "list") (b := true) rfl (.of (.lst upd_same)) rfl ⟨_, rfl, iteF ?_⟩
      refine ⟨_, rfl, _, rfl, p1, D, _, _, rfl, rfl, SqL.of upd_same, SqL.of (s3 _ _ z), rfl, fi, fi, ?_⟩
      rw [eqAll_self fi]
      refine ⟨_, rfl, iteF ?_⟩
      refine ⟨_, rfl, .inl ⟨rfl, _, SqL.of upd_same⟩, p1, _, _, rfl, rfl, upd_same, Nat.lt_of_le_of_lt (show ((firsts rows).map V.int).length ≤ 13 by rw [List.length_map]; have := firstsTo_le (rows := rows) rows.length; unfold firsts; omega) (by decide), ?_⟩
      obtain ⟨H4, e4⟩ : ∃ H4, upd (upd H2 p1 (.lst ((firsts rows).map V.int))) p1 (.lst ((firsts rows).map V.int ++ [.int 1])) = H4 := ⟨_, rfl⟩
      rw [e4]
      have s4 : Same H2 H4 := by rw [← e4, upd_upd]; exact Same.upd hp1
      have a4 := a2.same s4
      refine ⟨_, rfl, B, dB, _, rfl, a4.x.b, rfl, _, B, dB, m, c, dx, xs, _, d, kvs, rfl, a4.x, fun o c' dx' H5 s5 hc' ho nco M5 => ?_⟩
      have a5 := a4.same s5
      have xl := a.x.w.len
      refine ⟨_, rfl, o, dx', _, rfl, M5.1, rfl, o, c', dx', xs, rfl, M5, _, rfl, R, rs, rfl, .inl (SqL.of a5.r.at_), 7, _, rfl, rfl, .inl ⟨by decide, by decide⟩, rfl, _, rfl, iteNS (by rw [show (xs.length : Int) = 7 * (rs.length : Int) by omega]) ?_⟩
      refine ⟨_, rfl, o, dx', _, rfl, M5.1, rfl, o, c', dx', xs, rfl, M5, (xs.length : Int), rfl, by omega, by omega, fun D2 hD2 => ?_⟩
      have memS : ∀ {H6 : Hp}, Same H5 H6 → Mem CM H6 o c' dx' xs := fun s => ⟨s _ _ M5.1, s _ _ M5.2⟩
      refine comp_range (lo := 0) (n := (xs.length : Int).toNat) (fun i ys H6 => ys = xs.take i ∧ Same H5 H6 ∧ H6 D2 = some (.lst ys)) ⟨rfl, Same.upd hD2, upd_same⟩ (fun i ys H6 hi ⟨e, _, z⟩ => ⟨z, by rw [e, List.length_take]; omega⟩)
        (Nat.le_trans (show (xs.length : Int).toNat ≤ 100 by omega) sz_len) (fun i ys H6 hi ⟨e, s6, z6⟩ => ?_) (fun ys H6 ⟨e, s6, z6⟩ => ?_)
      · have M6 := memS s6
        refine ⟨_, rfl, o, dx', _, rfl, M6.1, rfl, _, rfl, o, c', dx', xs, 0 + (i : Int), rfl, M6, log7 (by omega) (by omega), ?_⟩
        rw [if_pos ⟨by omega, by omega⟩]
        intro v hv
        have hlt : i < xs.length := by omega
        rw [show (0 + (i : Int)).toNat = i by omega, List.getElem?_eq_getElem hlt] at hv
        refine ⟨z6, ?_, fun b u q => ?_, upd_same⟩
        · rw [e, List.take_succ_eq_append_getElem hlt, Option.some.inj hv]
        · rw [upd_ne (ne_of_none q hD2)]
          exact s6 b u q
      · rw [List.take_of_length_le (by omega)] at e
        subst e
        have a6 := a5.same s6
        refine ⟨_, rfl, _, rfl, R, rs, rows, vl, rfl, a6.r, a.ok, a.n, fun p us H7 s7 hp hrel => ?_⟩
        have a7 := a6.same s7
        have xr := a7.x.w.rel
        refine ⟨D2, p, ys, us, rfl, rfl, SqL.of (s7 _ _ z6), SqL.of hp, by rw [hrel.1, xr.1], deep_words xr hrel, _, rfl, iteF ?_⟩
        have st : Same H H7 := (((s2.trans s4).trans s5).trans s6).trans s7
        have zD : H4 D = some (.lst ((firsts rows).map V.int)) := s4 _ _ z
        have fin : ∀ H9 : Hp, Same H H9 → H9 D = some (.lst ((firsts rows).map V.int)) → ∀ (D0 : Ends), D0.rt = Q → tRet (tOp (rEqL K) (xMeth CB "firsts" (spBF CB CM) [] (fun _ _ _ _ => False) (tVar 0) tNil) (tVar 2)) D0 [some (.ref B), some (.ref R), some (.ref D), some (.ref p1), some (.ref o), some (.ref D2)] H9 := fun H9 s9 zD9 D0 hD0 => by
          have a9 := a.same s9
          refine ⟨_, rfl, B, dB, _, rfl, a9.x.b, rfl, _, B, dB, m, c, dx, ys, _, d, kvs, ks, rfl, a9.x, hk1, kl, fun p8 ns hp8 q1 q2 => ?_⟩
          have en : ns = firsts rows := rising_eq (q1.trans pm) q2 (firstsTo_lt.imp fun h => Int.le_of_lt h)
          subst en
          have s8 := Same.upd (o := .lst ((firsts rows).map V.int)) hp8
          refine ⟨_, rfl, p8, D, _, _, rfl, rfl, SqL.of upd_same, SqL.of (s8 _ _ zD9), rfl, fi, fi, ?_⟩
          rw [eqAll_self fi, hD0]
          exact k _ (s9.trans s8)
        refine ⟨_, rfl, R, rs, rfl, .inl (SqL.of a7.r.at_), _, 0, rfl, rfl, _, rfl, ite2 (fun h => ?_) (fun _ => ?_)⟩
        · simp only [decide_eq_true_eq] at h
          have M7 := memS (s6.trans s7)
          refine ⟨_, rfl, o, dx', _, rfl, M7.1, rfl, by show 2 ≤ sizeLine; decide, fun tp htp => ?_⟩
          have s8 := Same.upd (o := .tup [.str "number", .int 5]) htp
          refine ⟨o, c', dx', ys, .ref tp, 0, rfl, ⟨s8 _ _ M7.1, s8 _ _ M7.2⟩, log7 (by omega) (by omega), ?_⟩
          rw [if_pos ⟨by omega, by omega⟩]
          have nc : ∀ {b : Addr} {u : HO}, H4 b = some u → b ≠ c' := fun q => ne_of_none q hc'
          refine fin _ (fun b u q => ?_) ?_ _ rfl
          · rw [upd_ne (nc (s4 _ _ (s2 _ _ q)))]
            exact s8 _ _ (st _ _ q)
          · rw [upd_ne (nc zD)]
            exact s8 _ _ (s7 _ _ (s6 _ _ (s5 _ _ zD)))
        · exact fin _ st (s7 _ _ (s6 _ _ (s5 _ _ zD))) _ rfl
end
end K61
end
section
set_option Elab.async false
set_option linter.all false
set_option maxRecDepth 100000
set_option maxHeartbeats 4000000
set_option exponentiation.threshold 4000
namespace L2
open PySem PySem.Spec PyProof.Rows LX
/-- two promises of one def -/
theorem FnOk.or {P : Program} {w : World} {K : PySem.W.Frag} {mg : Str → Option Value} {base : Heap} {CX : CXT} {k : Nat} {f : Addr} {fd : FuncData} {ps : List Str} {sp sp' : Sp} (F : FnOk P w K mg base CX k f fd ps sp) (G : FnOk P w K mg base CX k f fd ps sp') :
    FnOk P w K mg base CX k f fd ps (fun vs H Q E => sp vs H Q E ∨ sp' vs H Q E) :=
  ⟨fun vs H Q E q => q.elim (F.len vs H Q E) (G.len vs H Q E), fun A outer s H args us vs Q E hr he hb hv hs => hs.elim (F.run A outer s H args us vs Q E hr he hb hv) (G.run A outer s H args us vs Q E hr he hb hv)⟩
section
variable {X : Cx}
/-- a list != [] -/
def rNe0 (K : PySem.W.Frag) : R2 := fun x y H Q => ∃ a b xs, x = .ref a ∧ y = .ref b ∧ SqL K H a xs ∧ SqL K H b [] ∧ Q (.bl (!xs.isEmpty)) H
theorem op_ne0 (hu : X.A.units < cLine) : OpR X (compareOp .NotEq) (rNe0 X.K) := by
  rintro pins s σ H x y v u Q I rx ry ⟨a, b, xs, rfl, rfl, ha, hb, q⟩
  cases rx
  cases ry
  obtain ⟨vs, r1, ⟨o1, n1, e1, c1, _, g1⟩, _⟩ := I.list ha
  obtain ⟨ws, r2, ⟨o2, n2, e2, c2, _, g2⟩, _⟩ := I.list hb
  have l1 := r1.length
  have l2 := r2.length
  rw [List.length_nil] at l2
  cases xs with
  | nil =>
    rw [List.length_nil] at l1
    refine SeqAt.RcNeAt.lists (e := fun _ => true) ⟨o1, e1, c1, n1, g1⟩ ⟨o2, e2, c2, n2, g2⟩ (by simp only [List.size_toArray]; omega) hu (fun j h1 h2 => ?_) _ _ _ _ ⟨.bl false, H, I, by simp [RelV], q⟩
    simp only [List.size_toArray] at h1
    omega
  | cons z zs =>
    rw [List.length_cons] at l1
    refine SeqAt.RcNeAt.lists_lengths ⟨o1, e1, c1, n1, g1⟩ ⟨o2, e2, c2, n2, g2⟩ ?_ hu _ _ _ _ ⟨.bl true, H, I, rfl, q⟩
    simp only [List.size_toArray, bne_iff_ne, ne_eq]
    omega
/-- == of two tuples that are the same through and through -/
def rEqT (K : PySem.W.Frag) (n : Nat) : R2 := fun x y H Q => ∃ a b xs ys, x = .ref a ∧ y = .ref b ∧ SqT K H a xs ∧ SqT K H b ys ∧ xs.length = ys.length ∧ (∀ j (h1 : j < xs.length) (h2 : j < ys.length), Deep K H n xs[j] ys[j]) ∧ Q (.bl true) H
theorem op_eqT {n : Nat} (hu : X.A.units + n + 1 < cLine) : OpR X (compareOp .Eq) (rEqT X.K n) := by
  rintro pins s σ H x y v u Q I rx ry ⟨a, b, xs, ys, rfl, rfl, ha, hb, hl, hd, q⟩
  cases rx
  cases ry
  obtain ⟨vs, r1, t1, _⟩ := I.tuple ha
  obtain ⟨ws, r2, t2, _⟩ := I.tuple hb
  have l1 := r1.length
  have l2 := r2.length
  have hs : vs.length = ws.length := by omega
  refine SeqAt.eq_tupleAt (e := fun _ => true) t1 t2 (by omega) (fun j h1 h2 => ?_) ⟨.bl true, H, I, by rw [all_true]; simp [RelV, hs], q⟩
  simp only [List.size_toArray] at h1 h2
  obtain ⟨w1, z1, rz1⟩ := r1.get (i := j) (x := xs[j]'(by omega)) (List.getElem?_eq_getElem (by omega))
  obtain ⟨w2, z2, rz2⟩ := r2.get (i := j) (x := ys[j]'(by omega)) (List.getElem?_eq_getElem (by omega))
  have a1 : vs.toArray[j] = w1 := by
    have := (List.getElem?_eq_some_iff.mp z1).2
    simpa using this
  have a2 : ws.toArray[j] = w2 := by
    have := (List.getElem?_eq_some_iff.mp z2).2
    simpa using this
  rw [a1, a2]
  exact (hd j (by omega) (by omega)).eqAt I rz1 rz2 (by rw [Around.in1_units]; omega)
end
end L2
namespace K61
open PySem L2 LX
/-- boxes with rows -/
structure Ab (CB CM : Addr) (H : Hp) (B dB m c dx : Addr) (xs : List V) (d : Addr) (kvs : List (Key × V)) (rows : List Row) : Prop where
  x : Bx CB CM (7 * rows.length) H B dB m c dx xs (wordsOf rows) d kvs
  ok : AllOk rows
  ks : Keys kvs rows
  n : rows.length ≤ 13
theorem not_taken {rows : List Row} {i : Nat} (hi : i < rows.length) (h : ¬ taken rows i) : rows[i]? = some none := by
  obtain ⟨q, eq⟩ : ∃ q, rows[i]? = some q := ⟨_, List.getElem?_eq_getElem hi⟩
  cases q with
  | none => exact eq
  | some q => exact absurd ⟨q, eq⟩ h
section
variable {CB CM : Addr} {H H' : Hp} {B dB m c dx : Addr} {xs xs' : List V} {d : Addr} {kvs : List (Key × V)} {R : Addr} {rs : List V} {rows : List Row} {vl : Nat → Addr} {i : Nat} {t : Int} {wv fs : List Wc}
theorem Ab.same (a : Ab CB CM H B dB m c dx xs d kvs rows) (s : Same H H') : Ab CB CM H' B dB m c dx xs d kvs rows := ⟨a.x.same s, a.ok, a.ks, a.n⟩
theorem Ab.lay {v : V} (a : Ab CB CM H B dB m c dx xs d kvs rows) (hi : i < rows.length) (hn : valV kvs (Sum.inl (7 * (i : Int))) = none) (hw : wv.length ≤ 6) (hh : ∀ x ∈ wv, NotHd x)
    (X : Bx CB CM (7 * rows.length) H' B dB m c dx xs' (laidN (wordsOf rows) (7 * (i : Int)) t wv wv.length) d (putK kvs (Sum.inl (7 * (i : Int))) v)) : Ab CB CM H' B dB m c dx xs' d (putK kvs (Sum.inl (7 * (i : Int))) v) (rows.set i (some (t, wv))) := by
  have nt := (a.ks.nil7 i).mp hn
  rw [laid_words a.ok (not_taken hi nt) hw hh] at X
  exact ⟨by rw [List.length_set]; exact X, a.ok.set ⟨hw, hh⟩, a.ks.put hi nt, by rw [List.length_set]; exact a.n⟩
theorem Ab.clear (a : Ab CB CM H B dB m c dx xs d kvs rows) (hi : i < rows.length) (X : Bx CB CM (7 * rows.length) H' B dB m c dx xs' (clearN (wordsOf rows) (7 * (i : Int)) 7) d (dropK kvs (Sum.inl (7 * (i : Int))))) :
    Ab CB CM H' B dB m c dx xs' d (dropK kvs (Sum.inl (7 * (i : Int)))) (rows.set i none) := by
  rw [clear_words a.ok hi] at X
  exact ⟨by rw [List.length_set]; exact X, a.ok.set trivial, a.ks.drop hi, by rw [List.length_set]; exact a.n⟩
theorem Ab.put {k : Nat} {v : V} {wd : Wc} (a : Ab CB CM H B dB m c dx xs d kvs rows) (e : rows[i]? = some (some (t, fs))) (hk : k < fs.length) (hw : NotHd wd) (s : Same H H') (hv : WV H' v wd) :
    Ab CB CM (upd H' c (.lst (xs.set (7 * (i : Int) + 1 + (k : Int)).toNat v))) B dB m c dx (xs.set (7 * (i : Int) + 1 + (k : Int)).toNat v) d kvs (rows.set i (some (t, fs.set k wd))) := by
  have hi := (List.getElem?_eq_some_iff.mp e).1
  have ok1 := a.ok _ (List.mem_of_getElem? e)
  have X := (a.same s).x
  have ew := put_words (wd := wd) a.ok e hk hw
  have okr : RowOk (some (t, fs.set k wd)) := ⟨by rw [List.length_set]; exact ok1.1, fun x hx => by
    rcases List.mem_or_eq_of_mem_set hx with q | q
    · exact ok1.2 x q
    · rw [q]; exact hw⟩
  refine ⟨⟨?_, ?_, ?_⟩, a.ok.set okr, a.ks.same fun b => ?_, by rw [List.length_set]; exact a.n⟩
  · rw [upd_ne (ne_of X.b X.w.mem.2 (by intro z; cases z))]; exact X.b
  · rw [List.length_set, ← ew]
    exact X.w.put hv (X.w.good.set fun t n z => absurd z (hw t n))
  · rw [upd_ne (ne_of X.t X.w.mem.2 (by intro z; cases z))]; exact X.t
  · rw [taken_set hi]
    split
    · rename_i q
      rw [q]
      exact ⟨fun _ => ⟨_, e⟩, fun _ => rfl⟩
    · exact Iff.rfl
/-- where something else changes -/
theorem Ab.but {c2 d2 : Addr} {ys : List V} {kv2 : List (Key × V)} (a : Ab CB CM H B dB m c dx xs d kvs rows) (hc : H c2 = some (.lst ys)) (hd : H d2 = some (.dK kv2)) (bt : But2 c2 d2 H H') (nc : c ≠ c2) (nd : d ≠ d2) : Ab CB CM H' B dB m c dx xs d kvs rows := by
  have tp : Tups H H' := fun t us q => bt t _ (ne_of q hc (by intro z; cases z)) (ne_of q hd (by intro z; cases z)) q
  have X := a.x
  refine ⟨⟨bt _ _ (ne_of X.b hc (by intro z; cases z)) (ne_of X.b hd (by intro z; cases z)) X.b, ⟨⟨?_, ?_⟩, X.w.rel.keep tp, X.w.good, X.w.big⟩, ?_⟩, a.ok, a.ks, a.n⟩
  · exact bt _ _ (ne_of X.w.mem.1 hc (by intro z; cases z)) (ne_of X.w.mem.1 hd (by intro z; cases z)) X.w.mem.1
  · exact bt _ _ nc (ne_of X.w.mem.2 hd (by intro z; cases z)) X.w.mem.2
  · exact bt _ _ (ne_of X.t hc (by intro z; cases z)) nd X.t
theorem Al.ab (a : Al CB CM H B dB m c dx xs d kvs R rs rows vl) : Ab CB CM H B dB m c dx xs d kvs rows := ⟨a.x, a.ok, a.ks, a.n⟩
theorem Ab.al (a : Ab CB CM H B dB m c dx xs d kvs rows) (r : RA H R rs rows vl) (Rc : R ≠ c) (vc : ∀ b, taken rows b → vl b ≠ c) : Al CB CM H B dB m c dx xs d kvs R rs rows vl := ⟨a.x, r, a.ok, a.ks, a.n, Rc, vc⟩
/-- a list of the law's that is no part of the boxes changes -/
theorem Ab.upd {l : Addr} {zs us : List V} (a : Ab CB CM H B dB m c dx xs d kvs rows) (hl : H l = some (.lst zs)) (nl : l ≠ c) : Ab CB CM (L2.upd H l (.lst us)) B dB m c dx xs d kvs rows := by
  have X := a.x
  refine ⟨⟨?_, ⟨⟨?_, ?_⟩, X.w.rel.keep (Tups.set hl), X.w.good, X.w.big⟩, ?_⟩, a.ok, a.ks, a.n⟩
  · rw [upd_ne (ne_of X.b hl (by intro z; cases z))]; exact X.b
  · rw [upd_ne (ne_of X.w.mem.1 hl (by intro z; cases z))]; exact X.w.mem.1
  · rw [upd_ne (Ne.symm nl)]; exact X.w.mem.2
  · rw [upd_ne (ne_of X.t hl (by intro z; cases z))]; exact X.t
/-- a row is put -/
theorem RA.put {p v : Addr} {us : List V} (r : RA H R rs rows vl) (hi : i < rows.length) (hp : H p = some (.tup [.int t, .ref v])) (hv : H v = some (.lst us)) (hr : Rel H us fs) (vn : ∀ b, taken rows b → vl b ≠ v) (vR : v ≠ R) :
    RA (L2.upd H R (.lst (rs.set i (.ref p)))) R (rs.set i (.ref p)) (rows.set i (some (t, fs))) (fun b => if b = i then v else vl b) := by
  have hil : i < rs.length := by rw [r.len]; exact hi
  have tp : Tups H (L2.upd H R (.lst (rs.set i (.ref p)))) := Tups.set r.at_
  refine ⟨upd_same, by rw [List.length_set, List.length_set]; exact r.len, fun b e => ?_, fun b t' fs' e => ?_, fun b b' h1 h2 e => ?_, fun b h1 => ?_⟩
  · by_cases q : i = b
    · subst q
      rw [List.getElem?_set_self hi] at e
      cases e
    · rw [List.getElem?_set_ne q] at e ⊢
      exact r.no b e
  · by_cases q : i = b
    · subst q
      rw [List.getElem?_set_self hi] at e
      cases e
      refine ⟨p, us, List.getElem?_set_self hil, ?_, ?_, hr.keep tp⟩
      · rw [if_pos rfl]; exact tp _ _ hp
      · rw [if_pos rfl, upd_ne vR]; exact hv
    · rw [List.getElem?_set_ne q] at e ⊢
      obtain ⟨p', us', h1, h2, h3, h4⟩ := r.so b t' fs' e
      have nb : ¬ b = i := fun z => q z.symm
      refine ⟨p', us', h1, ?_, ?_, h4.keep tp⟩
      · rw [if_neg nb]; exact tp _ _ h2
      · rw [if_neg nb, upd_ne (r.ne b ⟨_, e⟩)]; exact h3
  · have h1 := (taken_set hi b).mp h1
    have h2 := (taken_set hi b').mp h2
    by_cases q1 : b = i
    · by_cases q2 : b' = i
      · rw [q1, q2]
      · rw [if_neg q2] at h2
        simp only [if_pos q1, if_neg q2] at e
        exact absurd e.symm (vn b' h2)
    · rw [if_neg q1] at h1
      by_cases q2 : b' = i
      · simp only [if_neg q1, if_pos q2] at e
        exact absurd e (vn b h1)
      · rw [if_neg q2] at h2
        simp only [if_neg q1, if_neg q2] at e
        exact r.inj b b' h1 h2 e
  · have h1 := (taken_set hi b).mp h1
    by_cases q1 : b = i
    · simp only [if_pos q1]; exact vR
    · rw [if_neg q1] at h1
      simp only [if_neg q1]
      exact r.ne b h1
theorem RA.drop (r : RA H R rs rows vl) (hi : i < rows.length) : RA (L2.upd H R (.lst (rs.set i .non))) R (rs.set i .non) (rows.set i none) vl := by
  have hil : i < rs.length := by rw [r.len]; exact hi
  have tp : Tups H (L2.upd H R (.lst (rs.set i .non))) := Tups.set r.at_
  have tk : ∀ b, taken (rows.set i none) b → taken rows b := fun b h => by
    have h := (taken_set hi b).mp h
    split at h
    · cases h
    · exact h
  refine ⟨upd_same, by rw [List.length_set, List.length_set]; exact r.len, fun b e => ?_, fun b t' fs' e => ?_, fun b b' h1 h2 e => r.inj b b' (tk b h1) (tk b' h2) e, fun b h1 => r.ne b (tk b h1)⟩
  · by_cases q : i = b
    · subst q
      exact List.getElem?_set_self hil
    · rw [List.getElem?_set_ne q] at e ⊢
      exact r.no b e
  · by_cases q : i = b
    · subst q
      rw [List.getElem?_set_self hi] at e
      cases e
    · rw [List.getElem?_set_ne q] at e ⊢
      obtain ⟨p', us', h1, h2, h3, h4⟩ := r.so b t' fs' e
      exact ⟨p', us', h1, tp _ _ h2, by rw [upd_ne (r.ne b ⟨_, e⟩)]; exact h3, h4.keep tp⟩
/-- a field of a row is put -/
theorem RA.fld {k : Nat} {v : V} {wd : Wc} {us : List V} (r : RA H R rs rows vl) (e : rows[i]? = some (some (t, fs))) (hu : H (vl i) = some (.lst us)) (hr : Rel H us fs) (hv : WV H v wd) : RA (L2.upd H (vl i) (.lst (us.set k v))) R rs (rows.set i (some (t, fs.set k wd))) vl := by
  have hi := (List.getElem?_eq_some_iff.mp e).1
  have ti : taken rows i := ⟨_, e⟩
  have tp : Tups H (L2.upd H (vl i) (.lst (us.set k v))) := Tups.set hu
  have tk : ∀ b, taken (rows.set i (some (t, fs.set k wd))) b → taken rows b := fun b h => by
    have h := (taken_set hi b).mp h
    split at h
    · rename_i q
      rw [q]
      exact ti
    · exact h
  refine ⟨by rw [upd_ne (Ne.symm (r.ne i ti))]; exact r.at_, by rw [List.length_set]; exact r.len, fun b e' => ?_, fun b t' fs' e' => ?_, fun b b' h1 h2 e => r.inj b b' (tk b h1) (tk b' h2) e, fun b h1 => r.ne b (tk b h1)⟩
  · by_cases q : i = b
    · subst q
      rw [List.getElem?_set_self hi] at e'
      cases e'
    · rw [List.getElem?_set_ne q] at e'
      exact r.no b e'
  · by_cases q : i = b
    · subst q
      rw [List.getElem?_set_self hi] at e'
      cases e'
      obtain ⟨p', us', h1, h2, h3, h4⟩ := r.so i t fs e
      exact ⟨p', us.set k v, h1, tp _ _ h2, upd_same, (hr.set hv).keep tp⟩
    · rw [List.getElem?_set_ne q] at e'
      obtain ⟨p', us', h1, h2, h3, h4⟩ := r.so b t' fs' e'
      exact ⟨p', us', h1, tp _ _ h2, by rw [upd_ne (fun z => q (r.inj i b ti ⟨_, e'⟩ z.symm))]; exact h3, h4.keep tp⟩
end
/-- the free boxes -/
def freeTo (rows : List Row) : Nat → List Int
  | 0 => []
  | n + 1 => if (rows[n]?.bind id).isSome then freeTo rows n else freeTo rows n ++ [(n : Int)]
theorem freeTo_le {rows : List Row} : ∀ n : Nat, (freeTo rows n).length ≤ n
  | 0 => Nat.le_refl _
  | n + 1 => by
    have := freeTo_le (rows := rows) n
    unfold freeTo
    split
    · omega
    · rw [List.length_append]; simp; omega
theorem free_first {rows : List Row} : ∀ n : Nat, (freeTo rows n = [] ∧ ∀ j : Nat, j < n → taken rows j) ∨ ∃ (i : Nat) (r : List Int), i < n ∧ freeTo rows n = (i : Int) :: r ∧ ¬ taken rows i ∧ ∀ j : Nat, j < i → taken rows j
  | 0 => .inl ⟨rfl, fun j h => by omega⟩
  | n + 1 => by
    unfold freeTo
    rcases free_first (rows := rows) n with ⟨h1, h2⟩ | ⟨i, r, h1, h2, h3, h4⟩
    · split
      · rename_i q
        refine .inl ⟨h1, fun j hj => ?_⟩
        by_cases z : j < n
        · exact h2 j z
        · rw [show j = n by omega]; exact taken_iff.mp q
      · rename_i q
        exact .inr ⟨n, [], by omega, by rw [h1]; rfl, fun z => q (taken_iff.mpr z), h2⟩
    · split
      · exact .inr ⟨i, r, by omega, h2, h3, h4⟩
      · exact .inr ⟨i, r ++ [(n : Int)], by omega, by rw [h2]; rfl, h3, h4⟩
/-- what may have changed -/
def Fr (c d R : Addr) (rows : List Row) (vl : Nat → Addr) (H H' : Hp) : Prop := ∀ b u, b ≠ c → b ≠ d → b ≠ R → (∀ i, taken rows i → b ≠ vl i) → H b = some u → H' b = some u
theorem Fr.of {c d R : Addr} {rows : List Row} {vl : Nat → Addr} {H H' : Hp} (s : Same H H') : Fr c d R rows vl H H' := fun b u _ _ _ _ q => s b u q
/-- behind a deed of the law: rows as many as before, their fields kept where they were, or anew -/
def Post (CB CM : Addr) (H : Hp) (B dB m c dx d R : Addr) (rows : List Row) (vl : Nat → Addr) (Q : VK) : Prop :=
  ∀ xs' kvs' rs' rows' vl' H', Al CB CM H' B dB m c dx xs' d kvs' R rs' rows' vl' → rows'.length = rows.length → Fr c d R rows vl H H' → (∀ i, taken rows' i → (taken rows i ∧ vl' i = vl i) ∨ H (vl' i) = none) → Q (.bl true) H'
section
variable {N : Nat} {P : Program} {w : World} {K : PySem.W.Frag} {mg : Str → Option Value} {base : Heap} {CH d0 dR fXI : Addr} {CM fMI fSz fAt fPut fCp fLk : Addr} {CB fBI fBL fBT fBP fBC fBM fBF fLF fLT : Addr}
def spT (CB CM : Addr) : Sp := fun vs H Q E => spT0 CB CM vs H Q E ∨ spT1 CB CM vs H Q E ∨ spT2 CB CM vs H Q E ∨ spT3 CB CM vs H Q E
/-- _law_laid -/
def spLaid (CB CM : Addr) : Sp := fun vs H Q _ => ∃ B dB m c dx xs d kvs R rs rows vl, ∃ t cell : Int, vs = [.ref B, .ref R, .int t, .int cell] ∧ Al CB CM H B dB m c dx xs d kvs R rs rows vl ∧ Post CB CM H B dB m c dx d R rows vl Q
theorem scI : FnScope ["boxes", "rows", "t", "cell", "values", "free", "handed", "told"] ["boxes", "rows", "t", "cell"] (defScope sLaid) := ⟨rfl, rfl, rfl, by decide +kernel, rfl, by decide +kernel, by decide +kernel⟩
theorem ok_laid {f fTd : Addr} {fd fdT : FuncData} (F : Fun K "_law_laid" "_law_laid" sLaid f fd) (T : Txt K mg CH d0 dR fXI)
    (GT : FnOk P w K mg base (CXE P w) 10 fTd fdT ["boxes", "way", "a", "k", "word"] (spT CB CM)) (mT : mg "_law_told" = some (.ref fTd)) (kT : PySem.W.keepIn K (.ref fTd) = true) (bT : Binds K fdT ["boxes", "way", "a", "k", "word"] []) : FnOk P w K mg base (CXE P w) 11 f fd ["boxes", "rows", "t", "cell"] (spLaid CB CM) := by
  refine F.okE scI (fun vs H Q E h => ?_) (fun cdv A outer s H vs Q E hr h => ?_)
  · obtain ⟨B, dB, m, c, dx, xs, d, kvs, R, rs, rows, vl, t, cell, rfl, _⟩ := h
    rfl
  · obtain ⟨B, dB, m, c, dx, xs, d, kvs, R, rs, rows, vl, t, cell, rfl, a, k⟩ := h
    have hu := Nat.lt_of_succ_lt (hu_of hr)
    refine ⟨_, PSs.nox (pss_cons (ps_comp (i := 4) scI.nd rfl rfl (cl := []) (x := "k") (idx := []) (NC := ["k"]) ?co1 rfl (pi_range1 rfl T.z_range (pa_cons (pe_op op_mod (pe_op op_fdiv (pv 3) pe_int) pe_int) pa_nil)) (fun C fp s₀ H₀ => pe_non))
      (pss_cons (ps_compU (i := 5) scI.nd rfl rfl (cl := [("rows", s.heap.objs.size + 1)]) (x := "box") (idx := [1]) (NC := ["box", "rows"]) ?co2 rfl (pi_range1 rfl T.z_range (pa_cons (pe_callB call_len_seq rfl T.z_len PyProof.Rows.Boot.«len» (pa_cons (pv 1) pa_nil)) pa_nil))
          (fun C fp s₀ H₀ => pt_cmp (pc_isN (pe_ix (r := rIxL K) ix_list (pv 1) (pv 0) (fun _ _ => rfl)))) (fun C fp s₀ H₀ => pv 0))
      (pss_cons (ps_set (i := 6) scI.nd rfl (Or.inl rfl) (pe_callTy call_list_of rfl T.z_list PyProof.Rows.Boot.«list» (pa_cons (pv 4) pa_nil)))
      (pss_cons (ps_set (i := 7) scI.nd rfl (Or.inl rfl) (xe_call GT hr rfl mT kT bT .nil passN (pa_cons (pv 0) (pa_cons pe_int (pa_cons (pv 2) (pa_cons pe_int (pa_cons (pv 6) pa_nil)))))))
      (pss_cons (ps_expr (pe_bm PySem.F.plainAttrs_list PySem.F.slot_list_append PySem.F.type_list_append mt_append (pv 6) (pa_cons (pe_tup (pa_cons pe_str (pa_cons pe_int pa_nil))) pa_nil)))
      (pss_cons (ps_if (pt_cmpR (op_eq0 hu) (pv 5) (pe_lst pa_nil) (nomark _)) (pss_one (ps_ret (pe_cmpR op_eq (pv 7) pe_str (nomark _)))) pss_nil)
      (pss_cons (ps_asg (pe_tup (pa_cons (pv 2) (pa_cons (pv 4) pa_nil))) (pg_sub (pv 1) (pe_ix ix_list (pv 5) pe_int (fun _ _ => rfl)) set_list))
      (pss_one (ps_ret (pe_and (pe_callB call_isiT rfl T.z_isinstance PyProof.Rows.Boot.«isinstance» (pa_cons (pv 7) (pa_cons (pe_ty rfl T.z_int PyProof.Rows.Boot.«int») pa_nil)))
        (pe_and (pe_not (pe_callB call_isiT rfl T.z_isinstance PyProof.Rows.Boot.«isinstance» (pa_cons (pv 7) (pa_cons (pe_ty rfl T.z_bool PyProof.Rows.Boot.«bool») pa_nil)))) (pe_one (pe_cmpR op_eq (pv 7) (pe_op op_mul pe_int (pe_ix ix_list (pv 5) pe_int (fun _ _ => rfl))) (nomark _)))))))))))))), ?_⟩
    case co1 =>
      exact comp_ok (sc := defScope sLaid) (N := ["boxes", "rows", "t", "cell", "values", "free", "handed", "told"]) (ns := []) rfl rfl rfl (by decide +kernel) rfl rfl (by
        intro q hq
        cases hq)
    case co2 =>
      exact comp_ok (sc := defScope sLaid) (N := ["boxes", "rows", "t", "cell", "values", "free", "handed", "told"]) (ns := ["rows"]) rfl rfl rfl (by decide +kernel) rfl rfl (by
        intro q hq
        rw [List.mem_singleton.mp hq]
        rfl)
    have n0 := Int.emod_nonneg (cell / 7) (show (7 : Int) ≠ 0 by decide)
    have n1 := Int.emod_lt_of_pos (cell / 7) (show (0 : Int) < 7 by decide)
    obtain ⟨cnt, ec⟩ : ∃ cnt : Int, cell / 7 % 7 = cnt := ⟨_, rfl⟩
    rw [ec] at n0 n1
    have rl := a.r.len
    have n13 := a.n
    refine ⟨_, rfl, cell, 7, rfl, rfl, ⟨by decide, by decide⟩, _, 7, rfl, rfl, (by show (0 : Int) < 7; decide), cell / 7 % 7, rfl, ?_⟩
    rw [ec]
    refine ⟨by omega, by omega, fun v hv => ?_⟩
    refine comp_range (lo := 0) (n := cnt.toNat) (fun i ys H2 => ys = List.replicate i .non ∧ Same H H2 ∧ H2 v = some (.lst ys)) ⟨rfl, Same.upd hv, upd_same⟩ (fun i ys H2 hi ⟨e, _, z⟩ => ⟨z, by rw [e, List.length_replicate]⟩) (Nat.le_trans (show cnt.toNat ≤ 7 by omega) (by decide)) (fun i ys H2 hi ⟨e, s2, z⟩ => ?_) (fun ys H2 ⟨e, s2, z⟩ => ?_)
    · refine ⟨z, ?_, fun b u q => by rw [upd_ne (ne_of_none q hv)]; exact s2 b u q, upd_same⟩
      rw [e, List.replicate_succ']
    · subst e
      have a2 := a.same s2
      refine ⟨_, rfl, R, rs, rfl, .inl (SqL.of a2.r.at_), (rs.length : Int), rfl, by omega, by omega, fun D hD => ?_⟩
      refine compT_range (lo := 0) (n := (rs.length : Int).toNat) (fun i ys H3 => ys = (freeTo rows i).map V.int ∧ Same H2 H3 ∧ H3 D = some (.lst ys)) ⟨rfl, Same.upd hD, upd_same⟩ (fun i ys H3 hi ⟨e, _, z⟩ => ⟨z, by rw [e, List.length_map]; exact freeTo_le i⟩)
        (Nat.le_trans (show (rs.length : Int).toNat ≤ 13 by omega) (by decide)) (fun i ys H3 hi ⟨e, s3, z3⟩ => ?_) (fun ys H3 ⟨e, s3, z3⟩ => ?_)
      · obtain ⟨x, hx, hxn⟩ := a.r.is (i := i) (by omega)
        refine ⟨_, rfl, _, rfl, R, rs, 0 + (i : Int), x, rfl, rfl, SqL.of (s3 _ _ a2.r.at_), at_int (by omega) (by rw [show (0 + (i : Int)).toNat = i by omega]; exact hx), _, rfl, ?_⟩
        refine ite2 (fun h => ?_) (fun h => ?_)
        · have tk : ¬ taken rows i := hxn.mp (by simpa using h)
          refine ⟨_, rfl, z3, ?_, fun b u q => by rw [upd_ne (ne_of_none q hD)]; exact s3 b u q, upd_same⟩
          show _ = (freeTo rows (i + 1)).map V.int
          unfold freeTo
          rw [if_neg (fun q => tk (taken_iff.mp q)), List.map_append, e]
          simp
        · have tk : taken rows i := Classical.byContradiction fun q => h (by simpa using hxn.mpr q)
          refine ⟨?_, s3, z3⟩
          show _ = (freeTo rows (i + 1)).map V.int
          unfold freeTo
          rw [if_pos (taken_iff.mpr tk), e]
      · have ef : ys = (freeTo rows rows.length).map V.int := by
          rw [e, show (rs.length : Int).toNat = rows.length by omega]
        subst ef
        have zv3 := s3 _ _ z
        refine ⟨_, rfl, v, _, rfl, .inl (SqL.of zv3), fun hn hhn => ?_⟩
        have s4 := Same.upd (o := .lst (List.replicate cnt.toNat V.non)) hhn
        have st : Same H (upd H3 hn (.lst (List.replicate cnt.toNat V.non))) := (s2.trans s3).trans s4
        have a4 := a.same st
        have nhc : hn ≠ c := Ne.symm (ne_of_none ((a2.same s3).x.w.mem.2) hhn)
        have rel0 : ∀ H' : Hp, Rel H' (List.replicate cnt.toNat V.non) (List.replicate cnt.toNat .no) := fun H' => rel_none _
        have kl := a.ks.len
        have l6 : (List.replicate cnt.toNat V.non).length ≤ 6 := by rw [List.length_replicate]; omega
        have nh : ∀ x ∈ List.replicate cnt.toNat Wc.no, NotHd x := fun x hx t n z => by rw [List.eq_of_mem_replicate hx] at z; cases z
        refine ⟨_, rfl, _, rfl, _, rfl, .inl ⟨rows.length, B, dB, m, c, dx, xs, wordsOf rows, d, kvs, hn, _, _, .int 0, t, rfl, a4.x, upd_same, rel0 _, l6, nh, nhc, by omega, fun i hi hj hno xs' H' X' bt => ?_, fun hall H' sm => ?_⟩⟩
        · -- a box is free
          have w6 : (List.replicate cnt.toNat Wc.no).length ≤ 6 := by rw [List.length_replicate]; omega
          have b1 := a4.ab.lay hi hno w6 nh X'
          have ra1 := a4.r.but a4.x.w.mem.2 a4.x.t bt a4.Rc a4.vc
          have hd4 : ∀ {b : Addr} {us : List V}, upd H3 hn (.lst (List.replicate cnt.toNat V.non)) b = some (.lst us) → b ≠ d := fun q => ne_of q a4.x.t (by intro z; cases z)
          have nvc : v ≠ c := Ne.symm (ne_of_none a.x.w.mem.2 hv)
          have nDc : D ≠ c := Ne.symm (ne_of_none a2.x.w.mem.2 hD)
          have v4 := s4 _ _ zv3
          have D4 := s4 _ _ z3
          have v5 := bt v _ nvc (hd4 v4) v4
          have D5 := bt D _ nDc (hd4 D4) D4
          have h5 := bt hn _ nhc (hd4 upd_same) upd_same
          refine ⟨_, rfl, .inl ⟨rfl, _, SqL.of h5⟩, by show 2 ≤ sizeLine; decide, fun tp htp => ?_⟩
          have s6 := Same.upd (o := .tup [.str "number", .int 3]) htp
          refine ⟨hn, _, _, rfl, rfl, s6 _ _ h5, Nat.lt_of_le_of_lt l6 (by decide), ?_⟩
          obtain ⟨H7, e7⟩ : ∃ H7, upd (upd H' tp (.tup [.str "number", .int 3])) hn (.lst (List.replicate cnt.toNat V.non ++ [.ref tp])) = H7 := ⟨_, rfl⟩
          rw [e7]
          have b7 : ∀ b u, b ≠ hn → H' b = some u → H7 b = some u := fun b u n q => by rw [← e7, upd_ne n]; exact s6 _ _ q
          have nv : v ≠ hn := ne_of_none zv3 hhn
          have nD : D ≠ hn := ne_of_none z3 hhn
          have nR : R ≠ hn := ne_of_none ((a2.same s3).r.at_) hhn
          have v7 := b7 v _ nv v5
          have D7 := b7 D _ nD D5
          have ab7 : Ab CB CM H7 B dB m c dx xs' d (putK kvs (Sum.inl (7 * (i : Int))) (.bl true)) (rows.set i (some (t, List.replicate cnt.toNat .no))) := by rw [← e7]; exact (b1.same s6).upd (s6 _ _ h5) nhc
          have vlh : ∀ b, taken rows b → vl b ≠ hn := fun b hb => by
            obtain ⟨q, hq⟩ := hb
            obtain ⟨_, us', _, _, h3, _⟩ := (a2.same s3).r.so b q.1 q.2 hq
            exact ne_of_none h3 hhn
          have ra7 : RA H7 R rs rows vl := by
            have r6 := ra1.same s6
            have tp7 : Tups (upd H' tp (.tup [.str "number", .int 3])) H7 := by rw [← e7]; exact Tups.set (s6 _ _ h5)
            refine ⟨by rw [← e7, upd_ne nR]; exact r6.at_, r6.len, r6.no, fun b t' fs' e' => ?_, r6.inj, r6.ne⟩
            obtain ⟨p', us', h1, h2, h3, h4⟩ := r6.so b t' fs' e'
            exact ⟨p', us', h1, tp7 _ _ h2, by rw [← e7, upd_ne (vlh b ⟨_, e'⟩)]; exact h3, h4.keep tp7⟩
          rcases free_first (rows := rows) rows.length with ⟨_, hall⟩ | ⟨i', r', hi', ef', hnt, hj'⟩
          · exact absurd (hall i hi) ((a.ks.nil7 i).mp hno)
          have ei : i' = i := by
            rcases Nat.lt_trichotomy i' i with q | q | q
            · exact absurd ((a.ks.nil7 i').mpr hnt) (hj i' q)
            · exact q
            · exact absurd (hj' i q) ((a.ks.nil7 i).mp hno)
          subst ei
          have zf : (freeTo rows rows.length).map V.int = .int (i' : Int) :: r'.map V.int := by rw [ef']; rfl
          rw [zf] at D7
          refine ⟨_, rfl, Nat.zero_le _, fun q0 hq0 => ⟨D, q0, _, rfl, rfl, SqL.of (Same.upd hq0 _ _ D7), SqL.of upd_same, _, rfl, iteF ?_⟩⟩
          have s8 := Same.upd (o := .lst []) hq0
          refine ⟨_, rfl, _, rfl, by show 2 ≤ sizeLine; decide, fun p hp => ?_⟩
          have s9 := s8.trans (Same.upd (o := .tup [.int t, .ref v]) hp)
          obtain ⟨H9, e9⟩ : ∃ H9, upd (upd H7 q0 (.lst [])) p (.tup [.int t, .ref v]) = H9 := ⟨_, rfl⟩
          have hp9 : H9 p = some (.tup [.int t, .ref v]) := by rw [← e9]; exact upd_same
          rw [e9] at s9 ⊢
          have ra9 := ra7.same s9
          refine ⟨_, rfl, _, rfl, D, _, 0, .int (i' : Int), rfl, rfl, SqL.of (s9 _ _ D7), atI_nat (j := 0) rfl, R, rs, (i' : Int), i', rfl, rfl, ra9.at_, ?_, ?_⟩
          · unfold ixN
            rw [if_pos (by omega), if_pos (by omega)]
            simp
          have nDR : D ≠ R := Ne.symm (ne_of_none a2.r.at_ hD)
          have nvR : v ≠ R := Ne.symm (ne_of_none a.r.at_ hv)
          have vlv : ∀ b, taken rows b → vl b ≠ v := fun b hb => by
            obtain ⟨q, hq⟩ := hb
            obtain ⟨_, us', _, _, h3, _⟩ := a.r.so b q.1 q.2 hq
            exact ne_of_none h3 hv
          have raE := ra9.put hi hp9 (s9 _ _ v7) (rel0 _) vlv nvR
          have abE := (ab7.same s9).upd (us := rs.set i' (.ref p)) ra9.at_ a.Rc
          have DE : upd H9 R (.lst (rs.set i' (.ref p))) D = some (.lst (.int (i' : Int) :: r'.map V.int)) := by rw [upd_ne nDR]; exact s9 _ _ D7
          refine isi_readT (x := .int (7 * (i' : Int))) (t := .type "int") (b := true) rfl (.of (.int _)) (by kernel_rfl) ⟨_, rfl, iteT ?_⟩
          refine isi_readT (x := .int (7 * (i' : Int))) (t := .type "int") (b := false) rfl (.of (.int _)) (by kernel_rfl) ⟨_, rfl, _, rfl, iteT ?_⟩
          refine ⟨_, rfl, _, rfl, D, _, 0, .int (i' : Int), rfl, rfl, SqL.of DE, atI_nat (j := 0) rfl, 7, _, rfl, rfl, .inl ⟨by decide, by decide⟩, rfl, ?_⟩
          rw [decide_eq_true rfl]
          refine k _ _ _ _ _ _ (abE.al raE a.Rc fun b hb => ?_) (by rw [List.length_set]) (fun b u n1 n2 n3 n4 q => ?_) (fun b hb => ?_)
          · have hb := (taken_set hi b).mp hb
            by_cases z : b = i'
            · simp only [if_pos z]; exact nvc
            · rw [if_neg z] at hb
              simp only [if_neg z]
              exact a.vc b hb
          · rw [upd_ne n3]
            refine s9 _ _ (b7 b u (ne_of_none ((s2.trans s3) _ _ q) hhn) (bt b u n1 n2 (st _ _ q)))
          · have hb := (taken_set hi b).mp hb
            by_cases z : b = i'
            · simp only [if_pos z]; exact .inr hv
            · rw [if_neg z] at hb
              exact .inl ⟨hb, if_neg z⟩
        · -- none is free
          have al : ∀ j : Nat, j < rows.length → taken rows j := fun j hj => Classical.byContradiction fun q => hall j hj ((a.ks.nil7 j).mpr q)
          have h5 := sm _ _ (upd_same (H := H3) (a := hn) (o := .lst (List.replicate cnt.toNat V.non)))
          have D5 := sm _ _ (s4 _ _ z3)
          refine ⟨_, rfl, .inl ⟨rfl, _, SqL.of h5⟩, by show 2 ≤ sizeLine; decide, fun tp htp => ?_⟩
          have s6 := Same.upd (o := .tup [.str "number", .int 3]) htp
          refine ⟨hn, _, _, rfl, rfl, s6 _ _ h5, Nat.lt_of_le_of_lt l6 (by decide), ?_⟩
          obtain ⟨H7, e7⟩ : ∃ H7, upd (upd H' tp (.tup [.str "number", .int 3])) hn (.lst (List.replicate cnt.toNat V.non ++ [.ref tp])) = H7 := ⟨_, rfl⟩
          rw [e7]
          have s7 : Same H H7 := fun b u q => by
            rw [← e7, upd_ne (ne_of_none ((s2.trans s3) _ _ q) hhn)]
            exact s6 _ _ (sm _ _ (st _ _ q))
          have D7 : H7 D = some (.lst ((freeTo rows rows.length).map V.int)) := by rw [← e7, upd_ne (ne_of_none z3 hhn)]; exact s6 _ _ D5
          rcases free_first (rows := rows) rows.length with ⟨ef', _⟩ | ⟨i', r', hi', ef', hnt, hj'⟩
          · rw [ef'] at D7
            refine ⟨_, rfl, Nat.zero_le _, fun q0 hq0 => ⟨D, q0, _, rfl, rfl, SqL.of (Same.upd hq0 _ _ D7), SqL.of upd_same, _, rfl, iteT ?_⟩⟩
            refine ⟨_, rfl, rfl, ?_⟩
            have s8 := s7.trans (Same.upd (o := .lst []) hq0)
            exact k _ _ _ _ _ _ (a.same s8) rfl (Fr.of s8) (fun i hi => .inl ⟨hi, rfl⟩)
          · exact absurd (al i' hi') hnt
end
end K61
end
section
set_option Elab.async false
set_option linter.all false
set_option maxRecDepth 100000
set_option maxHeartbeats 4000000
set_option exponentiation.threshold 4000
namespace K61
open PySem L2 LX
theorem log_big {n : Int} (h0 : -(10 ^ 62) < n) (h1 : n < 10 ^ 62) : n.natAbs.log2 < 1920 := log_small (by
  have : n.natAbs < 10 ^ 62 := by omega
  exact Nat.lt_trans this (by decide))
theorem at_mod {xs : List V} {z : Int} (h : 0 < xs.length) : ∃ v, v ∈ xs ∧ atI xs (z % (xs.length : Int)) = some v := by
  have m0 := Int.emod_nonneg z (show (xs.length : Int) ≠ 0 by omega)
  have m1 := Int.emod_lt_of_pos z (show (0 : Int) < (xs.length : Int) by omega)
  have hlt : (z % (xs.length : Int)).toNat < xs.length := by omega
  exact ⟨_, List.getElem_mem hlt, at_int m0 (List.getElem?_eq_getElem hlt)⟩
section
variable {N : Nat} {P : Program} {w : World} {K : PySem.W.Frag} {mg : Str → Option Value} {base : Heap} {CH d0 dR fXI : Addr} {CM fMI fSz fAt fPut fCp fLk : Addr} {CB fBI fBL fBT fBP fBC fBM fBF fLF fLT : Addr}
/-- _law_address: some number -/
def spAd : Sp := fun vs H Q _ => ∃ R rs rows vl, ∃ cell : Int, vs = [.ref R, .int cell] ∧ RA H R rs rows vl ∧ rows.length ≤ 13 ∧ ∀ (a : Int) H', Same H H' → a.natAbs.log2 < 1920 → Q (.int a) H'
theorem scX : FnScope ["rows", "cell", "some", "far"] ["rows", "cell"] (defScope sLAddr) := ⟨rfl, rfl, rfl, by decide +kernel, rfl, by decide +kernel, by decide +kernel⟩
theorem ok_ad {f : Addr} {fd : FuncData} (F : Fun K "_law_address" "_law_address" sLAddr f fd) (T : Txt K mg CH d0 dR fXI) : FnOk P w K mg base (CXE P w) 1 f fd ["rows", "cell"] spAd := by
  refine F.okE scX (fun vs H Q E h => ?_) (fun cdv A outer s H vs Q E hr h => ?_)
  · obtain ⟨R, rs, rows, vl, cell, rfl, _⟩ := h
    rfl
  · obtain ⟨R, rs, rows, vl, cell, rfl, r, n13, k⟩ := h
    have hu := Nat.lt_of_succ_lt (hu_of hr)
    refine ⟨_, PSs.nox (pss_cons (ps_compU (i := 2) scX.nd rfl rfl (cl := [("rows", s.heap.objs.size + 1)]) (x := "box") (idx := [0]) (NC := ["box", "rows"]) ?co1 rfl (pi_range1 rfl T.z_range (pa_cons (pe_callB call_len_seq rfl T.z_len PyProof.Rows.Boot.«len» (pa_cons (pv 0) pa_nil)) pa_nil))
          (fun C fp s₀ H₀ => pt_cmp (pc_notN (pe_ix (r := rIxL K) ix_list (pv 1) (pv 0) (fun _ _ => rfl)))) (fun C fp s₀ H₀ => pe_op op_mul pe_int (pv 0)))
      (pss_cons (ps_if (PW.pt (pw_and (pt_cmpR op_gt (pe_op op_mod (pv 1) pe_int) pe_int (nomark _)) (pw_and1 (pt_cmpR (op_ne0 hu) (pv 2) (pe_lst pa_nil) (nomark _)))))
          (pss_one (ps_ret (pe_ix ix_list (pv 2) (pe_op op_mod (pe_op op_fdiv (pv 1) pe_int) (pe_callB call_len_seq rfl T.z_len PyProof.Rows.Boot.«len» (pa_cons (pv 2) pa_nil))) (fun _ _ => rfl)))) pss_nil)
      (pss_cons (ps_set (i := 3) scX.nd rfl (Or.inl rfl) (pe_op op_mod (pe_op op_fdiv (pv 1) pe_int) (pe_op op_pow pe_int pe_int)))
      (pss_one (ps_ret (pe_ix ix_list (pe_lst (pa_cons (pe_op op_mod (pe_op op_fdiv (pv 1) pe_int) (pe_op op_add (pe_op op_mul pe_int (pe_callB call_len_seq rfl T.z_len PyProof.Rows.Boot.«len» (pa_cons (pv 0) pa_nil))) pe_int))
          (pa_cons (pe_op op_sub (pe_un un_neg pe_int) (pv 3)) (pa_cons (pe_op op_add (pe_op op_mul pe_int (pe_callB call_len_seq rfl T.z_len PyProof.Rows.Boot.«len» (pa_cons (pv 0) pa_nil))) (pv 3))
          (pa_cons (pe_op op_mul pe_int (pe_op op_mod (pe_op op_fdiv (pv 1) pe_int) pe_int)) pa_nil))))) (pe_op op_mod (pe_op op_fdiv (pv 1) pe_int) pe_int) (fun _ _ => rfl))))))), ?_⟩
    case co1 =>
      exact comp_ok (sc := defScope sLAddr) (N := ["rows", "cell", "some", "far"]) (ns := ["rows"]) rfl rfl rfl (by decide +kernel) rfl rfl (by
        intro q hq
        rw [List.mem_singleton.mp hq]
        rfl)
    have rl := r.len
    refine ⟨_, rfl, R, rs, rfl, .inl (SqL.of r.at_), (rs.length : Int), rfl, by omega, by omega, fun D hD => ?_⟩
    refine compT_range (lo := 0) (n := (rs.length : Int).toNat) (fun i ys H2 => ys = (firstsTo rows i).map V.int ∧ Same H H2 ∧ H2 D = some (.lst ys)) ⟨rfl, Same.upd hD, upd_same⟩ (fun i ys H2 hi ⟨e, _, z⟩ => ⟨z, by rw [e, List.length_map]; exact firstsTo_le i⟩)
      (Nat.le_trans (show (rs.length : Int).toNat ≤ 13 by omega) (by decide)) (fun i ys H2 hi ⟨e, s2, z⟩ => ?_) (fun ys H2 ⟨e, s2, z⟩ => ?_)
    · obtain ⟨v, hv, hvn⟩ := r.is (i := i) (by omega)
      refine ⟨_, rfl, _, rfl, R, rs, 0 + (i : Int), v, rfl, rfl, SqL.of (s2 _ _ r.at_), at_int (by omega) (by rw [show (0 + (i : Int)).toNat = i by omega]; exact hv), _, rfl, ?_⟩
      refine ite2 (fun h => ?_) (fun h => ?_)
      · have tk : taken rows i := Classical.byContradiction fun q => by
          simp at h
          exact h (hvn.mpr q)
        refine ⟨_, rfl, 7, 0 + (i : Int), rfl, rfl, .inl ⟨by decide, by decide⟩, z, ?_, fun b u q => by rw [upd_ne (ne_of_none q hD)]; exact s2 b u q, upd_same⟩
        rw [firstsTo_succ, if_pos (taken_iff.mpr tk), List.map_append, e]
        simp
      · have tk : ¬ taken rows i := by
          simp at h
          exact hvn.mp h
        refine ⟨?_, s2, z⟩
        rw [firstsTo_succ, if_neg (fun q => tk (taken_iff.mp q)), e]
    · have p59 : (0 : Int) < 10 ^ (59 : Int).toNat := by decide
      have R2 := s2 _ _ r.at_
      -- the last two rows
      have tail : ∀ H3 : Hp, Same H H3 → ∀ far : Int, 0 ≤ far → far < 10 ^ (59 : Int).toNat → ∀ p : Addr, H3 p = none → ∃ v : V, atI [V.int (cell / 16 % (7 * (rs.length : Int) + 2)), V.int (-1 - far), V.int (7 * (rs.length : Int) + far), V.int (7 * (cell / 16 % 14))] (cell / 4 % 4) = some v ∧ Q v (upd H3 p (.lst [V.int (cell / 16 % (7 * (rs.length : Int) + 2)), V.int (-1 - far), V.int (7 * (rs.length : Int) + far), V.int (7 * (cell / 16 % 14))])) := fun H3 s3 far f0 f1 p hp => by
        obtain ⟨v, hv, hat⟩ := at_mod (z := cell / 4) (xs := [V.int (cell / 16 % (7 * (rs.length : Int) + 2)), V.int (-1 - far), V.int (7 * (rs.length : Int) + far), V.int (7 * (cell / 16 % 14))]) (by show 0 < 4; decide)
        refine ⟨v, hat, ?_⟩
        have f2 : (10 : Int) ^ (59 : Int).toNat < 10 ^ 61 := by decide
        have m0 := Int.emod_nonneg (cell / 16) (show (7 * (rs.length : Int) + 2) ≠ 0 by omega)
        have m1 := Int.emod_lt_of_pos (cell / 16) (show (0 : Int) < 7 * (rs.length : Int) + 2 by omega)
        have m2 := Int.emod_nonneg (cell / 16) (show (14 : Int) ≠ 0 by decide)
        have m3 := Int.emod_lt_of_pos (cell / 16) (show (0 : Int) < 14 by decide)
        have b1 : (100 : Int) < 10 ^ 62 := by decide
        have b2 : (10 : Int) ^ 61 + 1000 < 10 ^ 62 := by decide
        have st := s3.trans (Same.upd (o := .lst [V.int (cell / 16 % (7 * (rs.length : Int) + 2)), V.int (-1 - far), V.int (7 * (rs.length : Int) + far), V.int (7 * (cell / 16 % 14))]) hp)
        simp only [List.mem_cons, List.not_mem_nil, or_false] at hv
        rcases hv with e | e | e | e
        · subst e; exact k _ _ st (log_big (by omega) (by omega))
        · subst e; exact k _ _ st (log_big (by omega) (by omega))
        · subst e; exact k _ _ st (log_big (by omega) (by omega))
        · subst e; exact k _ _ st (log_big (by omega) (by omega))
      refine ⟨_, rfl, cell, 4, rfl, rfl, (by show (0 : Int) < 4; decide), _, 0, rfl, rfl, _, rfl, ite2 (fun _ => ?_) (fun _ => iteF ?_)⟩
      · refine ⟨_, rfl, Nat.zero_le _, fun p hp => ?_⟩
        have s3 := s2.trans (Same.upd (o := .lst []) hp)
        refine ⟨D, p, ys, rfl, rfl, SqL.of (Same.upd hp _ _ z), SqL.of upd_same, _, rfl, ?_⟩
        cases ey : ys with
        | nil =>
          refine iteF ?_
          refine ⟨_, rfl, cell, 16, rfl, rfl, ⟨by decide, by decide⟩, 10, 59, rfl, rfl, ⟨by decide, by decide, by decide⟩, _, _, rfl, rfl, p59, ?_⟩
          refine ⟨_, rfl, cell, 16, rfl, rfl, ⟨by decide, by decide⟩, _, rfl, R, rs, rfl, .inl (SqL.of (s3 _ _ r.at_)), 7, _, rfl, rfl, .inl ⟨by decide, by decide⟩, _, 2, rfl, rfl, _, _, rfl, rfl, (by show (0 : Int) < 7 * (rs.length : Int) + 2; omega), 1, rfl, _, rfl, _, _, rfl, rfl, _, rfl, R, rs, rfl, .inl (SqL.of (s3 _ _ r.at_)), 7, _, rfl, rfl, .inl ⟨by decide, by decide⟩, _, rfl, _, _, rfl, rfl, _, rfl, cell, 16, rfl, rfl, ⟨by decide, by decide⟩, _, 14, rfl, rfl, (by show (0 : Int) < 14; decide), 7, _, rfl, rfl, .inl ⟨by decide, by decide⟩, by show 4 ≤ sizeLine; decide, fun q hq => ?_⟩
          obtain ⟨v, hat, hQ⟩ := tail _ s3 (cell / 16 % 10 ^ (59 : Int).toNat) (Int.emod_nonneg _ (Int.ne_of_gt p59)) (Int.emod_lt_of_pos _ p59) q hq
          exact ⟨_, rfl, cell, 4, rfl, rfl, ⟨by decide, by decide⟩, _, 4, rfl, rfl, (by show (0 : Int) < 4; decide), q, _, _, v, rfl, rfl, SqL.of upd_same, hat, hQ⟩
        | cons y zs =>
          refine iteT ?_
          have zD := Same.upd (o := .lst []) hp _ _ z
          have ny : 0 < ys.length := by rw [ey]; simp
          obtain ⟨v, hv, hat⟩ := at_mod (z := cell / 4) ny
          refine ⟨_, rfl, _, rfl, cell, 4, rfl, rfl, ⟨by decide, by decide⟩, _, rfl, D, ys, rfl, .inl (SqL.of zD), _, _, rfl, rfl, (by show (0 : Int) < (ys.length : Int); omega), D, ys, _, v, rfl, rfl, SqL.of zD, hat, ?_⟩
          rw [e] at hv
          obtain ⟨n, hn, rfl⟩ := List.mem_map.mp hv
          obtain ⟨b, hb, e2, _⟩ := mem_firstsTo.mp hn
          exact k _ _ s3 (log7 (by omega) (by omega))
      · refine ⟨_, rfl, cell, 16, rfl, rfl, ⟨by decide, by decide⟩, 10, 59, rfl, rfl, ⟨by decide, by decide, by decide⟩, _, _, rfl, rfl, p59, ?_⟩
        refine ⟨_, rfl, cell, 16, rfl, rfl, ⟨by decide, by decide⟩, _, rfl, R, rs, rfl, .inl (SqL.of R2), 7, _, rfl, rfl, .inl ⟨by decide, by decide⟩, _, 2, rfl, rfl, _, _, rfl, rfl, (by show (0 : Int) < 7 * (rs.length : Int) + 2; omega), 1, rfl, _, rfl, _, _, rfl, rfl, _, rfl, R, rs, rfl, .inl (SqL.of R2), 7, _, rfl, rfl, .inl ⟨by decide, by decide⟩, _, rfl, _, _, rfl, rfl, _, rfl, cell, 16, rfl, rfl, ⟨by decide, by decide⟩, _, 14, rfl, rfl, (by show (0 : Int) < 14; decide), 7, _, rfl, rfl, .inl ⟨by decide, by decide⟩, by show 4 ≤ sizeLine; decide, fun q hq => ?_⟩
        obtain ⟨v, hat, hQ⟩ := tail _ s2 (cell / 16 % 10 ^ (59 : Int).toNat) (Int.emod_nonneg _ (Int.ne_of_gt p59)) (Int.emod_lt_of_pos _ p59) q hq
        exact ⟨_, rfl, cell, 4, rfl, rfl, ⟨by decide, by decide⟩, _, 4, rfl, rfl, (by show (0 : Int) < 4; decide), q, _, _, v, rfl, rfl, SqL.of upd_same, hat, hQ⟩
end
end K61
end
section
set_option Elab.async false
set_option linter.all false
set_option maxRecDepth 100000
set_option maxHeartbeats 4000000
set_option exponentiation.threshold 4000
namespace K61
open PySem L2 LX
section
variable {N : Nat} {P : Program} {w : World} {K : PySem.W.Frag} {mg : Str → Option Value} {base : Heap} {CH d0 dR fXI : Addr} {CM fMI fSz fAt fPut fCp fLk : Addr} {CB fBI fBL fBT fBP fBC fBM fBF fLF fLT : Addr}
theorem at3 {xs : List V} {z : Int} (hl : xs.length = 3) : ∃ v, v ∈ xs ∧ atI xs (z % 3) = some v := by
  have m0 := Int.emod_nonneg z (show (3 : Int) ≠ 0 by decide)
  have m1 := Int.emod_lt_of_pos z (show (0 : Int) < 3 by decide)
  have hlt : (z % 3).toNat < xs.length := by omega
  exact ⟨_, List.getElem_mem hlt, at_int m0 (List.getElem?_eq_getElem hlt)⟩
/-- _law_one -/
def spOne (CB CM : Addr) : Sp := fun vs H Q _ => ∃ B dB m c dx xs d kvs R rs rows vl, ∃ cell : Int, vs = [.ref B, .ref R, .int cell] ∧ Al CB CM H B dB m c dx xs d kvs R rs rows vl ∧ Post CB CM H B dB m c dx d R rows vl Q
theorem scO : FnScope ["boxes", "rows", "cell", "a", "stands", "way", "k", "word", "told", "row"] ["boxes", "rows", "cell"] (defScope sOne) := ⟨rfl, rfl, rfl, by decide +kernel, rfl, by decide +kernel, by decide +kernel⟩
theorem ok_one {f fTd fA : Addr} {fd fdT fdA : FuncData} (F : Fun K "_law_one" "_law_one" sOne f fd) (T : Txt K mg CH d0 dR fXI)
    (GT : FnOk P w K mg base (CXE P w) 10 fTd fdT ["boxes", "way", "a", "k", "word"] (spT CB CM)) (mT : mg "_law_told" = some (.ref fTd)) (kT : PySem.W.keepIn K (.ref fTd) = true) (bT : Binds K fdT ["boxes", "way", "a", "k", "word"] [])
    (GA : FnOk P w K mg base (CXE P w) 1 fA fdA ["rows", "cell"] spAd) (mA : mg "_law_address" = some (.ref fA)) (kA : PySem.W.keepIn K (.ref fA) = true) (bA : Binds K fdA ["rows", "cell"] []) : FnOk P w K mg base (CXE P w) 11 f fd ["boxes", "rows", "cell"] (spOne CB CM) := by
  refine F.okE scO (fun vs H Q E h => ?_) (fun cdv A outer s H vs Q E hr h => ?_)
  · obtain ⟨B, dB, m, c, dx, xs, d, kvs, R, rs, rows, vl, cell, rfl, _⟩ := h
    rfl
  · obtain ⟨B, dB, m, c, dx, xs, d, kvs, R, rs, rows, vl, cell, rfl, a0, k⟩ := h
    have hu2 : (A.deeper (PyProof.Rows.envOfC "_law_one" (defScope sOne) s.heap.objs.size f cdv)).units + 2 + 1 < cLine := by
      have := hr.units
      omega
    refine ⟨_, PSs.nox (pss_cons (ps_set (i := 3) scO.nd rfl (Or.inl rfl) (xe_call GA (hr.mono (by decide)) rfl mA kA bA .nil passN (pa_cons (pv 1) (pa_cons (pe_op op_fdiv (pv 2) pe_int) pa_nil))))
      (pss_cons (ps_set (i := 4) scO.nd rfl (Or.inl rfl) (pe_and (pe_cmpR op_ge (pv 3) pe_int (nomark _)) (pe_and (pe_cmpR op_eq (pe_op op_mod (pv 3) pe_int) pe_int (nomark _)) (pe_and (pe_cmpR op_lt (pv 3) (pe_op op_mul pe_int (pe_callB call_len_seq rfl T.z_len PyProof.Rows.Boot.«len» (pa_cons (pv 1) pa_nil))) (nomark _))
          (pe_one (pe_cmp (pc_notN (pe_ix ix_list (pv 1) (pe_op op_fdiv (pv 3) pe_int) (fun _ _ => rfl)))))))))
      (pss_cons (ps_set (i := 5) scO.nd rfl (Or.inl rfl) (pe_op op_add pe_int (pe_op op_mod (pv 2) pe_int)))
      (pss_cons (ps_set (i := 6) scO.nd rfl (Or.inl rfl) (pe_op op_sub (pe_op op_mod (pe_op op_fdiv (pv 2) pe_int) pe_int) pe_int))
      (pss_cons (ps_set (i := 7) scO.nd rfl (Or.inl rfl) (pe_ix ix_list (pe_lst (pa_cons pe_non (pa_cons (pe_tup (pa_cons pe_str (pa_cons (pe_op op_mod (pv 2) (pe_op op_pow pe_int pe_int)) pa_nil))) (pa_cons (pe_tup (pa_cons pe_str (pa_cons (pe_op op_mul pe_int (pe_op op_mod (pv 2) pe_int)) pa_nil))) pa_nil)))) (pe_op op_mod (pe_op op_fdiv (pv 2) pe_int) pe_int) (fun _ _ => rfl)))
      (pss_cons (ps_set (i := 8) scO.nd rfl (Or.inl rfl) (xe_call GT hr rfl mT kT bT .nil passN (pa_cons (pv 0) (pa_cons (pv 5) (pa_cons (pv 3) (pa_cons (pv 6) (pa_cons (pv 7) pa_nil)))))))
      (pss_cons (ps_if (pt_not (pt_val (pv 4))) (pss_one (ps_ret (pe_cmpR op_eq (pv 8) pe_str (nomark _)))) pss_nil)
      (pss_cons (ps_set (i := 9) scO.nd rfl (Or.inl rfl) (pe_ix ix_list (pv 1) (pe_op op_fdiv (pv 3) pe_int) (fun _ _ => rfl)))
      (pss_cons (ps_if (pt_cmpR op_eq (pv 5) pe_int (nomark _)) (pss_one (ps_ret (pe_and (pe_cmpR (op_eqT (n := 2) hu2) (pv 8) (pe_tup (pa_cons (pe_ix ix_tup (pv 9) pe_int (fun _ _ => rfl)) (pa_cons (pe_ix ix_tup (pv 9) pe_int (fun _ _ => rfl)) pa_nil))) (nomark _)) (pe_one (pe_callB call_isiT rfl T.z_isinstance PyProof.Rows.Boot.«isinstance» (pa_cons (pe_ix ix_tup (pv 8) pe_int (fun _ _ => rfl)) (pa_cons (pe_ty rfl T.z_list PyProof.Rows.Boot.«list») pa_nil))))))) pss_nil)
      (pss_cons (ps_if (PW.pt (pw_and (pt_cmpR op_eq (pv 5) pe_int (nomark _)) (pw_and1 (PW.pt (pw_or (pt_cmpR op_lt (pv 6) pe_int (nomark _)) (pw_or1 (pt_cmpR op_ge (pv 6) (pe_callB call_len_seq rfl T.z_len PyProof.Rows.Boot.«len» (pa_cons (pe_ix ix_tup (pv 9) pe_int (fun _ _ => rfl)) pa_nil)) (nomark _)))))))) (pss_one (ps_ret (pe_cmpR op_eq (pv 8) pe_str (nomark _)))) pss_nil)
      (pss_cons (ps_if (pt_cmpR op_eq (pv 5) pe_int (nomark _)) (pss_one (ps_asg (pv 7) (pg_sub (pe_ix ix_tup (pv 9) pe_int (fun _ _ => rfl)) (pv 6) set_list))) (pss_one (ps_asg pe_non (pg_sub (pv 1) (pe_op op_fdiv (pv 3) pe_int) set_list))))
      (pss_one (ps_ret (pe_cmp (pc_isN (pv 8)))))))))))))))), ?_⟩
    have n13 := a0.n
    have rl := a0.r.len
    refine ⟨_, rfl, _, rfl, cell, 8, rfl, rfl, ⟨by decide, by decide⟩, R, rs, rows, vl, cell / 8, rfl, a0.r, n13, fun ad H1 s1 had => ?_⟩
    have a1 := a0.same s1
    have p60 : (0 : Int) < 10 ^ (60 : Int).toNat := by decide
    have ways : 1 + cell % 3 = 1 ∨ 1 + cell % 3 = 2 ∨ 1 + cell % 3 = 3 := by omega
    have words : ∀ (H1 : Hp) (t1 t2 lw : Addr), H1 t1 = none → upd H1 t1 (.tup [.str "number", .int (cell % 10 ^ (60 : Int).toNat)]) t2 = none → upd (upd H1 t1 (.tup [.str "number", .int (cell % 10 ^ (60 : Int).toNat)])) t2 (.tup [.str "at", .int (7 * (cell % 5))]) lw = none →
        ∃ (v : V) (wd : Wc), atI [V.non, .ref t1, .ref t2] (cell / 27 % 3) = some v ∧ NotHd wd ∧ Same H1 (upd (upd (upd H1 t1 (.tup [.str "number", .int (cell % 10 ^ (60 : Int).toNat)])) t2 (.tup [.str "at", .int (7 * (cell % 5))])) lw (.lst [.non, .ref t1, .ref t2])) ∧
          WV (upd (upd (upd H1 t1 (.tup [.str "number", .int (cell % 10 ^ (60 : Int).toNat)])) t2 (.tup [.str "at", .int (7 * (cell % 5))])) lw (.lst [.non, .ref t1, .ref t2])) v wd := fun H1 t1 t2 lw h1 h2 h3 => by
      obtain ⟨v, hv, hat⟩ := at3 (z := cell / 27) (xs := [V.non, .ref t1, .ref t2]) rfl
      have k2 := (Same.upd (o := .tup [.str "at", .int (7 * (cell % 5))]) h2).trans (Same.upd (o := .lst [.non, .ref t1, .ref t2]) h3)
      have sm := (Same.upd (o := .tup [.str "number", .int (cell % 10 ^ (60 : Int).toNat)]) h1).trans k2
      simp only [List.mem_cons, List.not_mem_nil, or_false] at hv
      rcases hv with e | e | e
      · subst e
        exact ⟨_, .no, hat, fun _ _ z => (nomatch z), sm, rfl⟩
      · subst e
        exact ⟨_, .num (cell % 10 ^ (60 : Int).toNat), hat, fun _ _ z => (nomatch z), sm, t1, rfl, k2 _ _ upd_same⟩
      · subst e
        exact ⟨_, .ad (7 * (cell % 5)), hat, fun _ _ z => (nomatch z), sm, t2, rfl, Same.upd h3 _ _ upd_same⟩
    refine ⟨_, rfl, ad, 0, rfl, rfl, _, rfl, ite2 (fun g1 => ?_) (fun g1 => ?_)⟩
    · simp only [decide_eq_true_eq] at g1
      refine ⟨_, rfl, ad, 7, rfl, rfl, (by show (0 : Int) < 7; decide), rfl, _, rfl, ite2 (fun g2 => ?_) (fun g2 => ?_)⟩
      · have g2 : ad % 7 = 0 := V.int.inj (of_decide_eq_true g2)
        refine ⟨_, rfl, _, rfl, R, rs, rfl, .inl (SqL.of a1.r.at_), 7, _, rfl, rfl, .inl ⟨by decide, by decide⟩, ad, _, rfl, rfl, _, rfl, ite2 (fun g3 => ?_) (fun g3 => ?_)⟩
        · simp only [decide_eq_true_eq] at g3
          obtain ⟨b, eb⟩ : ∃ b : Nat, ad = 7 * (b : Int) := ⟨(ad / 7).toNat, by omega⟩
          have hb : b < rows.length := by omega
          obtain ⟨x, hx, hxn⟩ := a0.r.is hb
          have atx : atI rs (ad / 7) = some x := at_int (by omega) (by rw [show (ad / 7).toNat = b by omega]; exact hx)
          refine ⟨_, rfl, _, rfl, ad, 7, rfl, rfl, ⟨by decide, by decide⟩, R, rs, _, x, rfl, rfl, SqL.of a1.r.at_, atx, ?_⟩
          by_cases tk : taken rows b
          · obtain ⟨q, eq⟩ := id tk
            obtain ⟨t, fs⟩ := q
            obtain ⟨p, us, e1, e2, e3, e4'⟩ := a0.r.so b t fs eq
            rw [hx] at e1
            cases e1
            have atb := atx
            have f6 : fs.length ≤ 6 := (a0.ok _ (List.mem_of_getElem? eq)).1
            have u6 := e4'.1
            have vs0 : ¬ valV kvs (Sum.inl ad) = none := fun z => (a0.ks.nil0 ad).mp z ⟨b, eb, tk⟩
            have tg : thg (wordsOf rows) ad = some (t, (fs.length : Int)) := by rw [eb]; exact thg_words a0.ok eq
            have sg : seg (wordsOf rows) ad (fs.length : Int) = fs := by rw [eb]; exact seg_words a0.ok eq
            refine ⟨_, rfl, cell, 3, rfl, rfl, (by show (0 : Int) < 3; decide), 1, _, rfl, rfl, ?_⟩
            refine ⟨_, rfl, cell, 3, rfl, rfl, ⟨by decide, by decide⟩, _, 9, rfl, rfl, (by show (0 : Int) < 9; decide), _, 1, rfl, rfl, ?_⟩
            refine ⟨_, rfl, 10, 60, rfl, rfl, ⟨by decide, by decide, by decide⟩, cell, _, rfl, rfl, p60, by show 2 ≤ sizeLine; decide, fun t1 ht1 => ⟨_, rfl, cell, 5, rfl, rfl, (by show (0 : Int) < 5; decide), 7, _, rfl, rfl, .inl ⟨by decide, by decide⟩, by show 2 ≤ sizeLine; decide, fun t2 ht2 => ⟨by show 3 ≤ sizeLine; decide, fun lw hlw => ?_⟩⟩⟩
            obtain ⟨v, wd, hat, hnh, s4, hv⟩ := words H1 t1 t2 lw ht1 ht2 hlw
            refine ⟨_, rfl, cell, 27, rfl, rfl, ⟨by decide, by decide⟩, _, 3, rfl, rfl, (by show (0 : Int) < 3; decide), lw, _, _, v, rfl, rfl, SqL.of upd_same, hat, ?_⟩
            obtain ⟨H4, e4⟩ : ∃ H4, upd (upd (upd H1 t1 (.tup [.str "number", .int (cell % 10 ^ (60 : Int).toNat)])) t2 (.tup [.str "at", .int (7 * (cell % 5))])) lw (.lst [.non, .ref t1, .ref t2]) = H4 := ⟨_, rfl⟩
            rw [e4] at s4 hv ⊢
            have a4 := a1.same s4
            have st4 := s1.trans s4
            have nRc := a0.Rc
            have ndR : R ≠ d := ne_of a0.r.at_ a0.x.t (by intro z; cases z)
            have nvR := a0.r.ne b tk
            have nvc := a0.vc b tk
            have nvd : vl b ≠ d := ne_of e3 a0.x.t (by intro z; cases z)
            have npc : p ≠ c := ne_of e2 a0.x.w.mem.2 (by intro z; cases z)
            have npd : p ≠ d := ne_of e2 a0.x.t (by intro z; cases z)
            refine ⟨_, rfl, _, rfl, _, rfl, _, rfl, _, rfl, ?_⟩
            rcases ways with ew | ew | ew
            · -- thing
              refine .inr (.inl ⟨_, B, dB, m, c, dx, xs, _, d, kvs, .int (cell / 3 % 9 - 1), v, ad, (by show [V.ref B, V.int (1 + cell % 3), V.int ad, V.int (cell / 3 % 9 - 1), v] = [V.ref B, V.int 1, V.int ad, V.int (cell / 3 % 9 - 1), v]; rw [ew]), a4.x, had, ?_⟩)
              rw [if_neg vs0]
              refine ⟨t, (fs.length : Int), tg, fun q r zs H5 sm hr0 hq hzr hrel => ?_⟩
              rw [sg] at hrel
              have st5 := st4.trans sm
              refine ⟨_, rfl, true, rfl, iteF ?_⟩
              refine ⟨_, rfl, _, rfl, ad, 7, rfl, rfl, ⟨by decide, by decide⟩, R, rs, _, .ref p, rfl, rfl, SqL.of (a4.same sm).r.at_, atb, ?_⟩
              refine ⟨_, rfl, rfl, _, rfl, ite2 (fun _ => ?_) (fun h => absurd (by show decide (V.int (1 + cell % 3) = V.int 1) = true; rw [ew]; rfl) h)⟩
              refine ⟨_, rfl, _, rfl, p, _, 0, .int t, rfl, rfl, SqT.of (st5 _ _ e2), rfl, _, rfl, p, _, 1, .ref (vl b), rfl, rfl, SqT.of (st5 _ _ e2), rfl, by show 2 ≤ sizeLine; decide, fun tt htt => ?_⟩
              have s6 := Same.upd (o := .tup [.int t, .ref (vl b)]) htt
              have st6 := st5.trans s6
              refine ⟨q, tt, _, _, rfl, rfl, SqT.of (s6 _ _ hq), SqT.of upd_same, rfl, (fun j h1 h2 => ?_), _, rfl, iteT ?_⟩
              · match j, h1 with
                | 0, _ => exact .flat rfl
                | 1, _ => exact Deep.lst (SqL.of (s6 _ _ hzr)) (SqL.of (st6 _ _ e3)) (by rw [hrel.1, u6]) (deep_words (hrel.keep (Tups.of s6)) (e4'.keep (Tups.of st6)))
              refine ⟨_, rfl, q, _, 1, .ref r, rfl, rfl, SqT.of (s6 _ _ hq), rfl, .ref r, .ty "list", .type "list", true, rfl, .of (.lst (s6 _ _ hzr)), ⟨_, rfl⟩, rfl, ?_⟩
              exact k _ _ _ _ _ _ (a0.same st6) rfl (Fr.of st6) (fun i hi => .inl ⟨hi, rfl⟩)
            · -- put
              refine .inr (.inr (.inl ⟨_, B, dB, m, c, dx, xs, _, d, kvs, v, ad, cell / 3 % 9 - 1, (by show [V.ref B, V.int (1 + cell % 3), V.int ad, V.int (cell / 3 % 9 - 1), v] = [V.ref B, V.int 2, V.int ad, V.int (cell / 3 % 9 - 1), v]; rw [ew]), a4.x, had, log7 (by omega) (by omega), ?_⟩))
              rw [if_neg vs0]
              refine ⟨t, (fs.length : Int), tg, ?_⟩
              have no1 : ¬ decide (V.int (1 + cell % 3) = V.int 1) = true := fun h => absurd (V.int.inj (of_decide_eq_true h)) (by omega)
              have is2 : decide (V.int (1 + cell % 3) = V.int 2) = true := by rw [ew]; rfl
              obtain ⟨kk, ek⟩ : ∃ kk : Int, cell / 3 % 9 - 1 = kk := ⟨_, rfl⟩
              rw [ek]
              by_cases gk : 0 ≤ kk ∧ kk < (fs.length : Int)
              · rw [if_pos gk]
                intro H5 sm
                have st5 := st4.trans sm
                obtain ⟨j, ej⟩ : ∃ j : Nat, kk = (j : Int) := ⟨kk.toNat, by omega⟩
                have hj : j < fs.length := by omega
                have a5 := a4.same sm
                obtain ⟨H6, e6⟩ : ∃ H6, upd H5 c (.lst (xs.set (ad + 1 + kk).toNat v)) = H6 := ⟨_, rfl⟩
                rw [e6]
                have b6 : ∀ b' u, b' ≠ c → H5 b' = some u → H6 b' = some u := fun b' u n q => by rw [← e6, upd_ne n]; exact q
                have R6 := b6 R _ nRc a5.r.at_
                have p6 := b6 p _ npc (st5 _ _ e2)
                have v6 := b6 (vl b) _ nvc (st5 _ _ e3)
                refine ⟨_, rfl, true, rfl, iteF ?_⟩
                refine ⟨_, rfl, _, rfl, ad, 7, rfl, rfl, ⟨by decide, by decide⟩, R, rs, _, .ref p, rfl, rfl, SqL.of R6, atb, ?_⟩
                refine ⟨_, rfl, rfl, _, rfl, ite2 (fun h => absurd h no1) (fun _ => ?_)⟩
                refine ⟨_, rfl, rfl, _, rfl, ite2 (fun _ => ?_) (fun h => absurd is2 h)⟩
                refine ⟨_, rfl, kk, 0, (by rw [← ek]; try rfl), rfl, _, rfl, ite2 (fun h => ?_) (fun _ => ?_)⟩
                · simp only [decide_eq_true_eq] at h
                  omega
                refine ⟨_, rfl, _, rfl, p, _, 1, .ref (vl b), rfl, rfl, SqT.of p6, rfl, vl b, us, rfl, .inl (SqL.of v6), kk, (us.length : Int), (by rw [← ek]; try rfl), rfl, _, rfl, ite2 (fun h => ?_) (fun _ => ?_)⟩
                · simp only [decide_eq_true_eq] at h
                  omega
                refine ⟨_, rfl, rfl, _, rfl, ite2 (fun _ => ?_) (fun h => absurd is2 h)⟩
                refine ⟨_, rfl, _, rfl, p, _, 1, .ref (vl b), rfl, rfl, SqT.of p6, rfl, _, rfl, vl b, us, kk, j, rfl, (by rw [← ek]; try rfl), v6, ?_, ?_⟩
                · unfold ixN
                  rw [if_pos gk.1, if_pos (by omega), ej]
                  simp
                have tp6 : Tups H5 H6 := by rw [← e6]; exact Tups.set a5.x.w.mem.2
                have wv6 : WV H6 v wd := (hv.keep (Tups.of sm)).keep tp6
                have ab6 : Ab CB CM H6 B dB m c dx (xs.set (ad + 1 + kk).toNat v) d kvs (rows.set b (some (t, fs.set j wd))) := by
                  rw [← e6, eb, ej]
                  exact a4.ab.put eq hj hnh sm (hv.keep (Tups.of sm))
                have ra6 : RA H6 R rs rows vl := by
                  refine a5.r.but a5.x.w.mem.2 a5.x.t (fun b' u n1 n2 q => b6 b' u n1 q) nRc a0.vc
                have ra7 := ra6.fld (k := j) eq v6 (e4'.keep ((Tups.of st5).trans tp6)) wv6
                have ab7 := ab6.upd (us := us.set j v) v6 nvc
                have hi := (List.getElem?_eq_some_iff.mp eq).1
                have tk7 : ∀ i, taken (rows.set b (some (t, fs.set j wd))) i → taken rows i := fun i h => by
                  have h := (taken_set hi i).mp h
                  split at h
                  · rename_i q
                    rw [q]
                    exact tk
                  · exact h
                refine ⟨_, rfl, k _ _ _ _ _ _ (ab7.al ra7 nRc fun i hi' => a0.vc i (tk7 i hi')) (by rw [List.length_set]) (fun b' u n1 n2 n3 n4 q => ?_) (fun i hi' => .inl ⟨tk7 i hi', rfl⟩)⟩
                rw [upd_ne (n4 b tk)]
                exact b6 b' u n1 (st5 _ _ q)
              · rw [if_neg gk]
                intro H5 sm
                have st5 := st4.trans sm
                have a5 := a4.same sm
                refine ⟨_, rfl, true, rfl, iteF ?_⟩
                refine ⟨_, rfl, _, rfl, ad, 7, rfl, rfl, ⟨by decide, by decide⟩, R, rs, _, .ref p, rfl, rfl, SqL.of a5.r.at_, atb, ?_⟩
                refine ⟨_, rfl, rfl, _, rfl, ite2 (fun h => absurd h no1) (fun _ => ?_)⟩
                refine ⟨_, rfl, rfl, _, rfl, ite2 (fun _ => ?_) (fun h => absurd is2 h)⟩
                refine ⟨_, rfl, kk, 0, (by rw [← ek]; try rfl), rfl, _, rfl, ite2 (fun h => ?_) (fun h => ?_)⟩
                · exact iteT ⟨_, rfl, rfl, k _ _ _ _ _ _ (a0.same st5) rfl (Fr.of st5) (fun i hi => .inl ⟨hi, rfl⟩)⟩
                · simp only [decide_eq_true_eq] at h
                  refine ⟨_, rfl, _, rfl, p, _, 1, .ref (vl b), rfl, rfl, SqT.of (st5 _ _ e2), rfl, vl b, us, rfl, .inl (SqL.of (st5 _ _ e3)), kk, (us.length : Int), (by rw [← ek]; try rfl), rfl, _, rfl, ite2 (fun _ => ?_) (fun h2 => ?_)⟩
                  · exact ⟨_, rfl, rfl, k _ _ _ _ _ _ (a0.same st5) rfl (Fr.of st5) (fun i hi => .inl ⟨hi, rfl⟩)⟩
                  · simp only [decide_eq_true_eq] at h2
                    omega
            · -- clear
              refine .inr (.inr (.inr ⟨_, B, dB, m, c, dx, xs, _, d, kvs, .int (cell / 3 % 9 - 1), v, ad, (by show [V.ref B, V.int (1 + cell % 3), V.int ad, V.int (cell / 3 % 9 - 1), v] = [V.ref B, V.int 3, V.int ad, V.int (cell / 3 % 9 - 1), v]; rw [ew]), a4.x, had, ?_⟩))
              rw [if_neg vs0]
              refine ⟨by omega, by omega, fun xs' H5 X5 bt => ?_⟩
              have no1 : ¬ decide (V.int (1 + cell % 3) = V.int 1) = true := fun h => absurd (V.int.inj (of_decide_eq_true h)) (by omega)
              have no2 : ¬ decide (V.int (1 + cell % 3) = V.int 2) = true := fun h => absurd (V.int.inj (of_decide_eq_true h)) (by omega)
              have ra5 := a4.r.but a4.x.w.mem.2 a4.x.t bt nRc a0.vc
              rw [eb] at X5
              have ab5 := a4.ab.clear hb X5
              refine ⟨_, rfl, true, rfl, iteF ?_⟩
              refine ⟨_, rfl, _, rfl, ad, 7, rfl, rfl, ⟨by decide, by decide⟩, R, rs, _, .ref p, rfl, rfl, SqL.of ra5.at_, atb, ?_⟩
              refine ⟨_, rfl, rfl, _, rfl, ite2 (fun h => absurd h no1) (fun _ => ?_)⟩
              refine ⟨_, rfl, rfl, _, rfl, ite2 (fun h => absurd h no2) (fun _ => iteF ?_)⟩
              refine ⟨_, rfl, rfl, _, rfl, ite2 (fun h => absurd h no2) (fun _ => ?_)⟩
              refine ⟨_, rfl, _, rfl, ad, 7, rfl, rfl, ⟨by decide, by decide⟩, R, rs, ad / 7, b, rfl, rfl, ra5.at_, ?_, ?_⟩
              · unfold ixN
                rw [if_pos (by omega), if_pos (by omega), show (ad / 7).toNat = b by omega]
              have raE := ra5.drop hb
              have abE := ab5.upd (us := rs.set b .non) ra5.at_ nRc
              have tkE : ∀ i, taken (rows.set b none) i → taken rows i := fun i h => by
                have h := (taken_set hb i).mp h
                split at h
                · cases h
                · exact h
              refine ⟨_, rfl, k _ _ _ _ _ _ (abE.al raE nRc fun i hi => a0.vc i (tkE i hi)) (by rw [List.length_set]) (fun b' u n1 n2 n3 n4 q => ?_) (fun i hi => .inl ⟨tkE i hi, rfl⟩)⟩
              rw [upd_ne n3]
              exact bt b' u n1 n2 (st4 _ _ q)
          · have ex := hxn.mpr tk
            subst ex
            have nst : ¬ ∃ b : Nat, ad = 7 * (b : Int) ∧ taken rows b := fun ⟨b', e', z⟩ => tk (by rw [show b = b' by omega]; exact z)
            refine ⟨_, rfl, cell, 3, rfl, rfl, (by show (0 : Int) < 3; decide), 1, _, rfl, rfl, ?_⟩
            refine ⟨_, rfl, cell, 3, rfl, rfl, ⟨by decide, by decide⟩, _, 9, rfl, rfl, (by show (0 : Int) < 9; decide), _, 1, rfl, rfl, ?_⟩
            refine ⟨_, rfl, 10, 60, rfl, rfl, ⟨by decide, by decide, by decide⟩, cell, _, rfl, rfl, p60, by show 2 ≤ sizeLine; decide, fun t1 ht1 => ⟨_, rfl, cell, 5, rfl, rfl, (by show (0 : Int) < 5; decide), 7, _, rfl, rfl, .inl ⟨by decide, by decide⟩, by show 2 ≤ sizeLine; decide, fun t2 ht2 => ⟨by show 3 ≤ sizeLine; decide, fun lw hlw => ?_⟩⟩⟩
            obtain ⟨v, wd, hat, hnh, s4, hv⟩ := words H1 t1 t2 lw ht1 ht2 hlw
            refine ⟨_, rfl, cell, 27, rfl, rfl, ⟨by decide, by decide⟩, _, 3, rfl, rfl, (by show (0 : Int) < 3; decide), lw, _, _, v, rfl, rfl, SqL.of upd_same, hat, ?_⟩
            obtain ⟨H4, e4⟩ : ∃ H4, upd (upd (upd H1 t1 (.tup [.str "number", .int (cell % 10 ^ (60 : Int).toNat)])) t2 (.tup [.str "at", .int (7 * (cell % 5))])) lw (.lst [.non, .ref t1, .ref t2]) = H4 := ⟨_, rfl⟩
            rw [e4] at s4 hv ⊢
            have a4 := a1.same s4
            have st4 := s1.trans s4
            have vn : valV kvs (Sum.inl ad) = none := (a0.ks.nil0 ad).mpr nst
            refine ⟨_, rfl, _, rfl, _, rfl, _, rfl, _, rfl, ?_⟩
            have out : ∀ H', Same H4 H' → _ := fun H' sm => k _ _ _ _ _ _ (a4.same sm) rfl (Fr.of (st4.trans sm)) (fun i hi => .inl ⟨hi, rfl⟩)
            rcases ways with ew | ew | ew
            · refine .inr (.inl ⟨_, B, dB, m, c, dx, xs, _, d, kvs, .int (cell / 3 % 9 - 1), v, ad, (by show [V.ref B, V.int (1 + cell % 3), V.int ad, V.int (cell / 3 % 9 - 1), v] = [V.ref B, V.int 1, V.int ad, V.int (cell / 3 % 9 - 1), v]; rw [ew]), a4.x, had, ?_⟩)
              rw [if_pos vn]
              exact fun H' sm => ⟨_, rfl, false, rfl, iteT ⟨_, rfl, rfl, out H' sm⟩⟩
            · refine .inr (.inr (.inl ⟨_, B, dB, m, c, dx, xs, _, d, kvs, v, ad, cell / 3 % 9 - 1, (by show [V.ref B, V.int (1 + cell % 3), V.int ad, V.int (cell / 3 % 9 - 1), v] = [V.ref B, V.int 2, V.int ad, V.int (cell / 3 % 9 - 1), v]; rw [ew]), a4.x, had, log7 (by omega) (by omega), ?_⟩))
              rw [if_pos vn]
              exact fun H' sm => ⟨_, rfl, false, rfl, iteT ⟨_, rfl, rfl, out H' sm⟩⟩
            · refine .inr (.inr (.inr ⟨_, B, dB, m, c, dx, xs, _, d, kvs, .int (cell / 3 % 9 - 1), v, ad, (by show [V.ref B, V.int (1 + cell % 3), V.int ad, V.int (cell / 3 % 9 - 1), v] = [V.ref B, V.int 3, V.int ad, V.int (cell / 3 % 9 - 1), v]; rw [ew]), a4.x, had, ?_⟩))
              rw [if_pos vn]
              exact fun H' sm => ⟨_, rfl, false, rfl, iteT ⟨_, rfl, rfl, out H' sm⟩⟩
        · simp only [decide_eq_true_eq] at g3
          have nst : ¬ ∃ b : Nat, ad = 7 * (b : Int) ∧ taken rows b := fun ⟨b', e', q, z⟩ => by
            have := (List.getElem?_eq_some_iff.mp z).1
            omega
          refine ⟨_, rfl, cell, 3, rfl, rfl, (by show (0 : Int) < 3; decide), 1, _, rfl, rfl, ?_⟩
          refine ⟨_, rfl, cell, 3, rfl, rfl, ⟨by decide, by decide⟩, _, 9, rfl, rfl, (by show (0 : Int) < 9; decide), _, 1, rfl, rfl, ?_⟩
          refine ⟨_, rfl, 10, 60, rfl, rfl, ⟨by decide, by decide, by decide⟩, cell, _, rfl, rfl, p60, by show 2 ≤ sizeLine; decide, fun t1 ht1 => ⟨_, rfl, cell, 5, rfl, rfl, (by show (0 : Int) < 5; decide), 7, _, rfl, rfl, .inl ⟨by decide, by decide⟩, by show 2 ≤ sizeLine; decide, fun t2 ht2 => ⟨by show 3 ≤ sizeLine; decide, fun lw hlw => ?_⟩⟩⟩
          obtain ⟨v, wd, hat, hnh, s4, hv⟩ := words H1 t1 t2 lw ht1 ht2 hlw
          refine ⟨_, rfl, cell, 27, rfl, rfl, ⟨by decide, by decide⟩, _, 3, rfl, rfl, (by show (0 : Int) < 3; decide), lw, _, _, v, rfl, rfl, SqL.of upd_same, hat, ?_⟩
          obtain ⟨H4, e4⟩ : ∃ H4, upd (upd (upd H1 t1 (.tup [.str "number", .int (cell % 10 ^ (60 : Int).toNat)])) t2 (.tup [.str "at", .int (7 * (cell % 5))])) lw (.lst [.non, .ref t1, .ref t2]) = H4 := ⟨_, rfl⟩
          rw [e4] at s4 hv ⊢
          have a4 := a1.same s4
          have st4 := s1.trans s4
          have vn : valV kvs (Sum.inl ad) = none := (a0.ks.nil0 ad).mpr nst
          refine ⟨_, rfl, _, rfl, _, rfl, _, rfl, _, rfl, ?_⟩
          have out : ∀ H', Same H4 H' → _ := fun H' sm => k _ _ _ _ _ _ (a4.same sm) rfl (Fr.of (st4.trans sm)) (fun i hi => .inl ⟨hi, rfl⟩)
          rcases ways with ew | ew | ew
          · refine .inr (.inl ⟨_, B, dB, m, c, dx, xs, _, d, kvs, .int (cell / 3 % 9 - 1), v, ad, (by show [V.ref B, V.int (1 + cell % 3), V.int ad, V.int (cell / 3 % 9 - 1), v] = [V.ref B, V.int 1, V.int ad, V.int (cell / 3 % 9 - 1), v]; rw [ew]), a4.x, had, ?_⟩)
            rw [if_pos vn]
            exact fun H' sm => ⟨_, rfl, false, rfl, iteT ⟨_, rfl, rfl, out H' sm⟩⟩
          · refine .inr (.inr (.inl ⟨_, B, dB, m, c, dx, xs, _, d, kvs, v, ad, cell / 3 % 9 - 1, (by show [V.ref B, V.int (1 + cell % 3), V.int ad, V.int (cell / 3 % 9 - 1), v] = [V.ref B, V.int 2, V.int ad, V.int (cell / 3 % 9 - 1), v]; rw [ew]), a4.x, had, log7 (by omega) (by omega), ?_⟩))
            rw [if_pos vn]
            exact fun H' sm => ⟨_, rfl, false, rfl, iteT ⟨_, rfl, rfl, out H' sm⟩⟩
          · refine .inr (.inr (.inr ⟨_, B, dB, m, c, dx, xs, _, d, kvs, .int (cell / 3 % 9 - 1), v, ad, (by show [V.ref B, V.int (1 + cell % 3), V.int ad, V.int (cell / 3 % 9 - 1), v] = [V.ref B, V.int 3, V.int ad, V.int (cell / 3 % 9 - 1), v]; rw [ew]), a4.x, had, ?_⟩))
            rw [if_pos vn]
            exact fun H' sm => ⟨_, rfl, false, rfl, iteT ⟨_, rfl, rfl, out H' sm⟩⟩
      · have nst : ¬ ∃ b : Nat, ad = 7 * (b : Int) ∧ taken rows b := fun ⟨b', e', z⟩ => g2 (by show decide (V.int (ad % 7) = V.int 0) = true; rw [show ad % 7 = 0 by omega]; rfl)
        refine ⟨_, rfl, cell, 3, rfl, rfl, (by show (0 : Int) < 3; decide), 1, _, rfl, rfl, ?_⟩
        refine ⟨_, rfl, cell, 3, rfl, rfl, ⟨by decide, by decide⟩, _, 9, rfl, rfl, (by show (0 : Int) < 9; decide), _, 1, rfl, rfl, ?_⟩
        refine ⟨_, rfl, 10, 60, rfl, rfl, ⟨by decide, by decide, by decide⟩, cell, _, rfl, rfl, p60, by show 2 ≤ sizeLine; decide, fun t1 ht1 => ⟨_, rfl, cell, 5, rfl, rfl, (by show (0 : Int) < 5; decide), 7, _, rfl, rfl, .inl ⟨by decide, by decide⟩, by show 2 ≤ sizeLine; decide, fun t2 ht2 => ⟨by show 3 ≤ sizeLine; decide, fun lw hlw => ?_⟩⟩⟩
        obtain ⟨v, wd, hat, hnh, s4, hv⟩ := words H1 t1 t2 lw ht1 ht2 hlw
        refine ⟨_, rfl, cell, 27, rfl, rfl, ⟨by decide, by decide⟩, _, 3, rfl, rfl, (by show (0 : Int) < 3; decide), lw, _, _, v, rfl, rfl, SqL.of upd_same, hat, ?_⟩
        obtain ⟨H4, e4⟩ : ∃ H4, upd (upd (upd H1 t1 (.tup [.str "number", .int (cell % 10 ^ (60 : Int).toNat)])) t2 (.tup [.str "at", .int (7 * (cell % 5))])) lw (.lst [.non, .ref t1, .ref t2]) = H4 := ⟨_, rfl⟩
        rw [e4] at s4 hv ⊢
        have a4 := a1.same s4
        have st4 := s1.trans s4
        have vn : valV kvs (Sum.inl ad) = none := (a0.ks.nil0 ad).mpr nst
        refine ⟨_, rfl, _, rfl, _, rfl, _, rfl, _, rfl, ?_⟩
        have out : ∀ H', Same H4 H' → _ := fun H' sm => k _ _ _ _ _ _ (a4.same sm) rfl (Fr.of (st4.trans sm)) (fun i hi => .inl ⟨hi, rfl⟩)
        rcases ways with ew | ew | ew
        · refine .inr (.inl ⟨_, B, dB, m, c, dx, xs, _, d, kvs, .int (cell / 3 % 9 - 1), v, ad, (by show [V.ref B, V.int (1 + cell % 3), V.int ad, V.int (cell / 3 % 9 - 1), v] = [V.ref B, V.int 1, V.int ad, V.int (cell / 3 % 9 - 1), v]; rw [ew]), a4.x, had, ?_⟩)
          rw [if_pos vn]
          exact fun H' sm => ⟨_, rfl, false, rfl, iteT ⟨_, rfl, rfl, out H' sm⟩⟩
        · refine .inr (.inr (.inl ⟨_, B, dB, m, c, dx, xs, _, d, kvs, v, ad, cell / 3 % 9 - 1, (by show [V.ref B, V.int (1 + cell % 3), V.int ad, V.int (cell / 3 % 9 - 1), v] = [V.ref B, V.int 2, V.int ad, V.int (cell / 3 % 9 - 1), v]; rw [ew]), a4.x, had, log7 (by omega) (by omega), ?_⟩))
          rw [if_pos vn]
          exact fun H' sm => ⟨_, rfl, false, rfl, iteT ⟨_, rfl, rfl, out H' sm⟩⟩
        · refine .inr (.inr (.inr ⟨_, B, dB, m, c, dx, xs, _, d, kvs, .int (cell / 3 % 9 - 1), v, ad, (by show [V.ref B, V.int (1 + cell % 3), V.int ad, V.int (cell / 3 % 9 - 1), v] = [V.ref B, V.int 3, V.int ad, V.int (cell / 3 % 9 - 1), v]; rw [ew]), a4.x, had, ?_⟩))
          rw [if_pos vn]
          exact fun H' sm => ⟨_, rfl, false, rfl, iteT ⟨_, rfl, rfl, out H' sm⟩⟩
    · simp only [decide_eq_true_eq] at g1
      have nst : ¬ ∃ b : Nat, ad = 7 * (b : Int) ∧ taken rows b := fun ⟨b', e', z⟩ => by omega
      refine ⟨_, rfl, cell, 3, rfl, rfl, (by show (0 : Int) < 3; decide), 1, _, rfl, rfl, ?_⟩
      refine ⟨_, rfl, cell, 3, rfl, rfl, ⟨by decide, by decide⟩, _, 9, rfl, rfl, (by show (0 : Int) < 9; decide), _, 1, rfl, rfl, ?_⟩
      refine ⟨_, rfl, 10, 60, rfl, rfl, ⟨by decide, by decide, by decide⟩, cell, _, rfl, rfl, p60, by show 2 ≤ sizeLine; decide, fun t1 ht1 => ⟨_, rfl, cell, 5, rfl, rfl, (by show (0 : Int) < 5; decide), 7, _, rfl, rfl, .inl ⟨by decide, by decide⟩, by show 2 ≤ sizeLine; decide, fun t2 ht2 => ⟨by show 3 ≤ sizeLine; decide, fun lw hlw => ?_⟩⟩⟩
      obtain ⟨v, wd, hat, hnh, s4, hv⟩ := words H1 t1 t2 lw ht1 ht2 hlw
      refine ⟨_, rfl, cell, 27, rfl, rfl, ⟨by decide, by decide⟩, _, 3, rfl, rfl, (by show (0 : Int) < 3; decide), lw, _, _, v, rfl, rfl, SqL.of upd_same, hat, ?_⟩
      obtain ⟨H4, e4⟩ : ∃ H4, upd (upd (upd H1 t1 (.tup [.str "number", .int (cell % 10 ^ (60 : Int).toNat)])) t2 (.tup [.str "at", .int (7 * (cell % 5))])) lw (.lst [.non, .ref t1, .ref t2]) = H4 := ⟨_, rfl⟩
      rw [e4] at s4 hv ⊢
      have a4 := a1.same s4
      have st4 := s1.trans s4
      have vn : valV kvs (Sum.inl ad) = none := (a0.ks.nil0 ad).mpr nst
      refine ⟨_, rfl, _, rfl, _, rfl, _, rfl, _, rfl, ?_⟩
      have out : ∀ H', Same H4 H' → _ := fun H' sm => k _ _ _ _ _ _ (a4.same sm) rfl (Fr.of (st4.trans sm)) (fun i hi => .inl ⟨hi, rfl⟩)
      rcases ways with ew | ew | ew
      · refine .inr (.inl ⟨_, B, dB, m, c, dx, xs, _, d, kvs, .int (cell / 3 % 9 - 1), v, ad, (by show [V.ref B, V.int (1 + cell % 3), V.int ad, V.int (cell / 3 % 9 - 1), v] = [V.ref B, V.int 1, V.int ad, V.int (cell / 3 % 9 - 1), v]; rw [ew]), a4.x, had, ?_⟩)
        rw [if_pos vn]
        exact fun H' sm => ⟨_, rfl, false, rfl, iteT ⟨_, rfl, rfl, out H' sm⟩⟩
      · refine .inr (.inr (.inl ⟨_, B, dB, m, c, dx, xs, _, d, kvs, v, ad, cell / 3 % 9 - 1, (by show [V.ref B, V.int (1 + cell % 3), V.int ad, V.int (cell / 3 % 9 - 1), v] = [V.ref B, V.int 2, V.int ad, V.int (cell / 3 % 9 - 1), v]; rw [ew]), a4.x, had, log7 (by omega) (by omega), ?_⟩))
        rw [if_pos vn]
        exact fun H' sm => ⟨_, rfl, false, rfl, iteT ⟨_, rfl, rfl, out H' sm⟩⟩
      · refine .inr (.inr (.inr ⟨_, B, dB, m, c, dx, xs, _, d, kvs, .int (cell / 3 % 9 - 1), v, ad, (by show [V.ref B, V.int (1 + cell % 3), V.int ad, V.int (cell / 3 % 9 - 1), v] = [V.ref B, V.int 3, V.int ad, V.int (cell / 3 % 9 - 1), v]; rw [ew]), a4.x, had, ?_⟩))
        rw [if_pos vn]
        exact fun H' sm => ⟨_, rfl, false, rfl, iteT ⟨_, rfl, rfl, out H' sm⟩⟩
end
end K61
end
section
set_option Elab.async false
set_option linter.all false
set_option maxRecDepth 100000
set_option maxHeartbeats 4000000
set_option exponentiation.threshold 4000
namespace K61
open PySem L2 LX
/-- other boxes, while the law's deeds are done -/
theorem Ab.fr {CB CM : Addr} {H H' : Hp} {B dB m c dx : Addr} {xs : List V} {d : Addr} {kvs : List (Key × V)} {R : Addr} {rs : List V} {rows : List Row} {vl : Nat → Addr} {oB odB om oc odx : Addr} {oxs : List V} {od : Addr} {okvs : List (Key × V)} {orows : List Row}
    (o : Ab CB CM H oB odB om oc odx oxs od okvs orows) (a : Al CB CM H B dB m c dx xs d kvs R rs rows vl) (fr : Fr c d R rows vl H H') (n1 : oc ≠ c) (n2 : oc ≠ R) (n3 : ∀ i, taken rows i → vl i ≠ oc) (n4 : od ≠ d) : Ab CB CM H' oB odB om oc odx oxs od okvs orows := by
  have vlL : ∀ i, taken rows i → ∃ us, H (vl i) = some (.lst us) := fun i ⟨q, e⟩ => by
    obtain ⟨p, us, _, _, h3, _⟩ := a.r.so i q.1 q.2 e
    exact ⟨us, h3⟩
  have keep : ∀ {b : Addr} {u : HO}, H b = some u → (∀ us, u ≠ .lst us) → (∀ k, u ≠ .dK k) → H' b = some u := fun {b u} q h1 h2 =>
    fr b u (ne_of q a.x.w.mem.2 (h1 _)) (ne_of q a.x.t (h2 _)) (ne_of q a.r.at_ (h1 _)) (fun i hi => by
      obtain ⟨us, h⟩ := vlL i hi
      exact ne_of q h (h1 _)) q
  have X := o.x
  have tp : Tups H H' := fun t us q => keep q (fun _ z => nomatch z) (fun _ z => nomatch z)
  refine ⟨⟨keep X.b (fun _ z => nomatch z) (fun _ z => nomatch z), ⟨⟨keep X.w.mem.1 (fun _ z => nomatch z) (fun _ z => nomatch z), ?_⟩, X.w.rel.keep tp, X.w.good, X.w.big⟩, ?_⟩, o.ok, o.ks, o.n⟩
  · exact fr oc _ n1 (ne_of X.w.mem.2 a.x.t (by intro z; cases z)) n2 (fun i hi => Ne.symm (n3 i hi)) X.w.mem.2
  · exact fr od _ (ne_of X.t a.x.w.mem.2 (by intro z; cases z)) n4 (ne_of X.t a.r.at_ (by intro z; cases z)) (fun i hi => by
      obtain ⟨us, h⟩ := vlL i hi
      exact ne_of X.t h (by intro z; cases z)) X.t
structure LI (CB CM : Addr) (H0 H : Hp) (B dB m c dx : Addr) (xs : List V) (d : Addr) (kvs : List (Key × V)) (R : Addr) (rs : List V) (rows : List Row) (vl : Nat → Addr) (oB odB om oc odx : Addr) (oxs : List V) (od : Addr) (okvs : List (Key × V)) (orows : List Row) : Prop where
  a : Al CB CM H B dB m c dx xs d kvs R rs rows vl
  o : Ab CB CM H oB odB om oc odx oxs od okvs orows
  sm : Same H0 H
  n1 : oc ≠ c
  n2 : oc ≠ R
  n3 : ∀ i, taken rows i → vl i ≠ oc
  n4 : od ≠ d
  fc : H0 c = none
  fd : H0 d = none
  fR : H0 R = none
  fv : ∀ i, taken rows i → H0 (vl i) = none
  fo : H0 oc = none
  fe : H0 od = none
section
variable {CB CM : Addr} {H0 H H' : Hp} {B dB m c dx : Addr} {xs : List V} {d : Addr} {kvs : List (Key × V)} {R : Addr} {rs : List V} {rows : List Row} {vl : Nat → Addr} {oB odB om oc odx : Addr} {oxs : List V} {od : Addr} {okvs : List (Key × V)} {orows : List Row}
theorem LI.same (J : LI CB CM H0 H B dB m c dx xs d kvs R rs rows vl oB odB om oc odx oxs od okvs orows) (s : Same H H') : LI CB CM H0 H' B dB m c dx xs d kvs R rs rows vl oB odB om oc odx oxs od okvs orows :=
  ⟨J.a.same s, J.o.same s, J.sm.trans s, J.n1, J.n2, J.n3, J.n4, J.fc, J.fd, J.fR, J.fv, J.fo, J.fe⟩
theorem LI.other {oxs' : List V} {okvs' : List (Key × V)} {orows' : List Row} (J : LI CB CM H0 H B dB m c dx xs d kvs R rs rows vl oB odB om oc odx oxs od okvs orows) (o : Ab CB CM H' oB odB om oc odx oxs' od okvs' orows') (bt : But2 oc od H H') : LI CB CM H0 H' B dB m c dx xs d kvs R rs rows vl oB odB om oc odx oxs' od okvs' orows' :=
  ⟨(J.a.ab.but J.o.x.w.mem.2 J.o.x.t bt (Ne.symm J.n1) (Ne.symm J.n4)).al (J.a.r.but J.o.x.w.mem.2 J.o.x.t bt (Ne.symm J.n2) J.n3) J.a.Rc J.a.vc, o, fun b u q => bt b u (ne_of_none q J.fo) (ne_of_none q J.fe) (J.sm b u q), J.n1, J.n2, J.n3, J.n4, J.fc, J.fd, J.fR, J.fv, J.fo, J.fe⟩
theorem LI.deed {xs' : List V} {kvs' : List (Key × V)} {rs' : List V} {rows' : List Row} {vl' : Nat → Addr} (J : LI CB CM H0 H B dB m c dx xs d kvs R rs rows vl oB odB om oc odx oxs od okvs orows) (a : Al CB CM H' B dB m c dx xs' d kvs' R rs' rows' vl') (fr : Fr c d R rows vl H H')
    (hv : ∀ i, taken rows' i → (taken rows i ∧ vl' i = vl i) ∨ H (vl' i) = none) : LI CB CM H0 H' B dB m c dx xs' d kvs' R rs' rows' vl' oB odB om oc odx oxs od okvs orows := by
  refine ⟨a, J.o.fr J.a fr J.n1 J.n2 J.n3 J.n4, fun b u q => fr b u (ne_of_none q J.fc) (ne_of_none q J.fd) (ne_of_none q J.fR) (fun i hi => ne_of_none q (J.fv i hi)) (J.sm b u q), J.n1, J.n2, fun i hi => ?_, J.n4, J.fc, J.fd, J.fR, fun i hi => ?_, J.fo, J.fe⟩
  · rcases hv i hi with ⟨h1, h2⟩ | h
    · rw [h2]; exact J.n3 i h1
    · exact Ne.symm (ne_of_none J.o.x.w.mem.2 h)
  · rcases hv i hi with ⟨h1, h2⟩ | h
    · rw [h2]; exact J.fv i h1
    · exact none_of_same J.sm h
end
section
variable {N : Nat} {P : Program} {w : World} {K : PySem.W.Frag} {mg : Str → Option Value} {base : Heap} {CH d0 dR fXI : Addr} {CM fMI fSz fAt fPut fCp fLk : Addr} {CB fBI fBL fBT fBP fBC fBM fBF fLF fLT : Addr}
/-- _law_told, whatever it tells -/
def spOth (CB CM : Addr) : Sp := fun vs H Q _ => ∃ B dB m c dx xs d kvs rows, Ab CB CM H B dB m c dx xs d kvs rows ∧ ((∃ (vl : Addr) (kv : V) (t : Int), vs = [.ref B, .int 0, .int t, kv, .ref vl] ∧ H vl = some (.lst [.non]) ∧ vl ≠ c) ∨ ∃ (z : Int) (kv wv : V), vs = [.ref B, .int 3, .int z, kv, wv] ∧ z.natAbs.log2 < 1920) ∧
  ∀ v xs' kvs' rows' H', Ab CB CM H' B dB m c dx xs' d kvs' rows' → But2 c d H H' → Q v H'
theorem oth_of {vs : List V} {H : Hp} {Q : VK} {E : XK} (h : spOth CB CM vs H Q E) : spT CB CM vs H Q E := by
  obtain ⟨B, dB, m, c, dx, xs, d, kvs, rows, a, h, k⟩ := h
  have kl := a.ks.len
  have n13 := a.n
  rcases h with ⟨vl, kv, t, rfl, hv, nvc⟩ | ⟨z, kv, wv, rfl, hz⟩
  · refine .inl ⟨rows.length, B, dB, m, c, dx, xs, wordsOf rows, d, kvs, vl, [.non], [.no], kv, t, rfl, a.x, hv, rel_none 1, by decide, (fun x hx t n z => by rw [List.mem_singleton.mp hx] at z; cases z), nvc, by omega, fun i hi hj hn xs' H' X' bt => ?_, fun _ H' sm => ?_⟩
    · exact k _ _ _ _ H' (a.lay hi hn (by decide) (fun x hx t n z => by rw [List.mem_singleton.mp hx] at z; cases z) X') bt
    · exact k _ _ _ _ H' (a.same sm) (fun b u _ _ q => sm b u q)
  · refine .inr (.inr (.inr ⟨_, B, dB, m, c, dx, xs, wordsOf rows, d, kvs, kv, wv, z, rfl, a.x, hz, ?_⟩))
    by_cases g : valV kvs (Sum.inl z) = none
    · rw [if_pos g]
      exact fun H' sm => k _ _ _ _ H' (a.same sm) (fun b u _ _ q => sm b u q)
    · rw [if_neg g]
      obtain ⟨b, eb, tk⟩ : ∃ b : Nat, z = 7 * (b : Int) ∧ taken rows b := Classical.byContradiction fun q => g ((a.ks.nil0 z).mpr q)
      have hb : b < rows.length := by
        obtain ⟨q, e⟩ := tk
        exact (List.getElem?_eq_some_iff.mp e).1
      refine ⟨by omega, by omega, fun xs' H' X' bt => ?_⟩
      rw [eb] at X'
      exact k _ _ _ _ H' (a.clear hb X') bt
def spLaw (K : PySem.W.Frag) : Sp := fun vs H Q _ => ∃ (a : Addr) (ns : List Int), vs = [.ref a] ∧ SqL K H a (ns.map V.int) ∧ ns.length ≤ 63 ∧ ∀ H', Q (.bl true) H'
theorem scL : FnScope ["script", "many", "boxes", "rows", "other", "k", "cell"] ["script"] (defScope sLaw) := ⟨rfl, rfl, rfl, by decide +kernel, rfl, by decide +kernel, by decide +kernel⟩
theorem words_none (n : Nat) : wordsOf (List.replicate n none) = List.replicate (7 * n) .no := by
  induction n with
  | zero => rfl
  | succ n ih =>
    unfold wordsOf at ih ⊢
    rw [List.replicate_succ, List.map_cons, List.flatten_cons, ih]
    show List.replicate 7 Wc.no ++ List.replicate (7 * n) .no = _
    rw [List.replicate_append_replicate]
    congr 1
    omega
theorem none_taken {n b : Nat} : ¬ taken (List.replicate n none) b := fun ⟨q, e⟩ => by
  rw [List.getElem?_replicate] at e
  split at e
  · cases e
  · cases e
theorem ab_new {H : Hp} {B dB m c dx d : Addr} {n : Nat} (hn : n ≤ 13) (X : Bx CB CM (7 * n) H B dB m c dx (List.replicate (7 * n) .non) (List.replicate (7 * n) .no) d []) : Ab CB CM H B dB m c dx (List.replicate (7 * n) .non) d [] (List.replicate n none) := by
  refine ⟨by rw [List.length_replicate, words_none]; exact X, fun r hr => by rw [List.eq_of_mem_replicate hr]; trivial, ⟨[], rfl, List.nodup_nil, fun a => ⟨(fun h => by cases h), fun ⟨b, _, z⟩ => absurd z none_taken⟩⟩, by rw [List.length_replicate]; exact hn⟩
theorem ok_law {f fC fTd fA fL fO : Addr} {fd fdI fdC fdT fdA fdL fdO : FuncData} (F : Fun K "law" "law" sLaw f fd) (T : Txt K mg CH d0 dR fXI) (M : BoxC K CB fBI fBL fBT fBP fBC fBM fBF fLF fLT) (mB : mg "Boxes" = some (.ref CB))
    (GI : FnOk P w K mg base (CXE P w) 3 fBI fdI ["self", "many"] (spBI CB CM)) (bI : Binds K fdI ["self", "many"] [])
    (GC : FnOk P w K mg base (CXE P w) 1 fC fdC ["script", "k"] (spCell K)) (mC : mg "_law_cell_at" = some (.ref fC)) (kC : PySem.W.keepIn K (.ref fC) = true) (bC : Binds K fdC ["script", "k"] [])
    (GT : FnOk P w K mg base (CXE P w) 10 fTd fdT ["boxes", "way", "a", "k", "word"] (spT CB CM)) (mT : mg "_law_told" = some (.ref fTd)) (kT : PySem.W.keepIn K (.ref fTd) = true) (bT : Binds K fdT ["boxes", "way", "a", "k", "word"] [])
    (GA : FnOk P w K mg base (CXE P w) 5 fA fdA ["boxes", "rows"] (spAl CB CM)) (mA : mg "_law_alike" = some (.ref fA)) (kA : PySem.W.keepIn K (.ref fA) = true) (bA : Binds K fdA ["boxes", "rows"] [])
    (GL : FnOk P w K mg base (CXE P w) 11 fL fdL ["boxes", "rows", "t", "cell"] (spLaid CB CM)) (mL : mg "_law_laid" = some (.ref fL)) (kL : PySem.W.keepIn K (.ref fL) = true) (bL : Binds K fdL ["boxes", "rows", "t", "cell"] [])
    (GO : FnOk P w K mg base (CXE P w) 11 fO fdO ["boxes", "rows", "cell"] (spOne CB CM)) (mO : mg "_law_one" = some (.ref fO)) (kO : PySem.W.keepIn K (.ref fO) = true) (bO : Binds K fdO ["boxes", "rows", "cell"] []) : FnOk P w K mg base (CXE P w) 12 f fd ["script"] (spLaw K) := by
  have GX : FnOk P w K mg base (CXE P w) 10 fTd fdT ["boxes", "way", "a", "k", "word"] (spOth CB CM) := GT.imp fun _ _ _ _ h => oth_of h
  refine F.okE scL (fun vs H Q E h => ?_) (fun cdv A outer s H vs Q E hr h => ?_)
  · obtain ⟨a, ns, rfl, _⟩ := h
    rfl
  · obtain ⟨a, ns, rfl, hS, hlen, k⟩ := h
    have r1 := hr.mono (show 1 ≤ 11 by decide)
    have r5 := hr.mono (show 5 ≤ 11 by decide)
    have r10 := hr.mono (show 10 ≤ 11 by decide)
    refine ⟨_, PSs.nox (pss_cons (ps_set (i := 1) scL.nd rfl (Or.inl rfl) (pe_op op_mod (xe_call GC r1 rfl mC kC bC .nil passN (pa_cons (pv 0) (pa_cons pe_int pa_nil))) pe_int))
      (pss_cons (ps_set (i := 2) scL.nd rfl (Or.inl rfl) (pe_make M.mke GI (hr.mono (by decide)) rfl mB bI .nil passF0 (pa_cons (pv 1) pa_nil)))
      (pss_cons (ps_comp (i := 3) scL.nd rfl rfl (cl := []) (x := "box") (idx := []) (NC := ["box"]) ?co1 rfl (pi_range1 rfl T.z_range (pa_cons (pv 1) pa_nil)) (fun C fp s₀ H₀ => pe_non))
      (pss_cons (ps_if (pt_not (pt_val (xe_call GA r5 rfl mA kA bA .nil passN (pa_cons (pv 2) (pa_cons (pv 3) pa_nil))))) (pss_one (ps_ret pe_bl)) pss_nil)
      (pss_cons (ps_set (i := 4) scL.nd rfl (Or.inl rfl) (pe_make M.mke GI (hr.mono (by decide)) rfl mB bI .nil passF0 (pa_cons (pe_op op_sub pe_int (pv 1)) pa_nil)))
      (pss_cons (ps_for PassesOwn.never rfl (pi_range2 rfl T.z_range (pa_cons pe_int (pa_cons (pe_callB call_len_seq rfl T.z_len PyProof.Rows.Boot.«len» (pa_cons (pv 0) pa_nil)) pa_nil))) (pg_name (i := 5) scL.nd rfl (Or.inl rfl))
        (pss_cons (ps_set (i := 6) scL.nd rfl (Or.inl rfl) (xe_call GC r1 rfl mC kC bC .nil passN (pa_cons (pv 0) (pa_cons (pv 5) pa_nil))))
        (pss_cons (ps_expr (xe_call GX r10 rfl mT kT bT .nil passN (pa_cons (pv 4) (pa_cons (pe_op op_mul (pe_op op_mod (pv 6) pe_int) pe_int) (pa_cons (pe_ix ix_list (pe_lst (pa_cons (pv 5) (pa_cons (pe_op op_mul pe_int (pe_op op_mod (pv 6) pe_int)) pa_nil))) (pe_op op_mod (pv 6) pe_int) (fun _ _ => rfl)) (pa_cons pe_int (pa_cons (pe_lst (pa_cons pe_non pa_nil)) pa_nil)))))))
        (pss_cons (ps_if (pt_cmpR op_eq (pe_op op_mod (pv 6) pe_int) pe_int (nomark _))
          (pss_one (ps_if (pt_not (pt_val (xe_call GL hr rfl mL kL bL .nil passN (pa_cons (pv 2) (pa_cons (pv 3) (pa_cons (pv 5) (pa_cons (pe_op op_fdiv (pv 6) pe_int) pa_nil))))))) (pss_one (ps_ret pe_bl)) pss_nil))
          (pss_one (ps_if (pt_not (pt_val (xe_call GO hr rfl mO kO bO .nil passN (pa_cons (pv 2) (pa_cons (pv 3) (pa_cons (pe_op op_fdiv (pv 6) pe_int) pa_nil)))))) (pss_one (ps_ret pe_bl)) pss_nil)))
        (pss_one (ps_if (pt_not (pt_val (xe_call GA r5 rfl mA kA bA .nil passN (pa_cons (pv 2) (pa_cons (pv 3) pa_nil))))) (pss_one (ps_ret pe_bl)) pss_nil))))))
      (pss_one (ps_ret (pe_cmpR op_eq (xe_call GT r10 rfl mT kT bT .nil passN (pa_cons (pv 2) (pa_cons pe_int (pa_cons (pe_un un_neg pe_int) (pa_cons pe_int (pa_cons pe_non pa_nil)))))) pe_str (nomark _)))))))))), ?_⟩
    case co1 =>
      exact comp_ok (sc := defScope sLaw) (N := ["script", "many", "boxes", "rows", "other", "k", "cell"]) (ns := []) rfl rfl rfl (by decide +kernel) rfl rfl (by
        intro q hq
        cases hq)
    refine ⟨_, rfl, a, ns, 0, rfl, hS, fun c0 hc0 _ => ?_⟩
    have m0 := Int.emod_nonneg c0 (show (13 : Int) ≠ 0 by decide)
    have m1 := Int.emod_lt_of_pos c0 (show (0 : Int) < 13 by decide)
    refine ⟨c0, 13, rfl, rfl, (by show (0 : Int) < 13; decide), ?_⟩
    obtain ⟨n, en⟩ : ∃ n : Nat, c0 % 13 = (n : Int) := ⟨(c0 % 13).toNat, by omega⟩
    rw [en] at m0 m1
    refine ⟨_, rfl, fun B dB hB hdB nd1 => ⟨B, dB, n, (by rw [← en]; try rfl), upd_same, by omega, fun m c dx d H1 b1 hc1 hd1 X1 => ⟨rfl, ?_⟩⟩⟩
    have s1 : Same H H1 := fun b u q => b1 b u (ne_of_none q hB) (by rw [upd_ne (ne_of_none q hB), upd_ne (ne_of_none q hdB)]; exact q)
    have new1 : ∀ {b : Addr}, upd (upd H dB (.own B)) B (.ins CB dB []) b = none → H b = none := fun {b} g => by
      cases q : H b with
      | none => rfl
      | some u => rw [upd_ne (ne_of_none q hB), upd_ne (ne_of_none q hdB), q] at g; cases g
    have fc := new1 hc1
    have fd0 := new1 hd1
    have ab1 := ab_new (by omega) X1
    refine ⟨_, rfl, (n : Int), (by rw [← en]; try rfl), by omega, by omega, fun R hR => ?_⟩
    refine comp_range (lo := 0) (n := (n : Int).toNat) (fun i ys H2 => ys = List.replicate i .non ∧ Same H1 H2 ∧ H2 R = some (.lst ys)) ⟨rfl, Same.upd hR, upd_same⟩ (fun i ys H2 hi ⟨e, _, z⟩ => ⟨z, by rw [e, List.length_replicate]⟩) (Nat.le_trans (show (n : Int).toNat ≤ 13 by omega) (by decide)) (fun i ys H2 hi ⟨e, s2, z⟩ => ?_) (fun ys H2 ⟨e, s2, z⟩ => ?_)
    · refine ⟨z, ?_, fun b u q => by rw [upd_ne (ne_of_none q hR)]; exact s2 b u q, upd_same⟩
      rw [e, List.replicate_succ']
    · have e : ys = List.replicate n .non := by rw [e, show (n : Int).toNat = n by omega]
      subst e
      have ab2 := ab1.same s2
      have nRc : R ≠ c := Ne.symm (ne_of_none ab1.x.w.mem.2 hR)
      have ra2 : RA H2 R (List.replicate n .non) (List.replicate n none) (fun _ => 0) := ⟨z, by rw [List.length_replicate, List.length_replicate], fun b e => by
        have hb := (List.getElem?_eq_some_iff.mp e).1
        rw [List.length_replicate] at hb
        rw [List.getElem?_replicate, if_pos hb], fun b t fs e => absurd ⟨_, e⟩ none_taken, fun b b' h => absurd h none_taken, fun b h => absurd h none_taken⟩
      have al2 := ab2.al ra2 nRc fun b h => absurd h none_taken
      refine ⟨_, rfl, _, rfl, B, dB, m, c, dx, _, d, [], R, _, _, _, rfl, al2, fun H3 s3 => ⟨true, rfl, iteF ?_⟩⟩
      have al3 := al2.same s3
      have st3 := (s1.trans s2).trans s3
      refine ⟨_, rfl, 12, (n : Int), rfl, (by rw [← en]; try rfl), fun oB odB hoB hodB nd2 => ⟨oB, odB, 12 - n, (by show [V.ref oB, V.int (12 - (n : Int))] = [V.ref oB, V.int ((12 - n : Nat) : Int)]; rw [show (((12 - n : Nat) : Nat) : Int) = 12 - (n : Int) by omega]), upd_same, by omega, fun om oc odx od H4 b4 hoc hod X4 => ⟨rfl, ?_⟩⟩⟩
      have s4 : Same H3 H4 := fun b u q => b4 b u (ne_of_none q hoB) (by rw [upd_ne (ne_of_none q hoB), upd_ne (ne_of_none q hodB)]; exact q)
      have new4 : ∀ {b : Addr}, upd (upd H3 odB (.own oB)) oB (.ins CB odB []) b = none → H3 b = none := fun {b} g => by
        cases q : H3 b with
        | none => rfl
        | some u => rw [upd_ne (ne_of_none q hoB), upd_ne (ne_of_none q hodB), q] at g; cases g
      have oc3 := new4 hoc
      have od3 := new4 hod
      have o4 := ab_new (by omega) X4
      have J4 : LI CB CM H H4 B dB m c dx _ d [] R _ _ _ oB odB om oc odx _ od [] _ := ⟨al3.same s4, o4, st3.trans s4, Ne.symm (ne_of_none al3.x.w.mem.2 oc3), Ne.symm (ne_of_none al3.r.at_ oc3), fun i h => absurd h none_taken, Ne.symm (ne_of_none al3.x.t od3), fc, fd0, none_of_same s1 hR, fun i h => absurd h none_taken, none_of_same st3 oc3, none_of_same st3 od3⟩
      refine ⟨_, rfl, a, _, rfl, .inl (J4.sm.seq hS), 1, ((ns.map V.int).length : Int), rfl, ⟨by decide, by decide, by omega, by rw [List.length_map]; omega⟩, ?_⟩
      refine for_range (lo := 1) (n := (((ns.map V.int).length : Int) - 1).toNat) (fun i σ H5 => ∃ v5 v6 xs kvs rs rows vl oxs okvs orows, σ = [some (.ref a), some (.int (c0 % 13)), some (.ref B), some (.ref R), some (.ref oB), v5, v6] ∧ LI CB CM H H5 B dB m c dx xs d kvs R rs rows vl oB odB om oc odx oxs od okvs orows)
        ⟨none, none, _, _, _, _, _, _, _, _, rfl, J4⟩ ?_ ?_
      · rintro i σ H5 hi ⟨v5, v6, xs, kvs, rs, rows, vl, oxs, okvs, orows, rfl, J⟩
        refine ⟨_, rfl, _, rfl, a, ns, 1 + i, (by show [V.ref a, V.int (1 + (i : Int))] = [V.ref a, V.int ((1 + i : Nat) : Int)]; rw [show ((1 + i : Nat) : Int) = 1 + (i : Int) by omega]), J.sm.seq hS, fun cell cl0 cl1 => ?_⟩
        have par : cell % 2 = 0 ∨ cell % 2 = 1 := by omega
        have c12 := Int.emod_nonneg cell (show (12 : Int) ≠ 0 by decide)
        have c13 := Int.emod_lt_of_pos cell (show (0 : Int) < 12 by decide)
        refine ⟨_, rfl, _, rfl, cell, 2, rfl, rfl, (by show (0 : Int) < 2; decide), _, 3, rfl, rfl, .inr ⟨by decide, by decide⟩, _, rfl, _, rfl, cell, 12, rfl, rfl, (by show (0 : Int) < 12; decide), 7, _, rfl, rfl, .inl ⟨by decide, by decide⟩, by show 2 ≤ sizeLine; decide, fun l1 hl1 => ?_⟩
        have k1 := Same.upd (o := .lst [.int (1 + (i : Int)), .int (7 * (cell % 12))]) hl1
        have ati : ∀ e : Int, cell % 2 = e → (e = 0 ∨ e = 1) → atI [V.int (1 + (i : Int)), V.int (7 * (cell % 12))] (cell % 2) = some (if e = 0 then V.int (1 + (i : Int)) else V.int (7 * (cell % 12))) := fun e ee h => by
          rw [ee]
          rcases h with h | h
          · subst h; rfl
          · subst h; rfl
        rcases par with ep | ep
        · refine ⟨_, rfl, cell, 2, rfl, rfl, (by show (0 : Int) < 2; decide), l1, _, _, V.int (1 + (i : Int)), rfl, rfl, SqL.of upd_same, ati 0 ep (.inl rfl), by show 1 ≤ sizeLine; decide, fun l2 hl2 => ?_⟩
          have k2 := k1.trans (Same.upd (o := .lst [.non]) hl2)
          have J2 := J.same k2
          have nlc : l2 ≠ oc := Ne.symm (ne_of_none (k1 _ _ J.o.x.w.mem.2) hl2)
          refine ⟨oB, odB, om, oc, odx, oxs, od, okvs, orows, J2.o, .inl ⟨l2, .int 0, 1 + (i : Int), (by show [V.ref oB, V.int (cell % 2 * 3), V.int (1 + (i : Int)), V.int 0, V.ref l2] = [V.ref oB, V.int 0, V.int (1 + (i : Int)), V.int 0, V.ref l2]; rw [ep]; rfl), upd_same, nlc⟩, fun v oxs' okvs' orows' H6 o6 bt6 => ?_⟩
          have J6 := J2.other o6 bt6
          refine ⟨_, rfl, cell, 2, rfl, rfl, (by show (0 : Int) < 2; decide), rfl, _, rfl, ite2 (fun _ => ?_) (fun h => absurd (by show decide (V.int (cell % 2) = V.int 0) = true; rw [ep]; rfl) h)⟩
          refine ⟨_, rfl, _, rfl, _, rfl, _, rfl, cell, 2, rfl, rfl, ⟨by decide, by decide⟩, B, dB, m, c, dx, xs, d, kvs, R, rs, rows, vl, 1 + (i : Int), cell / 2, rfl, J6.a, fun xs' kvs' rs' rows' vl' H7 a7 hl7 fr7 hv7 => ⟨true, rfl, iteF ?_⟩⟩
          have J7 := J6.deed a7 fr7 hv7
          refine ⟨_, rfl, _, rfl, B, dB, m, c, dx, xs', d, kvs', R, rs', rows', vl', rfl, J7.a, fun H8 s8 => ⟨true, rfl, iteF ?_⟩⟩
          exact ⟨_, _, _, _, _, _, _, _, _, _, rfl, J7.same s8⟩
        · refine ⟨_, rfl, cell, 2, rfl, rfl, (by show (0 : Int) < 2; decide), l1, _, _, V.int (7 * (cell % 12)), rfl, rfl, SqL.of upd_same, ati 1 ep (.inr rfl), by show 1 ≤ sizeLine; decide, fun l2 hl2 => ?_⟩
          have k2 := k1.trans (Same.upd (o := .lst [.non]) hl2)
          have J2 := J.same k2
          refine ⟨oB, odB, om, oc, odx, oxs, od, okvs, orows, J2.o, .inr ⟨7 * (cell % 12), .int 0, .ref l2, (by show [V.ref oB, V.int (cell % 2 * 3), V.int (7 * (cell % 12)), V.int 0, V.ref l2] = [V.ref oB, V.int 3, V.int (7 * (cell % 12)), V.int 0, V.ref l2]; rw [ep]; rfl), log7 (by omega) (by omega)⟩, fun v oxs' okvs' orows' H6 o6 bt6 => ?_⟩
          have J6 := J2.other o6 bt6
          refine ⟨_, rfl, cell, 2, rfl, rfl, (by show (0 : Int) < 2; decide), rfl, _, rfl, ite2 (fun h => absurd (V.int.inj (of_decide_eq_true h)) (by omega)) (fun _ => ?_)⟩
          refine ⟨_, rfl, _, rfl, _, rfl, cell, 2, rfl, rfl, ⟨by decide, by decide⟩, B, dB, m, c, dx, xs, d, kvs, R, rs, rows, vl, cell / 2, rfl, J6.a, fun xs' kvs' rs' rows' vl' H7 a7 hl7 fr7 hv7 => ⟨true, rfl, iteF ?_⟩⟩
          have J7 := J6.deed a7 fr7 hv7
          refine ⟨_, rfl, _, rfl, B, dB, m, c, dx, xs', d, kvs', R, rs', rows', vl', rfl, J7.a, fun H8 s8 => ⟨true, rfl, iteF ?_⟩⟩
          exact ⟨_, _, _, _, _, _, _, _, _, _, rfl, J7.same s8⟩
      · rintro σ H5 ⟨v5, v6, xs, kvs, rs, rows, vl, oxs, okvs, orows, rfl, J⟩
        have vn : valV kvs (Sum.inl (-7)) = none := (J.a.ks.nil0 _).mpr fun ⟨b, e, _⟩ => by omega
        refine ⟨_, rfl, 7, rfl, .inr (.inr (.inr ⟨_, B, dB, m, c, dx, xs, _, d, kvs, .int 0, .non, -7, rfl, J.a.x, log7 (by omega) (by omega), ?_⟩))⟩
        rw [if_pos vn]
        exact fun H' _ => ⟨rfl, k H'⟩
end
end K61
end
section
set_option Elab.async false
set_option linter.all false
set_option maxRecDepth 100000
set_option maxHeartbeats 4000000
set_option exponentiation.threshold 4000
namespace K61
open PySem L2 LX
theorem all_mk {l : PySem.W.OpenLaw} {w : World} {K : PySem.W.Frag} {h : Heap} {mg : Str → Option Value} {fa CH d0 dR CM CB fXI fKd fLy fTh fPF fFA fTo fAd fRm fMI fSz fAt fPut fCp fLk fBI fBL fBT fBP fBC fBM fBF fLF fLT fCl fWd fTd fAl fLd fLa fOn fL : Addr} {t_M : Tok} (X : K.In h) (G : h.Ns mainGlobals mg) (hfa : mg "law" = some (.ref fa))
    {od1 an1 od2 an2 od3 an3 od4 an4 od5 an5 od6 an6 od7 an7 od8 an8 od9 an9 od10 an10 od11 an11 od12 an12 od13 an13 od14 an14 od15 an15 od16 an16 od17 an17 od18 an18 od19 an19 od20 an20 od21 an21 od22 an22 od23 an23 od24 an24 od25 an25 od26 an26 od27 an27 od28 an28 od29 an29 od30 an30 od31 an31 od32 an32 : Option Addr} {sl1 sl2 sl3 sl4 sl5 sl6 sl7 sl8 sl9 sl10 sl11 sl12 sl13 sl14 sl15 sl16 sl17 sl18 sl19 sl20 sl21 sl22 sl23 sl24 sl25 sl26 sl27 sl28 sl29 sl30 sl31 sl32 : Array (Option Value)} {oc1 kV1 dc1 pm1 cd1 ct1 oc2 kV2 dc2 pm2 cd2 ct2 oc3 kV3 dc3 pm3 cd3 ct3 oc4 kV4 dc4 pm4 cd4 ct4 oc5 kV5 dc5 pm5 cd5 ct5 oc6 kV6 dc6 pm6 cd6 ct6 oc7 kV7 dc7 pm7 cd7 ct7 oc8 kV8 dc8 pm8 cd8 ct8 oc9 kV9 dc9 pm9 cd9 ct9 oc10 kV10 dc10 pm10 cd10 ct10 oc11 kV11 dc11 pm11 cd11 ct11 oc12 kV12 dc12 pm12 cd12 ct12 oc13 kV13 dc13 pm13 cd13 ct13 oc14 kV14 dc14 pm14 cd14 ct14 oc15 kV15 dc15 pm15 cd15 ct15 oc16 kV16 dc16 pm16 cd16 ct16 oc17 kV17 dc17 pm17 cd17 ct17 oc18 kV18 dc18 pm18 cd18 ct18 oc19 kV19 dc19 pm19 cd19 ct19 oc20 kV20 dc20 pm20 cd20 ct20 oc21 kV21 dc21 pm21 cd21 ct21 oc22 kV22 dc22 pm22 cd22 ct22 oc23 kV23 dc23 pm23 cd23 ct23 oc24 kV24 dc24 pm24 cd24 ct24 oc25 kV25 dc25 pm25 cd25 ct25 oc26 kV26 dc26 pm26 cd26 ct26 oc27 kV27 dc27 pm27 cd27 ct27 oc28 kV28 dc28 pm28 cd28 ct28 oc29 kV29 dc29 pm29 cd29 ct29 oc30 kV30 dc30 pm30 cd30 ct30 oc31 kV31 dc31 pm31 cd31 ct31 oc32 kV32 dc32 pm32 cd32 ct32 : Value}
    (nCH : PySem.W.nsIn K mainGlobals "HeapError" = some (some (.ref CH)))
    (nd0 : PySem.W.nsIn K mainGlobals "BadAddress" = some (some (.ref d0)))
    (ndR : PySem.W.nsIn K mainGlobals "NoRoom" = some (some (.ref dR)))
    (nCM : PySem.W.nsIn K mainGlobals "Memory" = some (some (.ref CM)))
    (nCB : PySem.W.nsIn K mainGlobals "Boxes" = some (some (.ref CB)))
    (xH : xclsIn K CH = true)
    (x0 : xclsIn K d0 = true)
    (ga0 : PySem.W.findIn K (.ref d0) "__getattribute__" = some (some (.builtin "BaseException.__getattribute__")))
    (gt0 : PySem.W.findIn K (.ref d0) "__getattr__" = some none)
    (gc0 : PySem.W.findIn K (.ref d0) "__class__" = some (some (.builtin "object.__class__")))
    (ii0 : PySem.W.findIn K (.ref d0) "__init__" = some (some (.ref fXI)))
    (kc0 : PySem.W.keepIn K (.ref d0) = true)
    (sb0 : PySem.W.mroIn K d0 (.ref CH) = some true)
    (xR : xclsIn K dR = true)
    (gaR : PySem.W.findIn K (.ref dR) "__getattribute__" = some (some (.builtin "BaseException.__getattribute__")))
    (gtR : PySem.W.findIn K (.ref dR) "__getattr__" = some none)
    (gcR : PySem.W.findIn K (.ref dR) "__class__" = some (some (.builtin "object.__class__")))
    (iiR : PySem.W.findIn K (.ref dR) "__init__" = some (some (.ref fXI)))
    (kcR : PySem.W.keepIn K (.ref dR) = true)
    (sbR : PySem.W.mroIn K dR (.ref CH) = some true)
    (fi : PySem.W.isFn K (.ref fXI) = true)
    (f0R : PySem.W.kitOne K (.ref d0) (.ref dR) = some false)
    (fR0 : PySem.W.kitOne K (.ref dR) (.ref d0) = some false)
    (cpgM : PySem.W.plainGet K CM Str.empty = true)
    (chdM : PySem.W.hasDictIn K CM = true)
    (cpoM : PySem.W.plainOver K CM = true)
    (csaM : PySem.W.findIn K (.ref CM) "__setattr__" = some (some (.builtin "object.__setattr__")))
    (cnM0 : PySem.W.findIn K (.ref CM) "cells" = some none)
    (mmkM : PySem.W.makesIn K CM = true)
    (miiM : PySem.W.findIn K (.ref CM) "__init__" = some (some (.ref fMI)))
    (mfnM : PySem.W.isFn K (.ref fMI) = true)
    (mkpM : PySem.W.keepIn K (.ref CM) = true)
    (cpgB : PySem.W.plainGet K CB Str.empty = true)
    (chdB : PySem.W.hasDictIn K CB = true)
    (cpoB : PySem.W.plainOver K CB = true)
    (csaB : PySem.W.findIn K (.ref CB) "__setattr__" = some (some (.builtin "object.__setattr__")))
    (cnB0 : PySem.W.findIn K (.ref CB) "words_kept" = some none)
    (cnB1 : PySem.W.findIn K (.ref CB) "taken_firsts" = some none)
    (mmkB : PySem.W.makesIn K CB = true)
    (miiB : PySem.W.findIn K (.ref CB) "__init__" = some (some (.ref fBI)))
    (mfnB : PySem.W.isFn K (.ref fBI) = true)
    (mkpB : PySem.W.keepIn K (.ref CB) = true)
    (l1 : K.lookup fXI = some ⟨oc1, od1, .func (PySem.W.fnOf "__init__" "HeapError.__init__" (defArgs sXI) (defBody sXI) (defScope sXI) .none kV1 dc1 pm1 an1 cd1 ct1), sl1⟩)
    (c1 : PySem.W.codeIn K cd1 "HeapError.__init__" = true)
    (k1 : PySem.W.keepIn K (.ref fXI) = true)
    (a2 : PySem.W.nsIn K mainGlobals "kind_of" = some (some (.ref fKd)))
    (l2 : K.lookup fKd = some ⟨oc2, od2, .func (PySem.W.fnOf "kind_of" "kind_of" (defArgs sKind) (defBody sKind) (defScope sKind) .none kV2 dc2 pm2 an2 cd2 ct2), sl2⟩)
    (c2 : PySem.W.codeIn K cd2 "kind_of" = true)
    (k2 : PySem.W.keepIn K (.ref fKd) = true)
    (a3 : PySem.W.nsIn K mainGlobals "lay" = some (some (.ref fLy)))
    (l3 : K.lookup fLy = some ⟨oc3, od3, .func (PySem.W.fnOf "lay" "lay" (defArgs sLay) (defBody sLay) (defScope sLay) .none kV3 dc3 pm3 an3 cd3 ct3), sl3⟩)
    (c3 : PySem.W.codeIn K cd3 "lay" = true)
    (k3 : PySem.W.keepIn K (.ref fLy) = true)
    (a4 : PySem.W.nsIn K mainGlobals "thing_at" = some (some (.ref fTh)))
    (l4 : K.lookup fTh = some ⟨oc4, od4, .func (PySem.W.fnOf "thing_at" "thing_at" (defArgs sThing) (defBody sThing) (defScope sThing) .none kV4 dc4 pm4 an4 cd4 ct4), sl4⟩)
    (c4 : PySem.W.codeIn K cd4 "thing_at" = true)
    (k4 : PySem.W.keepIn K (.ref fTh) = true)
    (a5 : PySem.W.nsIn K mainGlobals "put_field" = some (some (.ref fPF)))
    (l5 : K.lookup fPF = some ⟨oc5, od5, .func (PySem.W.fnOf "put_field" "put_field" (defArgs sPutF) (defBody sPutF) (defScope sPutF) .none kV5 dc5 pm5 an5 cd5 ct5), sl5⟩)
    (c5 : PySem.W.codeIn K cd5 "put_field" = true)
    (k5 : PySem.W.keepIn K (.ref fPF) = true)
    (a6 : PySem.W.nsIn K mainGlobals "fields_at" = some (some (.ref fFA)))
    (l6 : K.lookup fFA = some ⟨oc6, od6, .func (PySem.W.fnOf "fields_at" "fields_at" (defArgs sFAt) (defBody sFAt) (defScope sFAt) .none kV6 dc6 pm6 an6 cd6 ct6), sl6⟩)
    (c6 : PySem.W.codeIn K cd6 "fields_at" = true)
    (k6 : PySem.W.keepIn K (.ref fFA) = true)
    (a7 : PySem.W.nsIn K mainGlobals "fields_told" = some (some (.ref fTo)))
    (l7 : K.lookup fTo = some ⟨oc7, od7, .func (PySem.W.fnOf "fields_told" "fields_told" (defArgs sTold) (defBody sTold) (defScope sTold) .none kV7 dc7 pm7 an7 cd7 ct7), sl7⟩)
    (c7 : PySem.W.codeIn K cd7 "fields_told" = true)
    (k7 : PySem.W.keepIn K (.ref fTo) = true)
    (a8 : PySem.W.nsIn K mainGlobals "field_address" = some (some (.ref fAd)))
    (l8 : K.lookup fAd = some ⟨oc8, od8, .func (PySem.W.fnOf "field_address" "field_address" (defArgs sAddr) (defBody sAddr) (defScope sAddr) .none kV8 dc8 pm8 an8 cd8 ct8), sl8⟩)
    (c8 : PySem.W.codeIn K cd8 "field_address" = true)
    (k8 : PySem.W.keepIn K (.ref fAd) = true)
    (a9 : PySem.W.nsIn K mainGlobals "look_at_room" = some (some (.ref fRm)))
    (l9 : K.lookup fRm = some ⟨oc9, od9, .func (PySem.W.fnOf "look_at_room" "look_at_room" (defArgs sRoom) (defBody sRoom) (defScope sRoom) .none kV9 dc9 pm9 an9 cd9 ct9), sl9⟩)
    (c9 : PySem.W.codeIn K cd9 "look_at_room" = true)
    (k9 : PySem.W.keepIn K (.ref fRm) = true)
    (l10 : K.lookup fMI = some ⟨oc10, od10, .func (PySem.W.fnOf "__init__" "Memory.__init__" (defArgs sMI) (defBody sMI) (defScope sMI) .none kV10 dc10 pm10 an10 cd10 ct10), sl10⟩)
    (c10 : PySem.W.codeIn K cd10 "Memory.__init__" = true)
    (k10 : PySem.W.keepIn K (.ref fMI) = true)
    (t11 : PySem.W.findIn K (.ref CM) "size" = some (some (.ref fSz)))
    (u11 : PySem.W.isFn K (.ref fSz) = true)
    (l11 : K.lookup fSz = some ⟨oc11, od11, .func (PySem.W.fnOf "size" "Memory.size" (defArgs sSize) (defBody sSize) (defScope sSize) .none kV11 dc11 pm11 an11 cd11 ct11), sl11⟩)
    (c11 : PySem.W.codeIn K cd11 "Memory.size" = true)
    (k11 : PySem.W.keepIn K (.ref fSz) = true)
    (t12 : PySem.W.findIn K (.ref CM) "at" = some (some (.ref fAt)))
    (u12 : PySem.W.isFn K (.ref fAt) = true)
    (l12 : K.lookup fAt = some ⟨oc12, od12, .func (PySem.W.fnOf "at" "Memory.at" (defArgs sAt) (defBody sAt) (defScope sAt) .none kV12 dc12 pm12 an12 cd12 ct12), sl12⟩)
    (c12 : PySem.W.codeIn K cd12 "Memory.at" = true)
    (k12 : PySem.W.keepIn K (.ref fAt) = true)
    (t13 : PySem.W.findIn K (.ref CM) "put" = some (some (.ref fPut)))
    (u13 : PySem.W.isFn K (.ref fPut) = true)
    (l13 : K.lookup fPut = some ⟨oc13, od13, .func (PySem.W.fnOf "put" "Memory.put" (defArgs sPut) (defBody sPut) (defScope sPut) .none kV13 dc13 pm13 an13 cd13 ct13), sl13⟩)
    (c13 : PySem.W.codeIn K cd13 "Memory.put" = true)
    (k13 : PySem.W.keepIn K (.ref fPut) = true)
    (t14 : PySem.W.findIn K (.ref CM) "copy_of" = some (some (.ref fCp)))
    (u14 : PySem.W.isFn K (.ref fCp) = true)
    (l14 : K.lookup fCp = some ⟨oc14, od14, .func (PySem.W.fnOf "copy_of" "Memory.copy_of" (defArgs sCopy) (defBody sCopy) (defScope sCopy) .none kV14 dc14 pm14 an14 cd14 ct14), sl14⟩)
    (c14 : PySem.W.codeIn K cd14 "Memory.copy_of" = true)
    (k14 : PySem.W.keepIn K (.ref fCp) = true)
    (t15 : PySem.W.findIn K (.ref CM) "look_at_address" = some (some (.ref fLk)))
    (u15 : PySem.W.isFn K (.ref fLk) = true)
    (l15 : K.lookup fLk = some ⟨oc15, od15, .func (PySem.W.fnOf "look_at_address" "Memory.look_at_address" (defArgs sLk) (defBody sLk) (defScope sLk) .none kV15 dc15 pm15 an15 cd15 ct15), sl15⟩)
    (c15 : PySem.W.codeIn K cd15 "Memory.look_at_address" = true)
    (k15 : PySem.W.keepIn K (.ref fLk) = true)
    (l16 : K.lookup fBI = some ⟨oc16, od16, .func (PySem.W.fnOf "__init__" "Boxes.__init__" (defArgs sB0) (defBody sB0) (defScope sB0) .none kV16 dc16 pm16 an16 cd16 ct16), sl16⟩)
    (c16 : PySem.W.codeIn K cd16 "Boxes.__init__" = true)
    (k16 : PySem.W.keepIn K (.ref fBI) = true)
    (t17 : PySem.W.findIn K (.ref CB) "lay" = some (some (.ref fBL)))
    (u17 : PySem.W.isFn K (.ref fBL) = true)
    (l17 : K.lookup fBL = some ⟨oc17, od17, .func (PySem.W.fnOf "lay" "Boxes.lay" (defArgs sB1) (defBody sB1) (defScope sB1) .none kV17 dc17 pm17 an17 cd17 ct17), sl17⟩)
    (c17 : PySem.W.codeIn K cd17 "Boxes.lay" = true)
    (k17 : PySem.W.keepIn K (.ref fBL) = true)
    (t18 : PySem.W.findIn K (.ref CB) "thing" = some (some (.ref fBT)))
    (u18 : PySem.W.isFn K (.ref fBT) = true)
    (l18 : K.lookup fBT = some ⟨oc18, od18, .func (PySem.W.fnOf "thing" "Boxes.thing" (defArgs sB2) (defBody sB2) (defScope sB2) .none kV18 dc18 pm18 an18 cd18 ct18), sl18⟩)
    (c18 : PySem.W.codeIn K cd18 "Boxes.thing" = true)
    (k18 : PySem.W.keepIn K (.ref fBT) = true)
    (t19 : PySem.W.findIn K (.ref CB) "put" = some (some (.ref fBP)))
    (u19 : PySem.W.isFn K (.ref fBP) = true)
    (l19 : K.lookup fBP = some ⟨oc19, od19, .func (PySem.W.fnOf "put" "Boxes.put" (defArgs sB3) (defBody sB3) (defScope sB3) .none kV19 dc19 pm19 an19 cd19 ct19), sl19⟩)
    (c19 : PySem.W.codeIn K cd19 "Boxes.put" = true)
    (k19 : PySem.W.keepIn K (.ref fBP) = true)
    (t20 : PySem.W.findIn K (.ref CB) "clear" = some (some (.ref fBC)))
    (u20 : PySem.W.isFn K (.ref fBC) = true)
    (l20 : K.lookup fBC = some ⟨oc20, od20, .func (PySem.W.fnOf "clear" "Boxes.clear" (defArgs sB4) (defBody sB4) (defScope sB4) .none kV20 dc20 pm20 an20 cd20 ct20), sl20⟩)
    (c20 : PySem.W.codeIn K cd20 "Boxes.clear" = true)
    (k20 : PySem.W.keepIn K (.ref fBC) = true)
    (t21 : PySem.W.findIn K (.ref CB) "memory" = some (some (.ref fBM)))
    (u21 : PySem.W.isFn K (.ref fBM) = true)
    (l21 : K.lookup fBM = some ⟨oc21, od21, .func (PySem.W.fnOf "memory" "Boxes.memory" (defArgs sB5) (defBody sB5) (defScope sB5) .none kV21 dc21 pm21 an21 cd21 ct21), sl21⟩)
    (c21 : PySem.W.codeIn K cd21 "Boxes.memory" = true)
    (k21 : PySem.W.keepIn K (.ref fBM) = true)
    (t22 : PySem.W.findIn K (.ref CB) "firsts" = some (some (.ref fBF)))
    (u22 : PySem.W.isFn K (.ref fBF) = true)
    (l22 : K.lookup fBF = some ⟨oc22, od22, .func (PySem.W.fnOf "firsts" "Boxes.firsts" (defArgs sB6) (defBody sB6) (defScope sB6) .none kV22 dc22 pm22 an22 cd22 ct22), sl22⟩)
    (c22 : PySem.W.codeIn K cd22 "Boxes.firsts" = true)
    (k22 : PySem.W.keepIn K (.ref fBF) = true)
    (t23 : PySem.W.findIn K (.ref CB) "least_free" = some (some (.ref fLF)))
    (u23 : PySem.W.isFn K (.ref fLF) = true)
    (l23 : K.lookup fLF = some ⟨oc23, od23, .func (PySem.W.fnOf "least_free" "Boxes.least_free" (defArgs sB7) (defBody sB7) (defScope sB7) .none kV23 dc23 pm23 an23 cd23 ct23), sl23⟩)
    (c23 : PySem.W.codeIn K cd23 "Boxes.least_free" = true)
    (k23 : PySem.W.keepIn K (.ref fLF) = true)
    (t24 : PySem.W.findIn K (.ref CB) "look_at_thing_in" = some (some (.ref fLT)))
    (u24 : PySem.W.isFn K (.ref fLT) = true)
    (l24 : K.lookup fLT = some ⟨oc24, od24, .func (PySem.W.fnOf "look_at_thing_in" "Boxes.look_at_thing_in" (defArgs sB8) (defBody sB8) (defScope sB8) .none kV24 dc24 pm24 an24 cd24 ct24), sl24⟩)
    (c24 : PySem.W.codeIn K cd24 "Boxes.look_at_thing_in" = true)
    (k24 : PySem.W.keepIn K (.ref fLT) = true)
    (a25 : PySem.W.nsIn K mainGlobals "_law_cell_at" = some (some (.ref fCl)))
    (l25 : K.lookup fCl = some ⟨oc25, od25, .func (PySem.W.fnOf "_law_cell_at" "_law_cell_at" (defArgs sCell) (defBody sCell) (defScope sCell) .none kV25 dc25 pm25 an25 cd25 ct25), sl25⟩)
    (c25 : PySem.W.codeIn K cd25 "_law_cell_at" = true)
    (k25 : PySem.W.keepIn K (.ref fCl) = true)
    (a26 : PySem.W.nsIn K mainGlobals "_law_words" = some (some (.ref fWd)))
    (l26 : K.lookup fWd = some ⟨oc26, od26, .func (PySem.W.fnOf "_law_words" "_law_words" (defArgs sWords) (defBody sWords) (defScope sWords) .none kV26 dc26 pm26 an26 cd26 ct26), sl26⟩)
    (c26 : PySem.W.codeIn K cd26 "_law_words" = true)
    (k26 : PySem.W.keepIn K (.ref fWd) = true)
    (a27 : PySem.W.nsIn K mainGlobals "_law_told" = some (some (.ref fTd)))
    (l27 : K.lookup fTd = some ⟨oc27, od27, .func (PySem.W.fnOf "_law_told" "_law_told" (defArgs sLTold) (defBody sLTold) (defScope sLTold) .none kV27 dc27 pm27 an27 cd27 ct27), sl27⟩)
    (c27 : PySem.W.codeIn K cd27 "_law_told" = true)
    (k27 : PySem.W.keepIn K (.ref fTd) = true)
    (a28 : PySem.W.nsIn K mainGlobals "_law_alike" = some (some (.ref fAl)))
    (l28 : K.lookup fAl = some ⟨oc28, od28, .func (PySem.W.fnOf "_law_alike" "_law_alike" (defArgs sLAlike) (defBody sLAlike) (defScope sLAlike) .none kV28 dc28 pm28 an28 cd28 ct28), sl28⟩)
    (c28 : PySem.W.codeIn K cd28 "_law_alike" = true)
    (k28 : PySem.W.keepIn K (.ref fAl) = true)
    (a29 : PySem.W.nsIn K mainGlobals "_law_laid" = some (some (.ref fLd)))
    (l29 : K.lookup fLd = some ⟨oc29, od29, .func (PySem.W.fnOf "_law_laid" "_law_laid" (defArgs sLaid) (defBody sLaid) (defScope sLaid) .none kV29 dc29 pm29 an29 cd29 ct29), sl29⟩)
    (c29 : PySem.W.codeIn K cd29 "_law_laid" = true)
    (k29 : PySem.W.keepIn K (.ref fLd) = true)
    (a30 : PySem.W.nsIn K mainGlobals "_law_address" = some (some (.ref fLa)))
    (l30 : K.lookup fLa = some ⟨oc30, od30, .func (PySem.W.fnOf "_law_address" "_law_address" (defArgs sLAddr) (defBody sLAddr) (defScope sLAddr) .none kV30 dc30 pm30 an30 cd30 ct30), sl30⟩)
    (c30 : PySem.W.codeIn K cd30 "_law_address" = true)
    (k30 : PySem.W.keepIn K (.ref fLa) = true)
    (a31 : PySem.W.nsIn K mainGlobals "_law_one" = some (some (.ref fOn)))
    (l31 : K.lookup fOn = some ⟨oc31, od31, .func (PySem.W.fnOf "_law_one" "_law_one" (defArgs sOne) (defBody sOne) (defScope sOne) .none kV31 dc31 pm31 an31 cd31 ct31), sl31⟩)
    (c31 : PySem.W.codeIn K cd31 "_law_one" = true)
    (k31 : PySem.W.keepIn K (.ref fOn) = true)
    (a32 : PySem.W.nsIn K mainGlobals "law" = some (some (.ref fL)))
    (l32 : K.lookup fL = some ⟨oc32, od32, .func (PySem.W.fnOf "law" "law" (defArgs sLaw) (defBody sLaw) (defScope sLaw) .none kV32 dc32 pm32 an32 cd32 ct32), sl32⟩)
    (c32 : PySem.W.codeIn K cd32 "law" = true)
    (k32 : PySem.W.keepIn K (.ref fL) = true)
    (z_ValueError : PySem.W.nsIn K mainGlobals "ValueError" = some none)
    (z_isinstance : PySem.W.nsIn K mainGlobals "isinstance" = some none)
    (z_list : PySem.W.nsIn K mainGlobals "list" = some none)
    (z_bool : PySem.W.nsIn K mainGlobals "bool" = some none)
    (z_int : PySem.W.nsIn K mainGlobals "int" = some none)
    (z_len : PySem.W.nsIn K mainGlobals "len" = some none)
    (z_range : PySem.W.nsIn K mainGlobals "range" = some none)
    (z_sorted : PySem.W.nsIn K mainGlobals "sorted" = some none)
    (z_enumerate : PySem.W.nsIn K mainGlobals "enumerate" = some none)
    (q_M : PySem.W.nsIn K mainGlobals "BOX_WORDS" = some (some (.int 7 t_M)))
    (q_L : PySem.W.nsIn K mainGlobals "lay_layout" = some (some (.ref fLy))) :
    ∃ fd : FuncData, (∀ (s : Shared) (v : Value), BindsTo s fd ⟨[v], []⟩ [("script", v)]) ∧ ∀ base : Heap, K.In base → base.Ns mainGlobals mg → FnOk l.prog w K mg base (CXE l.prog w) 12 fa fd ["script"] (spLaw K) := by
  have e := hfa.symm.trans (PySem.W.mg_of X G a32)
  cases e
  obtain ⟨cdH, _, yH⟩ := xcls_of xH
  obtain ⟨cx0, hcx0, y0⟩ := xcls_of x0
  obtain ⟨cxR, hcxR, yR⟩ := xcls_of xR
  have su0 : ∃ cd, XCls K d0 cd ∧ cd.mro.contains (.ref CH) = true := ⟨cx0, y0, by
    unfold PySem.W.mroIn at sb0
    rw [hcx0, Option.bind_some, if_neg (by rw [y0.notEmpty]; decide)] at sb0
    exact Option.some.inj sb0⟩
  have suR : ∃ cd, XCls K dR cd ∧ cd.mro.contains (.ref CH) = true := ⟨cxR, yR, by
    unfold PySem.W.mroIn at sbR
    rw [hcxR, Option.bind_some, if_neg (by rw [yR.notEmpty]; decide)] at sbR
    exact Option.some.inj sbR⟩
  have m := fun {n : Str} {v : Value} (q : PySem.W.nsIn K mainGlobals n = some (some v)) => PySem.W.mg_of X G q
  have T : Txt K mg CH d0 dR fXI := ⟨⟨cdH, yH⟩, m nCH, m nd0, m ndR, ⟨⟨cx0, y0⟩, ⟨ga0, gt0⟩, gc0⟩, ⟨⟨cxR, yR⟩, ⟨gaR, gtR⟩, gcR⟩, ⟨⟨cx0, y0⟩, ii0, fi, kc0⟩, ⟨⟨cxR, yR⟩, iiR, fi, kcR⟩, f0R, fR0, su0, suR, PySem.W.mg_none_of X G z_ValueError, PySem.W.mg_none_of X G z_isinstance, PySem.W.mg_none_of X G z_list, PySem.W.mg_none_of X G z_bool, PySem.W.mg_none_of X G z_int, PySem.W.mg_none_of X G z_len, PySem.W.mg_none_of X G z_range, PySem.W.mg_none_of X G z_sorted, PySem.W.mg_none_of X G z_enumerate⟩
  have MM : MemC K CM fMI fSz fAt fPut fCp fLk := ⟨⟨cpgM, chdM, cpoM, csaM⟩, cnM0, ⟨mmkM, miiM, mfnM, mkpM⟩, ⟨t11, u11, k11⟩, ⟨t12, u12, k12⟩, ⟨t13, u13, k13⟩, ⟨t14, u14, k14⟩, ⟨t15, u15, k15⟩⟩
  have M : BoxC K CB fBI fBL fBT fBP fBC fBM fBF fLF fLT := ⟨⟨cpgB, chdB, cpoB, csaB⟩, cnB0, cnB1, ⟨mmkB, miiB, mfnB, mkpB⟩, ⟨t17, u17, k17⟩, ⟨t18, u18, k18⟩, ⟨t19, u19, k19⟩, ⟨t20, u20, k20⟩, ⟨t21, u21, k21⟩, ⟨t22, u22, k22⟩, ⟨t23, u23, k23⟩, ⟨t24, u24, k24⟩⟩
  have F1 := fun_mk (st := sXI) l1 c1 k1
  have F2 := fun_mk (st := sKind) l2 c2 k2
  have F3 := fun_mk (st := sLay) l3 c3 k3
  have F4 := fun_mk (st := sThing) l4 c4 k4
  have F5 := fun_mk (st := sPutF) l5 c5 k5
  have F6 := fun_mk (st := sFAt) l6 c6 k6
  have F7 := fun_mk (st := sTold) l7 c7 k7
  have F8 := fun_mk (st := sAddr) l8 c8 k8
  have F9 := fun_mk (st := sRoom) l9 c9 k9
  have F10 := fun_mk (st := sMI) l10 c10 k10
  have F11 := fun_mk (st := sSize) l11 c11 k11
  have F12 := fun_mk (st := sAt) l12 c12 k12
  have F13 := fun_mk (st := sPut) l13 c13 k13
  have F14 := fun_mk (st := sCopy) l14 c14 k14
  have F15 := fun_mk (st := sLk) l15 c15 k15
  have F16 := fun_mk (st := sB0) l16 c16 k16
  have F17 := fun_mk (st := sB1) l17 c17 k17
  have F18 := fun_mk (st := sB2) l18 c18 k18
  have F19 := fun_mk (st := sB3) l19 c19 k19
  have F20 := fun_mk (st := sB4) l20 c20 k20
  have F21 := fun_mk (st := sB5) l21 c21 k21
  have F22 := fun_mk (st := sB6) l22 c22 k22
  have F23 := fun_mk (st := sB7) l23 c23 k23
  have F24 := fun_mk (st := sB8) l24 c24 k24
  have F25 := fun_mk (st := sCell) l25 c25 k25
  have F26 := fun_mk (st := sWords) l26 c26 k26
  have F27 := fun_mk (st := sLTold) l27 c27 k27
  have F28 := fun_mk (st := sLAlike) l28 c28 k28
  have F29 := fun_mk (st := sLaid) l29 c29 k29
  have F30 := fun_mk (st := sLAddr) l30 c30 k30
  have F31 := fun_mk (st := sOne) l31 c31 k31
  have F32 := fun_mk (st := sLaw) l32 c32 k32
  have b1 := F1.binds (ps := ["self", "text"]) fun _ _ _ _ _ _ us hl => match us, hl with | [_, _], _ => rfl
  have b2 := F2.binds (ps := ["value"]) fun _ _ _ _ _ _ us hl => match us, hl with | [_], _ => rfl
  have b3 := F3.binds (ps := ["memory", "a", "t", "values"]) fun _ _ _ _ _ _ us hl => match us, hl with | [_, _, _, _], _ => rfl
  have b4 := F4.binds (ps := ["memory", "a"]) fun _ _ _ _ _ _ us hl => match us, hl with | [_, _], _ => rfl
  have b5 := F5.binds (ps := ["memory", "a", "k", "word"]) fun _ _ _ _ _ _ us hl => match us, hl with | [_, _, _, _], _ => rfl
  have b6 := F6.binds (ps := ["memory", "a"]) fun _ _ _ _ _ _ us hl => match us, hl with | [_, _], _ => rfl
  have b7 := F7.binds (ps := ["memory", "a", "kinds"]) fun _ _ _ _ _ _ us hl => match us, hl with | [_, _, _], _ => rfl
  have b8 := F8.binds (ps := ["memory", "a", "k"]) fun _ _ _ _ _ _ us hl => match us, hl with | [_, _, _], _ => rfl
  have b9 := F9.binds (ps := ["memory", "a", "fields"]) fun _ _ _ _ _ _ us hl => match us, hl with | [_, _, _], _ => rfl
  have b10 := F10.binds (ps := ["self", "size"]) fun _ _ _ _ _ _ us hl => match us, hl with | [_, _], _ => rfl
  have b11 := F11.binds (ps := ["self"]) fun _ _ _ _ _ _ us hl => match us, hl with | [_], _ => rfl
  have b12 := F12.binds (ps := ["self", "a"]) fun _ _ _ _ _ _ us hl => match us, hl with | [_, _], _ => rfl
  have b13 := F13.binds (ps := ["self", "a", "word"]) fun _ _ _ _ _ _ us hl => match us, hl with | [_, _, _], _ => rfl
  have b14 := F14.binds (ps := ["self"]) fun _ _ _ _ _ _ us hl => match us, hl with | [_], _ => rfl
  have b15 := F15.binds (ps := ["self", "a"]) fun _ _ _ _ _ _ us hl => match us, hl with | [_, _], _ => rfl
  have b16 := F16.binds (ps := ["self", "many"]) fun _ _ _ _ _ _ us hl => match us, hl with | [_, _], _ => rfl
  have b17 := F17.binds (ps := ["self", "t", "values"]) fun _ _ _ _ _ _ us hl => match us, hl with | [_, _, _], _ => rfl
  have b18 := F18.binds (ps := ["self", "a"]) fun _ _ _ _ _ _ us hl => match us, hl with | [_, _], _ => rfl
  have b19 := F19.binds (ps := ["self", "a", "k", "word"]) fun _ _ _ _ _ _ us hl => match us, hl with | [_, _, _, _], _ => rfl
  have b20 := F20.binds (ps := ["self", "a"]) fun _ _ _ _ _ _ us hl => match us, hl with | [_, _], _ => rfl
  have b21 := F21.binds (ps := ["self"]) fun _ _ _ _ _ _ us hl => match us, hl with | [_], _ => rfl
  have b22 := F22.binds (ps := ["self"]) fun _ _ _ _ _ _ us hl => match us, hl with | [_], _ => rfl
  have b23 := F23.binds (ps := ["self"]) fun _ _ _ _ _ _ us hl => match us, hl with | [_], _ => rfl
  have b24 := F24.binds (ps := ["self", "a"]) fun _ _ _ _ _ _ us hl => match us, hl with | [_, _], _ => rfl
  have b25 := F25.binds (ps := ["script", "k"]) fun _ _ _ _ _ _ us hl => match us, hl with | [_, _], _ => rfl
  have b26 := F26.binds (ps := ["rows"]) fun _ _ _ _ _ _ us hl => match us, hl with | [_], _ => rfl
  have b27 := F27.binds (ps := ["boxes", "way", "a", "k", "word"]) fun _ _ _ _ _ _ us hl => match us, hl with | [_, _, _, _, _], _ => rfl
  have b28 := F28.binds (ps := ["boxes", "rows"]) fun _ _ _ _ _ _ us hl => match us, hl with | [_, _], _ => rfl
  have b29 := F29.binds (ps := ["boxes", "rows", "t", "cell"]) fun _ _ _ _ _ _ us hl => match us, hl with | [_, _, _, _], _ => rfl
  have b30 := F30.binds (ps := ["rows", "cell"]) fun _ _ _ _ _ _ us hl => match us, hl with | [_, _], _ => rfl
  have b31 := F31.binds (ps := ["boxes", "rows", "cell"]) fun _ _ _ _ _ _ us hl => match us, hl with | [_, _, _], _ => rfl
  refine ⟨PySem.W.fnOf "law" "law" (defArgs sLaw) (defBody sLaw) (defScope sLaw) .none kV32 dc32 pm32 an32 cd32 ct32, fun s v => .of_eq rfl, fun base _ _ => ?_⟩
  have GX := ok_xi (P := l.prog) (w := w) (mg := mg) (base := base) F1 T.z_ValueError
  have GKd := ok_kind (P := l.prog) (w := w) (mg := mg) (base := base) F2
  have GLk := ok_lk F15 T MM GX b1
  have GAt := ok_at F12 T MM GLk b15
  have GPt := ok_put F13 T MM GLk b15
  have GSz := ok_size (P := l.prog) (w := w) (mg := mg) (base := base) F11 T MM
  have GMI := ok_mi (P := l.prog) (w := w) (mg := mg) (base := base) F10 MM
  have GCp := ok_cp F14 T MM (m nCM) GMI b10
  have GRm := ok_room F9 T MM GX b1 GSz b11
  have GTo := ok_told F7 T MM GX b1 GAt b12 GKd (m a2) k2 b2 GRm (m a9) k9 b9
  have GFA := ok_fat F6 GTo (m a7) k7 b7
  have GAd := ok_addr F8 T GX b1 GFA (m a6) k6 b6
  have GTh := ok_thing F4 T MM GAt b12 GFA (m a6) k6 b6
  have GPF := ok_putf F5 MM GPt b13 GAd (m a8) k8 b8
  have GLy := ok_lay F3 T MM GPt b13 GRm (m a9) k9 b9
  have GLT := ok_lt (CM := CM) F24 T M GX b1
  have GLF := ok_lf F23 T MM M (m q_M) GX b1 GSz b11
  have GBL := ok_bl F17 T M GLF b23 GLy (m q_L) k3 b3
  have GBT := ok_bt F18 M GLT b24 GTh (m a4) k4 b4
  have GBP := ok_bp F19 M GLT b24 GPF (m a5) k5 b5
  have GBC := ok_bc F20 T MM M (m q_M) GLT b24 GPt b13
  have GBM := ok_bm F21 MM M GCp b14
  have GBF := ok_bf (CM := CM) (P := l.prog) (w := w) (mg := mg) (base := base) F22 T M
  have GBI := ok_bi F16 MM M (m q_M) (m nCM) GMI b10
  have GT : FnOk l.prog w K mg base (CXE l.prog w) 10 fTd _ ["boxes", "way", "a", "k", "word"] (spT CB CM) := (ok_t0 F27 T M GBL b17 GBT b18 GBP b19 GBC b20).or ((ok_t1 F27 T M GBL b17 GBT b18 GBP b19 GBC b20).or ((ok_t2 F27 T M GBL b17 GBT b18 GBP b19 GBC b20).or (ok_t3 F27 T M GBL b17 GBT b18 GBP b19 GBC b20)))
  have GWd := ok_words (P := l.prog) (w := w) (mg := mg) (base := base) F26 T
  have GAl := ok_al F28 T MM M GBF b22 GBM b21 GSz b11 GAt b12 GPt b13 GWd (m a26) k26 b26
  have GLd := ok_laid F29 T GT (m a27) k27 b27
  have GLa := ok_ad (P := l.prog) (w := w) (mg := mg) (base := base) F30 T
  have GOn := ok_one F31 T GT (m a27) k27 b27 GLa (m a30) k30 b30
  exact ok_law F32 T M (m nCB) GBI b16 (ok_cell F25 T) (m a25) k25 b25 GT (m a27) k27 b27 GAl (m a28) k28 b28 GLd (m a29) k29 b29 GOn (m a31) k31 b31
theorem walk {l : PySem.W.OpenLaw} {q : Program} {loose : List Str} {XP : (Str → Option Value) → Heap → Prop} {YP : World → Heap → Prop} {d : DefRec} {K : Params → PySem.W.Frag} (hn : l.most = some 63) (hdf : d.params.defaults = [])
    (hY : ∀ (w : World) (h : Heap), YP w h → (K w.params).In h)
    (F : ∀ (w : World) (mg : Str → Option Value) (fa : Addr) (h : Heap), (K w.params).In h → h.Ns mainGlobals mg → mg d.name = some (.ref fa) →
      ∃ fd : FuncData, (∀ (s : Shared) (u : Value), BindsTo s fd ⟨[u], []⟩ [("script", u)]) ∧ ∀ base : Heap, (K w.params).In base → base.Ns mainGlobals mg → FnOk l.prog w (K w.params) mg base (CXE l.prog w) 12 fa fd ["script"] (spLaw (K w.params))) :
    PySem.W.WalkO q loose XP YP l.row.toRowW d [] (fun f vs => PySem.call f vs) :=
  L2.walk_of (n := 63) (k := 12) (x := "script") (CX := fun w => CXE l.prog w) (sp := fun w => spLaw (K w.params)) hn (by decide) hdf ⟨rfl, by decide, by decide⟩ hY F (fun _ _ a ns hl _ hS => ⟨a, ns, rfl, hS, hl, fun _ => rfl⟩) fun _ _ _ _ _ z => noneE z
end K61
open PySem PySem.W PyProof.Rows
set_option maxRecDepth 100000 in
set_option maxHeartbeats 0 in
theorem PySem.Challenge.cw_stillheap_k61_boxes_holds : PySem.Challenge.rw_stillheap_k61_boxes.Holds := by
  w_on; o_law; k_head; (case hw => w_witness2)
  k_fill
  refine K61.walk (l := PySem.Challenge.rw_stillheap_k61_boxes) rfl rfl (fun w h Y => PySem.W.kIn_of Y) ?F
  case F =>
    intro w mg fa h KX G hmg
    refine' K61.all_mk KX G hmg ?nCH ?nd0 ?ndR ?nCM ?nCB ?xH ?x0 ?ga0 ?gt0 ?gc0 ?ii0 ?kc0 ?sb0 ?xR ?gaR ?gtR ?gcR ?iiR ?kcR ?sbR ?fi ?f0R ?fR0 ?cpgM ?chdM ?cpoM ?csaM ?cnM0 ?mmkM ?miiM ?mfnM ?mkpM ?cpgB ?chdB ?cpoB ?csaB ?cnB0 ?cnB1 ?mmkB ?miiB ?mfnB ?mkpB ?l1 ?c1 ?k1 ?a2 ?l2 ?c2 ?k2 ?a3 ?l3 ?c3 ?k3 ?a4 ?l4 ?c4 ?k4 ?a5 ?l5 ?c5 ?k5 ?a6 ?l6 ?c6 ?k6 ?a7 ?l7 ?c7 ?k7 ?a8 ?l8 ?c8 ?k8 ?a9 ?l9 ?c9 ?k9 ?l10 ?c10 ?k10 ?t11 ?u11 ?l11 ?c11 ?k11 ?t12 ?u12 ?l12 ?c12 ?k12 ?t13 ?u13 ?l13 ?c13 ?k13 ?t14 ?u14 ?l14 ?c14 ?k14 ?t15 ?u15 ?l15 ?c15 ?k15 ?l16 ?c16 ?k16 ?t17 ?u17 ?l17 ?c17 ?k17 ?t18 ?u18 ?l18 ?c18 ?k18 ?t19 ?u19 ?l19 ?c19 ?k19 ?t20 ?u20 ?l20 ?c20 ?k20 ?t21 ?u21 ?l21 ?c21 ?k21 ?t22 ?u22 ?l22 ?c22 ?k22 ?t23 ?u23 ?l23 ?c23 ?k23 ?t24 ?u24 ?l24 ?c24 ?k24 ?a25 ?l25 ?c25 ?k25 ?a26 ?l26 ?c26 ?k26 ?a27 ?l27 ?c27 ?k27 ?a28 ?l28 ?c28 ?k28 ?a29 ?l29 ?c29 ?k29 ?a30 ?l30 ?c30 ?k30 ?a31 ?l31 ?c31 ?k31 ?a32 ?l32 ?c32 ?k32 ?z_ValueError ?z_isinstance ?z_list ?z_bool ?z_int ?z_len ?z_range ?z_sorted ?z_enumerate ?q_M ?q_L
    (case nCH => k_is)
    (case nd0 => k_is)
    (case ndR => k_is)
    (case nCM => k_is)
    (case nCB => k_is)
    (case xH => kernel_rfl)
    (case x0 => kernel_rfl)
    (case ga0 => k_is)
    (case gt0 => k_is)
    (case gc0 => k_is)
    (case ii0 => k_is)
    (case kc0 => k_is)
    (case sb0 => k_is)
    (case xR => kernel_rfl)
    (case gaR => k_is)
    (case gtR => k_is)
    (case gcR => k_is)
    (case iiR => k_is)
    (case kcR => k_is)
    (case sbR => k_is)
    (case fi => k_is)
    (case f0R => kernel_rfl)
    (case fR0 => kernel_rfl)
    (case cpgM => k_is)
    (case chdM => k_is)
    (case cpoM => k_is)
    (case csaM => k_is)
    (case cnM0 => k_is)
    (case mmkM => k_is)
    (case miiM => k_is)
    (case mfnM => k_is)
    (case mkpM => k_is)
    (case cpgB => k_is)
    (case chdB => k_is)
    (case cpoB => k_is)
    (case csaB => k_is)
    (case cnB0 => k_is)
    (case cnB1 => k_is)
    (case mmkB => k_is)
    (case miiB => k_is)
    (case mfnB => k_is)
    (case mkpB => k_is)
    (case l1 => k_is)
    (case c1 => k_is)
    (case k1 => k_is)
    (case a2 => k_is)
    (case l2 => k_is)
    (case c2 => k_is)
    (case k2 => k_is)
    (case a3 => k_is)
    (case l3 => k_is)
    (case c3 => k_is)
    (case k3 => k_is)
    (case a4 => k_is)
    (case l4 => k_is)
    (case c4 => k_is)
    (case k4 => k_is)
    (case a5 => k_is)
    (case l5 => k_is)
    (case c5 => k_is)
    (case k5 => k_is)
    (case a6 => k_is)
    (case l6 => k_is)
    (case c6 => k_is)
    (case k6 => k_is)
    (case a7 => k_is)
    (case l7 => k_is)
    (case c7 => k_is)
    (case k7 => k_is)
    (case a8 => k_is)
    (case l8 => k_is)
    (case c8 => k_is)
    (case k8 => k_is)
    (case a9 => k_is)
    (case l9 => k_is)
    (case c9 => k_is)
    (case k9 => k_is)
    (case l10 => k_is)
    (case c10 => k_is)
    (case k10 => k_is)
    (case t11 => k_is)
    (case u11 => k_is)
    (case l11 => k_is)
    (case c11 => k_is)
    (case k11 => k_is)
    (case t12 => k_is)
    (case u12 => k_is)
    (case l12 => k_is)
    (case c12 => k_is)
    (case k12 => k_is)
    (case t13 => k_is)
    (case u13 => k_is)
    (case l13 => k_is)
    (case c13 => k_is)
    (case k13 => k_is)
    (case t14 => k_is)
    (case u14 => k_is)
    (case l14 => k_is)
    (case c14 => k_is)
    (case k14 => k_is)
    (case t15 => k_is)
    (case u15 => k_is)
    (case l15 => k_is)
    (case c15 => k_is)
    (case k15 => k_is)
    (case l16 => k_is)
    (case c16 => k_is)
    (case k16 => k_is)
    (case t17 => k_is)
    (case u17 => k_is)
    (case l17 => k_is)
    (case c17 => k_is)
    (case k17 => k_is)
    (case t18 => k_is)
    (case u18 => k_is)
    (case l18 => k_is)
    (case c18 => k_is)
    (case k18 => k_is)
    (case t19 => k_is)
    (case u19 => k_is)
    (case l19 => k_is)
    (case c19 => k_is)
    (case k19 => k_is)
    (case t20 => k_is)
    (case u20 => k_is)
    (case l20 => k_is)
    (case c20 => k_is)
    (case k20 => k_is)
    (case t21 => k_is)
    (case u21 => k_is)
    (case l21 => k_is)
    (case c21 => k_is)
    (case k21 => k_is)
    (case t22 => k_is)
    (case u22 => k_is)
    (case l22 => k_is)
    (case c22 => k_is)
    (case k22 => k_is)
    (case t23 => k_is)
    (case u23 => k_is)
    (case l23 => k_is)
    (case c23 => k_is)
    (case k23 => k_is)
    (case t24 => k_is)
    (case u24 => k_is)
    (case l24 => k_is)
    (case c24 => k_is)
    (case k24 => k_is)
    (case a25 => k_is)
    (case l25 => k_is)
    (case c25 => k_is)
    (case k25 => k_is)
    (case a26 => k_is)
    (case l26 => k_is)
    (case c26 => k_is)
    (case k26 => k_is)
    (case a27 => k_is)
    (case l27 => k_is)
    (case c27 => k_is)
    (case k27 => k_is)
    (case a28 => k_is)
    (case l28 => k_is)
    (case c28 => k_is)
    (case k28 => k_is)
    (case a29 => k_is)
    (case l29 => k_is)
    (case c29 => k_is)
    (case k29 => k_is)
    (case a30 => k_is)
    (case l30 => k_is)
    (case c30 => k_is)
    (case k30 => k_is)
    (case a31 => k_is)
    (case l31 => k_is)
    (case c31 => k_is)
    (case k31 => k_is)
    (case a32 => k_is)
    (case l32 => k_is)
    (case c32 => k_is)
    (case k32 => k_is)
    (case z_ValueError => k_is)
    (case z_isinstance => k_is)
    (case z_list => k_is)
    (case z_bool => k_is)
    (case z_int => k_is)
    (case z_len => k_is)
    (case z_range => k_is)
    (case z_sorted => k_is)
    (case z_enumerate => k_is)
    (case q_M => k_is)
    (case q_L => k_is)
#print axioms PySem.Challenge.cw_stillheap_k61_boxes_holds
end
