import PyProof.Rows.All
import Wide.All
import OpenK.AllK
import Wide.FinOn
import PyProof.EqAt
import PyProof.EqKinds
import PyProof.TupleCall
import OpenK.KCls
import PyProof.ExcClass2
import PyProof.ExcBaseAll.ValueError
import PyProof.ExcArgs
import PyProof.Rows.Exc
import KE.KIsAll
import PyProof.StationsW
import PyProof.EnumFor
import PyProof.EnumStmt
import PyProof.EnumMake
import PyProof.NeKinds
import PyProof.Rows.SumAny
import KE.KDictSum
import PyProof.Rows.SortWalk
import PyProof.Rows.Range3
import PySem.Challenge.RW_stillheap_k34_whole_deeds_in_memory
section
set_option Elab.async false
set_option linter.all false
set_option maxRecDepth 100000
/-! THE HAND LAYER, for ints, bools, texts, own classes, LISTS and tuples (index, slices, in, append, pop ..), calls, loops. Paste it whole ahead of your own text; what your proof does not reach may be deleted. -/
namespace L2
open PySem PySem.Spec PyProof.Rows

/-- a key: an int or a str -/
abbrev Key := Sum Int Str
def keyIs : Key → Value → Bool
  | .inl k, v => Value.isInt k v
  | .inr x, v => Value.isStrOf x v
def keyH (w : World) : Key → Int
  | .inl k => hashInt k
  | .inr x => hashStr w x
theorem keyIs_shape : ∀ {k : Key} {v : Value}, keyIs k v = true → (∃ i t, k = Sum.inl i ∧ v = Value.int i t) ∨ (∃ x t, k = Sum.inr x ∧ v = Value.str x t)
  | .inl i, v, h => by
    obtain ⟨t, e⟩ := Value.isInt_shape (k := i) (v := v) h
    exact .inl ⟨i, t, rfl, e⟩
  | .inr x, v, h => by
    obtain ⟨t, e⟩ := Value.isStrOf_shape (x := x) (v := v) h
    exact .inr ⟨x, t, rfl, e⟩
theorem key_ll (a b : Int) : decide ((Sum.inl a : Key) = Sum.inl b) = (a == b) := by
  by_cases e : a = b
  · subst e; simp
  · have h : ¬ (Sum.inl a : Key) = Sum.inl b := fun q => e (Sum.inl.inj q)
    rw [decide_eq_false h]
    exact (beq_eq_false_iff_ne.mpr e).symm
theorem key_rr (a b : Str) : decide ((Sum.inr a : Key) = Sum.inr b) = decide (a = b) := by
  by_cases e : a = b
  · subst e; simp
  · have h : ¬ (Sum.inr a : Key) = Sum.inr b := fun q => e (Sum.inr.inj q)
    rw [decide_eq_false h, decide_eq_false e]
theorem key_lr (a : Int) (b : Str) : decide ((Sum.inl a : Key) = Sum.inr b) = false := decide_eq_false (fun q => nomatch q)
theorem key_rl (a : Str) (b : Int) : decide ((Sum.inr a : Key) = Sum.inl b) = false := decide_eq_false (fun q => nomatch q)

def mixKind (prog : Program) (w : World) : PySem.KeyKind prog w Key where
  is := keyIs
  hash := keyH w
  inj := fun v a b ha hb => by
    rcases keyIs_shape ha with ⟨i, t, rfl, rfl⟩ | ⟨x, t, rfl, rfl⟩
    · rcases keyIs_shape hb with ⟨j, u, rfl, e⟩ | ⟨y, u, rfl, e⟩
      · injection e with e1 _; rw [e1]
      · exact nomatch e
    · rcases keyIs_shape hb with ⟨j, u, rfl, e⟩ | ⟨y, u, rfl, e⟩
      · exact nomatch e
      · injection e with e1 _; rw [e1]
  byValue := fun k v h => by
    rcases keyIs_shape h with ⟨i, t, rfl, rfl⟩ | ⟨x, t, rfl, rfl⟩ <;> rfl
  pyHash := fun hv h => by
    rcases keyIs_shape hv with ⟨i, t, rfl, rfl⟩ | ⟨x, t, rfl, rfl⟩
    · exact wpAny_pyHash_int h
    · exact wpAny_pyHash_str h
  eqBool := fun hu hv h => by
    rcases keyIs_shape hu with ⟨i, t, rfl, rfl⟩ | ⟨x, t, rfl, rfl⟩
    · rcases keyIs_shape hv with ⟨j, u, rfl, rfl⟩ | ⟨y, u, rfl, rfl⟩
      · rw [key_ll] at h; exact wpAny_eqBool_int h
      · rw [key_lr] at h; exact SeqAt.EqAt.int_str i t y u _ _ _ _ h
    · rcases keyIs_shape hv with ⟨j, u, rfl, rfl⟩ | ⟨y, u, rfl, rfl⟩
      · rw [key_rl] at h; exact SeqAt.EqAt.str_int x t j u _ _ _ _ h
      · rw [key_rr] at h; exact wpAny_eqBool_str h
  «strs» := fun k x t v h => by
    rcases keyIs_shape h with ⟨i, u, rfl, e⟩ | ⟨y, u, rfl, e⟩
    · exact nomatch e
    · injection e with e1 _
      subst e1
      cases v <;> rfl

end L2

namespace L2
open PySem PySem.Spec PyProof.Rows

/-- a value, without the heap -/
inductive V where
  | non | bl (b : Bool) | int (i : Int) | str (x : Str) | byt (b : Array UInt8) | flt (b : UInt64) | ref (a : Addr) | ty (n : String)
  deriving DecidableEq

def RelV : V → Value → Prop
  | .non, u => u = Value.none
  | .bl b, u => u = Value.bool b
  | .int i, u => ∃ t, u = Value.int i t
  | .str x, u => ∃ t, u = Value.str x t
  | .byt b, u => ∃ t, u = Value.bytes b t
  | .flt b, u => ∃ t, u = Value.float b t
  | .ref a, u => u = Value.ref a
  | .ty n, u => u = Value.type n

abbrev Vals : List V → List Value → Prop := Paired RelV
theorem Vals.length {xs : List V} {us : List Value} (r : Vals xs us) : xs.length = us.length := Paired.length r
theorem Vals.get : ∀ {xs : List V} {us : List Value} {i : Nat} {x : V}, Vals xs us → xs[i]? = some x → ∃ u, us[i]? = some u ∧ RelV x u
  | _, _, _, _, .nil, e => by simp at e
  | _, _, 0, _, .cons r _, e => by simp at e; subst e; exact ⟨_, rfl, r⟩
  | _, _, i + 1, x, .cons _ t, e => by
    obtain ⟨u, h1, h2⟩ := Vals.get (i := i) (x := x) t (by simpa using e)
    exact ⟨u, by simpa using h1, h2⟩
theorem Vals.set {x : V} {u : Value} (r : RelV x u) : ∀ {xs : List V} {us : List Value} (i : Nat), Vals xs us → Vals (xs.set i x) (us.set i u)
  | _, _, _, .nil => .nil
  | _, _, 0, .cons _ t => .cons r t
  | _, _, i + 1, .cons q t => .cons q (Vals.set r i t)
theorem Vals.append : ∀ {xs ys : List V} {us ws : List Value}, Vals xs us → Vals ys ws → Vals (xs ++ ys) (us ++ ws)
  | _, _, _, _, .nil, s => s
  | _, _, _, _, .cons r t, s => .cons r (Vals.append t s)
theorem Vals.take : ∀ {xs : List V} {us : List Value} (n : Nat), Vals xs us → Vals (xs.take n) (us.take n)
  | _, _, 0, _ => .nil
  | _, _, _ + 1, .nil => .nil
  | _, _, n + 1, .cons r t => .cons r (Vals.take n t)
theorem Vals.drop : ∀ {xs : List V} {us : List Value} (n : Nat), Vals xs us → Vals (xs.drop n) (us.drop n)
  | _, _, 0, r => r
  | _, _, _ + 1, .nil => .nil
  | _, _, n + 1, .cons _ t => Vals.drop n t

def RelO : Option V → Option Value → Prop
  | some v, some u => RelV v u
  | none, none => True
  | _, _ => False
def KV {κ : Type} : List (κ × V) → List (κ × Value) → Prop := Paired fun (p : κ × V) (q : κ × Value) => p.1 = q.1 ∧ RelV p.2 q.2

/-- a key of a dict (00_mix): an int or a text -/
def kV : Key → V
  | .inl i => .int i
  | .inr x => .str x

/-- what stands at a tracked address -/
inductive HO where
  /-- a list -/
  | lst (xs : List V)
  /-- a tuple (never changes) -/
  | tup (xs : List V)
  /-- a dict whose keys are ints and texts; one whose keys are tuples of ints and texts (the empty one is both) -/
  | dK (kvs : List (Key × V)) | dT (kvs : List (List Key × V))
  /-- a set of ints: its members, its size -/
  | set (S : Int → Bool) (n : Nat)
  /-- an instance of the class at C, its dict at dx, its attributes -/
  | ins (C dx : Addr) (fs : List (Str × V))
  /-- the dict of the instance at x -/
  | own (x : Addr)
  /-- the dict of an exception -/
  | xd (fs : List (Str × V))
  /-- a bound method, f of x -/
  | met (f x : Addr)
  /-- a range object lo, lo + 1, .. below hi -/
  | rng (lo hi : Int)
  /-- a thing that is known to the object (the script; a dict while a loop walks it): read, never written while it is so -/
  | frz (o : Obj) (u : HO)
  /-- a code object's table -/
  | tbl (ps : Array Value)
  /-- any other thing, by what is true of its one object (a def of one's own: SetO a S n := HO.ext fun h => ..) -/
  | ext (φ : Heap → Prop)

abbrev Hp := Addr → Option HO
def upd (H : Hp) (a : Addr) (o : HO) : Hp := fun b => if b = a then some o else H b
theorem upd_same {H : Hp} {a : Addr} {o : HO} : upd H a o a = some o := by unfold upd; rw [if_pos rfl]
theorem upd_ne {H : Hp} {a b : Addr} {o : HO} (h : b ≠ a) : upd H a o b = H b := by unfold upd; rw [if_neg h]
/-- two objects of different content stand apart -/
theorem ne_of {H : Hp} {a b : Addr} {o u : HO} (h : H a = some o) (h' : H b = some u) (d : o ≠ u) : a ≠ b := by
  intro e; subst e; rw [h] at h'; exact d (Option.some.inj h')
theorem ne_of_none {H : Hp} {a b : Addr} {o : HO} (h : H a = some o) (h' : H b = none) : a ≠ b := by
  intro e; subst e; rw [h] at h'; cases h'

section
variable (P : Program) (w : World)
def ObjOk (H : Hp) (h : Heap) (a : Addr) : HO → Prop
  | .lst xs => xs.length ≤ sizeLine ∧ ∃ (its : List Value) (n : Nat), Vals xs its ∧ h.get? a = some { cls := .type "list", data := .seq its.toArray n }
  | .tup xs => xs.length ≤ sizeLine ∧ ∃ its : List Value, Vals xs its ∧ IsTup h a its.toArray
  | .dK kvs => kvs.length ≤ sizeLine ∧ (a == sysModules) = false ∧ ∃ vs, KV kvs vs ∧ h.DictOf (mixKind P w) a vs
  | .dT kvs => kvs.length ≤ sizeLine ∧ (a == sysModules) = false ∧ ∃ xs : List (List Key × Addr × Value),
      Paired (fun (p : List Key × V) (q : List Key × Addr × Value) => p.1 = q.1 ∧ H q.2.1 = some (.tup (p.1.map kV)) ∧ RelV p.2 q.2.2) kvs xs ∧
      ∃ o es ep, h.get? a = some o ∧ o.ExactDict ∧ o.data = .dict es ep ∧ es.toList = xs.map (entryOfKey (tupleKind (mixKind P w))) ∧ (xs.map (·.1)).Nodup
  | .set S n => h.SetOf (intKind P w) a S n
  | .ins C dx fs => H dx = some (.own a) ∧ fs.length ≤ 1000 ∧ dx ≠ a ∧ h.get? a = some (PySem.W.instObj C dx) ∧
      ∃ mA, h.Ns1 dx mA ∧ (∀ f, RelO (fs.lookup f) (mA f)) ∧ PySem.Within mA (fs.map (·.1))
  | .own _ => ∃ o, h.get? a = some o
  | .xd fs => ∃ mA, h.Ns1 a mA ∧ ∀ f, RelO (fs.lookup f) (mA f)
  | .rng lo hi => ∃ t u v, h.get? a = some { cls := .type "range", data := .fields #[.int lo t, .int hi u, .int 1 v] }
  | .frz o u => h.get? a = some o ∧ ObjOk H h a u
  | .tbl ps => h.get? a = some { cls := .none, data := .fields ps }
  | .met f x => h.get? a = some (PySem.W.methodObj (.ref f) (.ref x))
  | .ext φ => φ h ∧ (∃ o, h.get? a = some o) ∧ ∀ h1 h2 : Heap, φ h1 → (∀ o, h1.get? a = some o → h2.get? a = some o) → φ h2
/-- the abstract heap is held -/
def HOk (H : Hp) (h : Heap) : Prop := ∀ a o, H a = some o → ObjOk P w H h a o
end

section
variable {P : Program} {w : World} {H H' : Hp} {h h' : Heap} {a : Addr} {o : HO}
theorem ObjOk.lt (x : ObjOk P w H h a o) : a < h.objs.size := by
  cases o with
  | lst xs => obtain ⟨_, _, _, _, e⟩ := x; exact Heap.lt_size e
  | tup xs => obtain ⟨_, _, _, p⟩ := x; exact p.lt
  | dK kvs => obtain ⟨_, _, _, _, o, _, _, e, _⟩ := x; exact Heap.lt_size e
  | dT kvs => obtain ⟨_, _, _, _, o, _, _, e, _⟩ := x; exact Heap.lt_size e
  | set S n => obtain ⟨o, _, _, _, e, _⟩ := x; exact Heap.lt_size e
  | ins C dx fs => obtain ⟨_, _, _, e, _⟩ := x; exact Heap.lt_size e
  | own y => obtain ⟨_, e⟩ := x; exact Heap.lt_size e
  | xd fs => obtain ⟨_, ⟨_, _, _, e, _⟩, _⟩ := x; exact Heap.lt_size e
  | rng lo hi => obtain ⟨_, _, _, e⟩ := x; exact Heap.lt_size e
  | frz ob u => obtain ⟨e, _⟩ := x; exact Heap.lt_size e
  | tbl ps => exact Heap.lt_size (show h.get? a = some _ from x)
  | met f y => exact Heap.lt_size (show h.get? a = some _ from x)
  | ext φ => obtain ⟨_, ⟨_, e⟩, _⟩ := x; exact Heap.lt_size e
theorem Paired.mapP {α β : Type} {F G : α → β → Prop} : ∀ {l₁ : List α} {l₂ : List β}, Paired F l₁ l₂ → (∀ a b, F a b → G a b) → Paired G l₁ l₂
  | _, _, .nil, _ => .nil
  | _, _, .cons r t, f => .cons (f _ _ r) (Paired.mapP t f)
/-- what an object's description leans on: its own object, its own dict, the tuples -/
theorem ObjOk.stay (x : ObjOk P w H h a o) (k : ∀ b u, (b = a ∨ H b = some (.own a)) → h.get? b = some u → h'.get? b = some u)
    (ho : ∀ b, H b = some (.own a) → H' b = some (.own a)) (ht : ∀ b xs, H b = some (.tup xs) → H' b = some (.tup xs)) : ObjOk P w H' h' a o := by
  induction o with
  | lst xs => obtain ⟨z, its, n, r, e⟩ := x; exact ⟨z, its, n, r, k _ _ (.inl rfl) e⟩
  | tup xs => obtain ⟨z, its, r, ob, e, c⟩ := x; exact ⟨z, its, r, ob, k _ _ (.inl rfl) e, c⟩
  | dK kvs => obtain ⟨z, y, vs, r, ob, es, ep, e, c⟩ := x; exact ⟨z, y, vs, r, ob, es, ep, k _ _ (.inl rfl) e, c⟩
  | dT kvs =>
    obtain ⟨z, y, xs, r, ob, es, ep, e, c⟩ := x
    exact ⟨z, y, xs, Paired.mapP r fun p q z => ⟨z.1, ht _ _ z.2.1, z.2.2⟩, ob, es, ep, k _ _ (.inl rfl) e, c⟩
  | set S n => obtain ⟨ob, es, ep, t, e, c⟩ := x; exact ⟨ob, es, ep, t, k _ _ (.inl rfl) e, c⟩
  | ins C dx fs =>
    obtain ⟨d, z, ne, e, mA, ⟨od, es, ep, e2, c⟩, r⟩ := x
    exact ⟨ho _ d, z, ne, k _ _ (.inl rfl) e, mA, ⟨od, es, ep, k _ _ (.inr d) e2, c⟩, r⟩
  | own y => obtain ⟨ob, e⟩ := x; exact ⟨ob, k _ _ (.inl rfl) e⟩
  | xd fs => obtain ⟨mA, ⟨od, es, ep, e, c⟩, r⟩ := x; exact ⟨mA, ⟨od, es, ep, k _ _ (.inl rfl) e, c⟩, r⟩
  | rng lo hi => obtain ⟨t, u, v, e⟩ := x; exact ⟨t, u, v, k _ _ (.inl rfl) e⟩
  | frz ob u ih => obtain ⟨e, q⟩ := x; exact ⟨k _ _ (.inl rfl) e, ih q⟩
  | tbl ps =>
    have e : h.get? a = some { cls := .none, data := .fields ps } := x
    show h'.get? a = some { cls := .none, data := .fields ps }
    exact k a _ (.inl rfl) e
  | met f y =>
    have e : h.get? a = some (PySem.W.methodObj (.ref f) (.ref y)) := x
    show h'.get? a = some (PySem.W.methodObj (.ref f) (.ref y))
    exact k a _ (.inl rfl) e
  | ext φ => obtain ⟨p, ⟨o, e⟩, st⟩ := x; exact ⟨st _ _ p fun o q => k _ _ (.inl rfl) q, ⟨o, k _ _ (.inl rfl) e⟩, st⟩
theorem HOk.lt (x : HOk P w H h) (e : H a = some o) : a < h.objs.size := (x a o e).lt
theorem HOk.fresh (x : HOk P w H h) (e : h.objs.size ≤ a) : H a = none := by
  cases q : H a with
  | none => rfl
  | some u => exact absurd (Nat.lt_of_lt_of_le (x.lt q) e) (Nat.lt_irrefl _)
/-- every object of the heap is kept -/
theorem HOk.kept (x : HOk P w H h) (k : ∀ b u, h.get? b = some u → h'.get? b = some u) : HOk P w H h' := fun a o e =>
  (x a o e).stay (fun b u _ q => k b u q) (fun _ q => q) fun _ _ q => q
/-- a new object is laid and tracked -/
theorem HOk.laid (x : HOk P w H h) (k : ∀ b u, h.get? b = some u → h'.get? b = some u) (hp : h.objs.size ≤ a) (new : ObjOk P w (upd H a o) h' a o) : HOk P w (upd H a o) h' := fun b u e => by
  have hn := x.fresh hp
  by_cases hb : b = a
  · subst hb; rw [upd_same] at e; cases e; exact new
  · rw [upd_ne hb] at e
    exact (x b u e).stay (fun c v _ q => k c v q) (fun c q => by rw [upd_ne (ne_of_none q hn)]; exact q) fun c xs q => by rw [upd_ne (ne_of_none q hn)]; exact q
end

/-- what may be read as u: it is u, or a known u -/
def Rd (H : Hp) (a : Addr) (u : HO) : Prop := H a = some u ∨ ∃ o, H a = some (.frz o u)
theorem Rd.ok {P : Program} {w : World} {H : Hp} {h : Heap} {a : Addr} {u : HO} (r : Rd H a u) (x : HOk P w H h) : ObjOk P w H h a u := by
  rcases r with r | ⟨o, r⟩
  · exact x a u r
  · obtain ⟨_, q⟩ := x a _ r
    exact q
/-- what may be written -/
def Mut : Option HO → Prop
  | some (.lst _) => True
  | some (.dK _) => True
  | some (.dT _) => True
  | some (.set _ _) => True
  | some (.ins _ _ _) => True
  | some (.ext _) => True
  | _ => False
section
variable {P : Program} {w : World} {H : Hp} {h h' : Heap} {x e : Addr} {o' : HO}
/-- the object at e is changed: x itself, or the dict of the instance x -/
theorem HOk.write (ok : HOk P w H h) (mu : Mut (H x)) (he : e = x ∨ H e = some (.own x)) (k : ∀ b u, b ≠ e → h.get? b = some u → h'.get? b = some u) (heo : ∃ u, h'.get? e = some u)
    (new : ObjOk P w (upd H x o') h' x o') : HOk P w (upd H x o') h' := fun b u q => by
  have nown : ∀ c y, H c = some (.own y) → c ≠ x := fun c y r z => by subst z; rw [r] at mu; exact mu
  have ntup : ∀ c xs, H c = some (.tup xs) → c ≠ x := fun c xs r z => by subst z; rw [r] at mu; exact mu
  by_cases hb : b = x
  · subst hb; rw [upd_same] at q; cases q; exact new
  · rw [upd_ne hb] at q
    by_cases hbe : b = e
    · have q' : H b = some (.own x) := by
        rcases he with z | z
        · exact absurd (hbe.trans z) hb
        · rw [hbe]; exact z
      rw [q] at q'; cases q'
      obtain ⟨v, hv⟩ := heo
      exact ⟨v, by rw [hbe]; exact hv⟩
    · refine (ok b u q).stay (fun c v hc r => k c v ?_ r) (fun c r => by rw [upd_ne (nown c b r)]; exact r) fun c xs r => by rw [upd_ne (ntup c xs r)]; exact r
      rcases hc with rfl | hc
      · exact hbe
      · rintro rfl
        rcases he with z | z
        · exact nown c b hc z
        · rw [hc] at z; cases z; exact hb rfl
end

/-! ### kept unless tracked; of the frames at fs (the callers') the slots may change (an exception that passes writes there); of the records at ex (iterators) nothing is said -/
structure Un (fs ex : List Addr) (H H' : Hp) (h h' : Heap) : Prop where
  keep : ∀ b o, h.get? b = some o → H b = none → b ∉ fs → b ∉ ex → h'.get? b = some o
  slot : ∀ b o, h.get? b = some o → H b = none → b ∈ fs → b ∉ ex → ∃ sl, h'.get? b = some { o with slots := sl }
  free : ∀ b o, h.get? b = some o → H b = none → b ∉ ex → H' b = none
  there : ∀ b o, h.get? b = some o → b ∉ ex → ∃ o', h'.get? b = some o'
  tups : ∀ b xs, H b = some (.tup xs) → H' b = some (.tup xs)
  frzs : ∀ b o u, H b = some (.frz o u) → H' b = some (.frz o u)
  tbls : ∀ b ps, H b = some (.tbl ps) → ∃ more, H' b = some (.tbl (ps ++ more))
section
variable {fs fs' ex ex' : List Addr} {H H1 H2 : Hp} {h h1 h2 h' : Heap} {a x e : Addr} {o : HO}
theorem Un.any (u : Un fs ex H H1 h h1) {b : Addr} {ob : Obj} (q : h.get? b = some ob) (n : H b = none) (hx : b ∉ ex) : ∃ sl, h1.get? b = some { ob with slots := sl } := by
  by_cases hb : b ∈ fs
  · exact u.slot b ob q n hb hx
  · exact ⟨ob.slots, u.keep b ob q n hb hx⟩
theorem Un.kept (k : ∀ b u, h.get? b = some u → h'.get? b = some u) : Un fs ex H H h h' :=
  ⟨fun b ob q _ _ _ => k b ob q, fun b ob q _ _ _ => ⟨ob.slots, k b ob q⟩, fun _ _ _ n _ => n, fun b ob q _ => ⟨ob, k b ob q⟩, fun _ _ q => q, fun _ _ _ q => q, fun _ ps q => ⟨#[], by rw [q]; simp⟩⟩
theorem Un.refl : Un fs ex H H h h := Un.kept fun _ _ q => q
theorem Un.laid (k : ∀ b u, h.get? b = some u → h'.get? b = some u) (hp : h.objs.size ≤ a) (hn : H a = none) : Un fs ex H (upd H a o) h h' where
  keep := fun b u q _ _ _ => k b u q
  slot := fun b u q _ _ _ => ⟨u.slots, k b u q⟩
  free := fun b u q n _ => by rw [upd_ne (Nat.ne_of_lt (Nat.lt_of_lt_of_le (Heap.lt_size q) hp))]; exact n
  there := fun b u q _ => ⟨u, k b u q⟩
  tups := fun b xs q => by rw [upd_ne (ne_of_none q hn)]; exact q
  frzs := fun b u xs q => by rw [upd_ne (ne_of_none q hn)]; exact q
  tbls := fun b ps q => ⟨#[], by rw [upd_ne (ne_of_none q hn), q]; simp⟩
theorem Un.write (mu : Mut (H x)) (he : e = x ∨ H e = some (.own x)) (k : ∀ b u, b ≠ e → h.get? b = some u → h'.get? b = some u) (heo : ∃ u, h'.get? e = some u) : Un fs ex H (upd H x o) h h' := by
  have hx : ∀ b, H b = none → b ≠ x := fun b n z => by subst z; rw [n] at mu; exact mu
  have hb : ∀ b, H b = none → b ≠ e := fun b n z => by
    subst z
    rcases he with r | r
    · exact hx b n r
    · rw [n] at r; cases r
  have hm : ∀ b u, H b = some u → ¬ Mut (some u) → b ≠ x := fun b u q nm z => by subst z; rw [q] at mu; exact nm mu
  refine ⟨fun b u q n _ _ => k b u (hb b n) q, fun b u q n _ _ => ⟨u.slots, k b u (hb b n) q⟩, fun b u q n _ => by rw [upd_ne (hx b n)]; exact n, fun b u q _ => ?_,
    fun b xs q => by rw [upd_ne (hm b _ q fun z => z)]; exact q, fun b u xs q => by rw [upd_ne (hm b _ q fun z => z)]; exact q, fun b ps q => ⟨#[], by rw [upd_ne (hm b _ q fun z => z), q]; simp⟩⟩
  by_cases hbe : b = e
  · subst hbe; exact heo
  · exact ⟨u, k b u hbe q⟩
end

/-! ### the heap without what is tracked -/
def trk (h : Heap) (H : Hp) : List Addr := (List.range h.objs.size).filter fun a => (H a).isSome
def hidT (h : Heap) (H : Hp) : Heap := PySem.W.hideAll h (trk h H)
theorem hidT_size (h : Heap) (H : Hp) : (hidT h H).objs.size = h.objs.size := PySem.W.hideAll_size _ _
theorem hidT_get {h : Heap} {H : Hp} {b : Addr} {o : Obj} (e : h.get? b = some o) (n : H b = none) : (hidT h H).get? b = some o :=
  PySem.W.hideAll_get _ e fun hm => by
    have q : (H b).isSome = true := (List.mem_filter.mp hm).2
    rw [n] at q; simp at q
theorem of_hidT {h : Heap} {H : Hp} {b : Addr} {o : Obj} (e : (hidT h H).get? b = some o) : h.get? b = some o ∧ H b = none := by
  have e' : h.get? b = some o := PySem.W.of_hideAll (trk h H) e
  refine ⟨e', ?_⟩
  cases q : H b with
  | none => rfl
  | some x =>
    have hm : b ∈ trk h H := List.mem_filter.mpr ⟨List.mem_range.mpr (Heap.lt_size e'), by simp [q]⟩
    have z : (hidT h H).get? b = none := PySem.W.hideAll_none (trk h H) hm
    rw [z] at e; cases e

/-! ### OpenK's ledger, filled with every new object but one -/
end L2

namespace L2
open PySem PySem.Spec PyProof.Rows

/-- the module's facts, over the base: the heap at the law's entry without what is tracked there -/
structure Mod (K : PySem.W.Frag) (mg : Str → Option Value) (base : Heap) : Prop where
  kin : K.In base
  glob : base.Ns mainGlobals mg
  blt : ∃ mb, base.Ns builtinsNs mb ∧ ∀ x : Str, x ≠ "__name__" → mb x = bootBuiltins x
  nolimit : base.NoLimit

/-- the context: a def's body (or a comprehension's block) running. base: fixed through the whole law; s₀, H₀: the entry; outer: the frames whose slots others may change (a def's callers); stack: all frames that run;
   ex: iterators that were made ahead of the entry and are walked here (a comprehension's); fn: the names whose cells were made at the entry (a def: all; a comprehension's block: its own); calm: not within an except suite; pn: pins that every state bears; xe: what is wanted of an exception that leaves the code -/
structure Cx where
  prog : Program
  w : World
  K : PySem.W.Frag
  mg : Str → Option Value
  base : Heap
  A : Around
  N : List Str
  s₀ : Shared
  H₀ : Hp
  env : Env
  outer : List Env
  stack : List Env
  ex : List Addr
  fn : Str → Bool
  calm : Bool
  pn : List (Addr × Obj)
  xe : Value → Shared → Prop
/-- the callers' frames -/
def frs (l : List Env) : List Addr := l.filterMap (·.frame)
abbrev Cx.fs (X : Cx) : List Addr := frs X.outer

def Vis (sc : Scope) (x : Str) : Prop := sc.names.lookup x = some .local ∨ sc.names.lookup x = some .cell ∨ sc.names.lookup x = some .free
def Loc (sc : Scope) (x : Str) : Prop := sc.names.lookup x = some .local ∨ sc.names.lookup x = some .cell
def Look (env : Env) (h : Heap) (m : Str → Option Value) (x : Str) (u : Value) : Prop :=
  (env.kindOf x = some .local ∧ m x = some u) ∨ ((env.kindOf x = some .cell ∨ env.kindOf x = some .free) ∧ ∃ c, env.cells.lookup x = some c ∧ h.IsCell c (some u))

structure Cx.Ok (X : Cx) : Prop where
  mod : Mod X.K X.mg X.base
  kind : X.env.scope.kind = .function
  glob : X.env.globals = mainGlobals
  blt : X.env.builtins = builtinsNs
  above : X.s₀.heap.objs.size ≤ X.env.locals
  inj : ∀ x y c, X.env.cells.lookup x = some c → X.env.cells.lookup y = some c → x = y
  has : ∀ x, (X.env.kindOf x = some .cell ∨ X.env.kindOf x = some .free) → ∃ c, X.env.cells.lookup x = some c
  cab : ∀ x c, X.fn x = true → X.env.cells.lookup x = some c → X.s₀.heap.objs.size ≤ c
  hd : X.calm = true → X.A.handled = none
  frames : X.A.frames = some X.stack
  stk : X.stack = X.outer ∨ (X.stack = X.env :: X.outer ∧ X.env.frame = some X.env.locals)
  exf : ∀ b ∈ X.ex, b ≠ X.env.locals ∧ ∀ x c, X.env.cells.lookup x = some c → c ≠ b
  bs : ∀ b o, X.base.get? b = some o → X.s₀.heap.get? b = some o ∧ X.H₀ b = none
  bsz : X.base.objs.size ≤ X.s₀.heap.objs.size
  noex : ∀ b o, X.base.get? b = some o → b ∉ X.ex
  exfs : ∀ b ∈ X.ex, b ∉ X.fs
  funs : X.s₀.heap.FunFrames X.base X.outer
  frf : ∀ b ∈ X.fs, X.H₀ b = none

structure Inv (X : Cx) (pins : List (Addr × Obj)) (σ : List (Option V)) (H : Hp) (s : Shared) : Prop where
  ok : X.Ok
  os : s.os = X.s₀.os
  bare : AllBare s.gens
  base : Un X.fs X.ex X.H₀ H X.s₀.heap s.heap
  loc : ∃ m, s.heap.Ns X.env.locals m ∧ ∀ (i : Nat) (x : Str) (v : V), X.N[i]? = some x → σ[i]? = some (some v) → Vis X.env.scope x → ∃ u, RelV v u ∧ Look X.env s.heap m x u
  cell : ∀ x c, X.env.cells.lookup x = some c → ∃ v, s.heap.IsCell c v
  free : H X.env.locals = none
  freeC : ∀ x c, X.env.cells.lookup x = some c → H c = none
  pin : ∀ p ∈ X.pn ++ pins, s.heap.get? p.1 = some p.2 ∧ H p.1 = none ∧ p.1 ≠ X.env.locals ∧ p.1 ∉ X.fs ∧ ∀ v, p.2.data ≠ .cell v
  hok : HOk X.prog X.w H s.heap
  len : σ.length = X.N.length

section
variable {X : Cx} {pins : List (Addr × Obj)} {σ : List (Option V)} {H H' : Hp} {s : Shared} {h' : Heap}

theorem Cx.Ok.nofr (ok : X.Ok) {b : Addr} {o : Obj} (e : X.base.get? b = some o) : b ∉ X.fs := fun hb => by
  have := (ok.funs.mem hb).1
  rw [e] at this; cases this
theorem Inv.bs (I : Inv X pins σ H s) : ∀ b o, X.base.get? b = some o → s.heap.get? b = some o ∧ H b = none := fun b o e =>
  ⟨I.base.keep b o (I.ok.bs b o e).1 (I.ok.bs b o e).2 (I.ok.nofr e) (I.ok.noex b o e), I.base.free b o (I.ok.bs b o e).1 (I.ok.bs b o e).2 (I.ok.noex b o e)⟩
theorem Inv.bk (I : Inv X pins σ H s) : ∀ b o, X.base.get? b = some o → s.heap.get? b = some o := fun b o e => (I.bs b o e).1
theorem Inv.mod (I : Inv X pins σ H s) : Mod X.K X.mg X.base := I.ok.mod
theorem Inv.kIn (I : Inv X pins σ H s) : X.K.In s.heap := I.ok.mod.kin.keeps I.bk
theorem Inv.lt (I : Inv X pins σ H s) : X.env.locals < s.heap.objs.size := let ⟨_, hn, _⟩ := I.loc; hn.lt
theorem Inv.sz (I : Inv X pins σ H s) : X.s₀.heap.objs.size ≤ s.heap.objs.size := Nat.le_trans I.ok.above (Nat.le_of_lt I.lt)
theorem Inv.nofs (I : Inv X pins σ H s) {a : Addr} (h : s.heap.objs.size ≤ a) : a ∉ X.fs := fun hb => by
  obtain ⟨_, o, ho, _⟩ := I.ok.funs.mem hb
  exact absurd (Nat.lt_of_lt_of_le (Heap.lt_size ho) (Nat.le_trans I.sz h)) (Nat.lt_irrefl _)
theorem Inv.cne (I : Inv X pins σ H s) : ∀ x c, X.env.cells.lookup x = some c → c ≠ X.env.locals := fun x c e z => by
  obtain ⟨v, o, ho, hd⟩ := I.cell x c e
  obtain ⟨m, ⟨o', es, ep, ho', hd', _⟩, _⟩ := I.loc
  rw [z, ho'] at ho; cases ho; rw [hd'] at hd; cases hd
theorem Inv.funs (I : Inv X pins σ H s) : s.heap.FunFrames X.base X.outer := by
  have all : ∀ (l : List Env), (∀ b ∈ frs l, b ∈ X.fs) → X.s₀.heap.FunFrames X.base l → s.heap.FunFrames X.base l := by
    intro l
    induction l with
    | nil => intro _ _; trivial
    | cons env r ih =>
      intro hs hl
      obtain ⟨hk, ⟨L, o, hf, hn, ho, hd⟩, hr⟩ := hl
      have hL : L ∈ X.fs := hs L (by unfold frs; rw [List.filterMap_cons, hf]; exact List.mem_cons_self)
      obtain ⟨sl, e⟩ := I.base.slot L o ho (I.ok.frf L hL) hL fun z => I.ok.exfs L z hL
      exact ⟨hk, ⟨L, _, hf, hn, e, hd⟩, ih (fun b hb => hs b (by unfold frs; rw [List.filterMap_cons, hf]; exact List.mem_cons_of_mem _ hb)) hr⟩
  exact all X.outer (fun _ hb => hb) I.ok.funs

/-- the frames that run, for a call -/
theorem Inv.stack (I : Inv X pins σ H s) : s.heap.FunFrames X.base X.stack := by
  rcases I.ok.stk with e | ⟨e, hf⟩
  · rw [e]; exact I.funs
  · rw [e]
    obtain ⟨m, hn, _⟩ := I.loc
    refine .cons (by rw [I.ok.kind]; decide) hf hn ?_ I.funs
    exact Heap.get?_none_of_le (Nat.le_trans I.ok.bsz I.ok.above)
theorem Inv.stkSub (I : Inv X pins σ H s) : ∀ b ∈ frs X.stack, b ∈ X.env.locals :: X.fs := fun b hb => by
  rcases I.ok.stk with e | ⟨e, hf⟩
  · rw [e] at hb; exact List.mem_cons_of_mem _ hb
  · rw [e] at hb
    unfold frs at hb
    rw [List.filterMap_cons, hf] at hb
    exact hb
theorem Inv.stkFree (I : Inv X pins σ H s) : ∀ b ∈ frs X.stack, H b = none := fun b hb => by
  rcases List.mem_cons.mp (I.stkSub b hb) with e | hb
  · rw [e]; exact I.free
  · obtain ⟨_, o, ho, _⟩ := I.ok.funs.mem hb
    exact I.base.free b o ho (I.ok.frf b hb) fun z => I.ok.exfs b z hb

/-- THE STEP: the untracked objects but the frame and the records at ch are kept (the callers' frames up to slots), the frame's map is kept, the new abstract heap is held -/
theorem Inv.step {g' : Array GenState} {t' : Nat} {d' : Drawn} {ch : List Addr} (I : Inv X pins σ H s)
    (hch : ∀ b ∈ ch, (b ∈ X.ex ∨ X.s₀.heap.objs.size ≤ b) ∧ b ≠ X.env.locals ∧ (∀ x c, X.env.cells.lookup x = some c → c ≠ b) ∧ ∀ p ∈ X.pn ++ pins, p.1 ≠ b)
    (keep : ∀ b o, b ≠ X.env.locals → b ∉ X.fs → b ∉ ch → s.heap.get? b = some o → H b = none → h'.get? b = some o)
    (slot : ∀ b o, b ≠ X.env.locals → b ∈ X.fs → b ∉ ch → s.heap.get? b = some o → H b = none → ∃ sl, h'.get? b = some { o with slots := sl }) (free : ∀ b o, b ∉ ch → s.heap.get? b = some o → H b = none → H' b = none)
    (there : ∀ b o, b ∉ ch → s.heap.get? b = some o → ∃ o', h'.get? b = some o')
    (tups : ∀ b xs, H b = some (.tup xs) → H' b = some (.tup xs)) (frzs : ∀ b o u, H b = some (.frz o u) → H' b = some (.frz o u)) (tbls : ∀ b ps, H b = some (.tbl ps) → ∃ more, H' b = some (.tbl (ps ++ more)))
    (ns : ∀ m, s.heap.Ns X.env.locals m → h'.Ns X.env.locals m) (hok : HOk X.prog X.w H' h') (hg : AllBare g') :
    Inv X pins σ H' { s with heap := h', gens := g', drawn := d', toks := t' } := by
  have neL : ∀ b o, X.s₀.heap.get? b = some o → b ≠ X.env.locals := fun b o e => Nat.ne_of_lt (Nat.lt_of_lt_of_le (Heap.lt_size e) I.ok.above)
  have neC : ∀ b o, X.s₀.heap.get? b = some o → b ∉ X.ex → b ∉ ch := fun b o e hx hb => by
    rcases (hch b hb).1 with z | z
    · exact hx z
    · exact absurd (Nat.lt_of_lt_of_le (Heap.lt_size e) z) (Nat.lt_irrefl _)
  have cellK : ∀ x c, X.env.cells.lookup x = some c → ∀ v, s.heap.IsCell c v → h'.IsCell c v := fun x c e v ⟨o, ho, hd⟩ => by
    have nch : c ∉ ch := fun z => (hch c z).2.2.1 x c e rfl
    by_cases hc : c ∈ X.fs
    · obtain ⟨sl, q⟩ := slot c o (I.cne x c e) hc nch ho (I.freeC x c e)
      exact ⟨_, q, hd⟩
    · exact ⟨o, keep c o (I.cne x c e) hc nch ho (I.freeC x c e), hd⟩
  refine ⟨I.ok, I.os, hg, ⟨fun b o e n hb hx => ?_, fun b o e n hb hx => ?_, fun b o e n hx => ?_, fun b o e hx => ?_, fun b xs e => tups b xs (I.base.tups b xs e), fun b o xs e => frzs b o xs (I.base.frzs b o xs e), fun b ps e => ?_⟩, ?_, fun x c e => ?_, ?_, fun x c e => ?_, fun p hp => ?_, hok, I.len⟩
  · exact keep b o (neL b o e) hb (neC b o e hx) (I.base.keep b o e n hb hx) (I.base.free b o e n hx)
  · obtain ⟨sl, e1⟩ := I.base.slot b o e n hb hx
    obtain ⟨sl', e2⟩ := slot b _ (neL b o e) hb (neC b o e hx) e1 (I.base.free b o e n hx)
    exact ⟨sl', e2⟩
  · obtain ⟨o', e1⟩ := I.base.there b o e hx
    exact free b o' (neC b o e hx) e1 (I.base.free b o e n hx)
  · obtain ⟨o', e1⟩ := I.base.there b o e hx
    exact there b o' (neC b o e hx) e1
  · obtain ⟨m1, e1⟩ := I.base.tbls b ps e
    obtain ⟨m2, e2⟩ := tbls b _ e1
    exact ⟨m1 ++ m2, by rw [e2, Array.append_assoc]⟩
  · obtain ⟨m, hn, hl⟩ := I.loc
    refine ⟨m, ns m hn, fun i x v e1 e2 e3 => ?_⟩
    obtain ⟨u, r, l⟩ := hl i x v e1 e2 e3
    refine ⟨u, r, ?_⟩
    rcases l with l | ⟨k, c, e, z⟩
    · exact .inl l
    · exact .inr ⟨k, c, e, cellK x c e _ z⟩
  · obtain ⟨v, z⟩ := I.cell x c e
    exact ⟨v, cellK x c e v z⟩
  · obtain ⟨m, ⟨o, _, _, ho, _⟩, _⟩ := I.loc
    exact free _ o (fun z => (hch _ z).2.1 rfl) ho I.free
  · obtain ⟨v, o, ho, hd⟩ := I.cell x c e
    exact free c o (fun z => (hch c z).2.2.1 x c e rfl) ho (I.freeC x c e)
  · obtain ⟨e, n, ne, nf, d⟩ := I.pin p hp
    have nch : p.1 ∉ ch := fun z => (hch p.1 z).2.2.2 p hp rfl
    exact ⟨keep p.1 p.2 ne nf nch e n, free p.1 p.2 nch e n, ne, nf, d⟩
/-- .. where the frame's own object is kept too -/
theorem Inv.un {t' : Nat} (I : Inv X pins σ H s) (u : Un X.fs [] H H' s.heap h') (hok : HOk X.prog X.w H' h') : Inv X pins σ H' { s with heap := h', toks := t' } := by
  obtain ⟨m, ⟨o, es, ep, ho, r⟩, _⟩ := id I.loc
  obtain ⟨sl, hL⟩ := u.any ho I.free (by simp)
  exact I.step (g' := s.gens) (d' := s.drawn) (ch := []) (fun _ z => nomatch z) (fun b o _ hb _ e n => u.keep b o e n hb (by simp)) (fun b o _ hb _ e n => u.slot b o e n hb (by simp)) (fun b o _ e n => u.free b o e n (by simp)) (fun b o _ e => u.there b o e (by simp)) u.tups u.frzs u.tbls (fun m' hm => by
    obtain ⟨o', es', ep', ho', r'⟩ := hm
    rw [ho] at ho'; cases ho'
    exact ⟨_, es', ep', hL, r'⟩) hok I.bare
/-- behind a call (or a comprehension's block): the slots of this frame may have changed too, the records at ch may have turned -/
theorem Inv.call {g' : Array GenState} {t' : Nat} {d' : Drawn} {ch : List Addr} (I : Inv X pins σ H s) (u : Un (frs X.stack) ch H H' s.heap h') (hok : HOk X.prog X.w H' h') (hg : AllBare g')
    (hch : ∀ b ∈ ch, (b ∈ X.ex ∨ X.s₀.heap.objs.size ≤ b) ∧ b ≠ X.env.locals ∧ (∀ x c, X.env.cells.lookup x = some c → c ≠ b) ∧ ∀ p ∈ X.pn ++ pins, p.1 ≠ b) :
    Inv X pins σ H' { s with heap := h', gens := g', drawn := d', toks := t' } := by
  obtain ⟨m, ⟨o, es, ep, ho, r⟩, _⟩ := id I.loc
  obtain ⟨sl, hL⟩ := u.any ho I.free fun z => (hch _ z).2.1 rfl
  exact I.step (ch := ch) hch (fun b o hL hb hc e n => u.keep b o e n (fun z => (List.mem_cons.mp (I.stkSub b z)).elim hL hb) hc) (fun b o _ _ hc e n => u.any e n hc) (fun b o hc e n => u.free b o e n hc) (fun b o hc e => u.there b o e hc) u.tups u.frzs u.tbls (fun m' hm => by
    obtain ⟨o', es', ep', ho', r'⟩ := hm
    rw [ho] at ho'; cases ho'
    exact ⟨_, es', ep', hL, r'⟩) hok hg
/-- an untracked record of ours (an iterator) has turned -/
theorem Inv.turned {t' : Nat} {it : Addr} (I : Inv X pins σ H s) (k : ∀ b o, b ≠ it → s.heap.get? b = some o → h'.get? b = some o) (hn : H it = none) (hL : it ≠ X.env.locals)
    (h1 : it ∈ X.ex ∨ X.s₀.heap.objs.size ≤ it) (h2 : ∀ x c, X.env.cells.lookup x = some c → c ≠ it) (h3 : ∀ p ∈ X.pn ++ pins, p.1 ≠ it) : Inv X pins σ H { s with heap := h', toks := t' } := by
  have nit : ∀ b u, H b = some u → b ≠ it := fun b u e z => by rw [z, hn] at e; cases e
  refine I.step (g' := s.gens) (d' := s.drawn) (ch := [it]) (fun b hb => ?_) (fun b o _ _ hc e _ => k b o (fun z => hc (by simp [z])) e) (fun b o _ _ hc e _ => ⟨o.slots, k b o (fun z => hc (by simp [z])) e⟩) (fun _ _ _ _ n => n)
    (fun b o hc e => ⟨o, k b o (fun z => hc (by simp [z])) e⟩) (fun _ _ e => e) (fun _ _ _ e => e) (fun b ps e => ⟨#[], by rw [e]; simp⟩) (fun m hm => ?_) (fun b u e => ?_) I.bare
  · have e : b = it := by simpa using hb
    subst e
    exact ⟨h1, hL, h2, h3⟩
  · obtain ⟨o, es, ep, ho, r⟩ := hm
    exact ⟨o, es, ep, k _ o (Ne.symm hL) ho, r⟩
  · refine (I.hok b u e).stay (fun c v hc q => k c v ?_ q) (fun _ q => q) fun _ _ q => q
    rcases hc with z | z
    · rw [z]; exact nit b u e
    · exact nit c _ z
theorem Inv.tok (I : Inv X pins σ H s) (t : Nat) : Inv X pins σ H { s with toks := t } := I.un (h' := s.heap) (t' := t) Un.refl I.hok
/-- all objects kept -/
theorem Inv.kept {t' : Nat} (I : Inv X pins σ H s) (k : ∀ b u, s.heap.get? b = some u → h'.get? b = some u) : Inv X pins σ H { s with heap := h', toks := t' } := I.un (Un.kept k) (I.hok.kept k)
/-- a new object laid and tracked -/
theorem Inv.laid {a : Addr} {o : HO} {t' : Nat} (I : Inv X pins σ H s) (k : ∀ b u, s.heap.get? b = some u → h'.get? b = some u) (hp : s.heap.objs.size ≤ a) (new : ObjOk X.prog X.w (upd H a o) h' a o) :
    Inv X pins σ (upd H a o) { s with heap := h', toks := t' } := I.un (Un.laid k hp (I.hok.fresh hp)) (I.hok.laid k hp new)
/-- an object written -/
theorem Inv.write {x e : Addr} {o : HO} {t' : Nat} (I : Inv X pins σ H s) (mu : Mut (H x)) (he : e = x ∨ H e = some (.own x)) (k : ∀ b u, b ≠ e → s.heap.get? b = some u → h'.get? b = some u) (heo : ∃ u, h'.get? e = some u)
    (new : ObjOk X.prog X.w (upd H x o) h' x o) : Inv X pins σ (upd H x o) { s with heap := h', toks := t' } := I.un (Un.write mu he k heo) (I.hok.write mu he k heo new)
theorem Inv.pins_of {pins' : List (Addr × Obj)} (I : Inv X pins σ H s) (h : ∀ p ∈ pins', s.heap.get? p.1 = some p.2 ∧ H p.1 = none ∧ p.1 ≠ X.env.locals ∧ p.1 ∉ X.fs ∧ ∀ v, p.2.data ≠ .cell v) : Inv X pins' σ H s :=
  ⟨I.ok, I.os, I.bare, I.base, I.loc, I.cell, I.free, I.freeC, fun p hp => (List.mem_append.mp hp).elim (fun z => I.pin p (List.mem_append_left _ z)) (h p), I.hok, I.len⟩

theorem nodup_ix {N : List Str} (hN : N.Nodup) {i j : Nat} {x : Str} (a : N[i]? = some x) (b : N[j]? = some x) : i = j := by
  obtain ⟨h1, e1⟩ := List.getElem?_eq_some_iff.mp a
  obtain ⟨h2, e2⟩ := List.getElem?_eq_some_iff.mp b
  exact (List.getElem_inj hN).mp (e1.trans e2.symm)

/-- a name is stored; what changed -/
theorem store_ok2 {M : Model} {A : Around} {E : Value → Shared → Prop} {i : Nat} {x : Str} {v : V} {u : Value} {Q : Unit → Shared → Prop} (I : Inv X pins σ H s) (hN : X.N.Nodup) (hi : X.N[i]? = some x) (hx : Loc X.env.scope x) (r : RelV v u)
    (h : ∀ s', Inv X pins (σ.set i (some v)) H s' → (∃ a, Heap.SameBut a s.heap s'.heap ∧ (a = X.env.locals ∨ X.env.cells.lookup x = some a)) → Q () s') (hf : X.fn x = true ∨ X.env.scope.names.lookup x = some .local := by first | exact .inl rfl | exact .inr rfl | assumption) : wpAny M A (storeName X.env x u) Q E s := by
  obtain ⟨m, hn, hl⟩ := id I.loc
  have hcls : (X.env.scope.kind == .class || (X.env.scope.kind == .module && X.env.locals != X.env.globals)) = false := by rw [I.ok.kind]; rfl
  have hiσ : i < σ.length := by rw [I.len]; exact (List.getElem?_eq_some_iff.mp hi).1
  have cne := I.cne
  have tracked : ∀ {a : Addr} {h' : Heap}, (∃ o, s.heap.get? a = some o ∧ H a = none) → Heap.SameBut a s.heap h' → HOk X.prog X.w H h' := fun {a h'} ha hs b ob e => by
    obtain ⟨_, _, hfree⟩ := ha
    refine (I.hok b ob e).stay (fun c w' hc q => (hs.2 c ?_).trans q) (fun _ q => q) fun _ _ q => q
    rintro rfl
    rcases hc with rfl | hc
    · rw [hfree] at e; cases e
    · rw [hfree] at hc; cases hc
  rcases hx with hk | hk
  · refine wpAny_storeName_local hk hn (fun h' hn' hs => ?_) hcls
    obtain ⟨oL, _, _, hoL, _⟩ := id hn
    refine h _ ⟨I.ok, I.os, I.bare, ⟨fun b o e n hb hx => ?_, fun b o e n hb hx => ?_, I.base.free, fun b o e hx => ?_, I.base.tups, I.base.frzs, I.base.tbls⟩, ⟨_, hn', fun j y v' e1 e2 e3 => ?_⟩, fun y c e => ?_, I.free, I.freeC, fun p hp => ?_, tracked ⟨oL, hoL, I.free⟩ hs, by simpa using I.len⟩ ⟨_, hs, .inl rfl⟩
    · exact (hs.2 b (Nat.ne_of_lt (Nat.lt_of_lt_of_le (Heap.lt_size e) I.ok.above))).trans (I.base.keep b o e n hb hx)
    · obtain ⟨sl, e1⟩ := I.base.slot b o e n hb hx
      exact ⟨sl, (hs.2 b (Nat.ne_of_lt (Nat.lt_of_lt_of_le (Heap.lt_size e) I.ok.above))).trans e1⟩
    · obtain ⟨o', e1⟩ := I.base.there b o e hx
      exact ⟨o', (hs.2 b (Nat.ne_of_lt (Nat.lt_of_lt_of_le (Heap.lt_size e) I.ok.above))).trans e1⟩
    · by_cases hj : j = i
      · subst hj
        rw [hi] at e1; cases e1
        rw [List.getElem?_set_self hiσ] at e2
        cases e2
        exact ⟨u, r, .inl ⟨hk, by simp⟩⟩
      · rw [List.getElem?_set_ne (Ne.symm hj)] at e2
        obtain ⟨u', r', q⟩ := hl j y v' e1 e2 e3
        refine ⟨u', r', ?_⟩
        rcases q with ⟨k, e⟩ | ⟨k, c, e, z⟩
        · refine .inl ⟨k, ?_⟩
          have : y ≠ x := fun e => hj (nodup_ix hN e1 (e ▸ hi))
          simp [this, e]
        · exact .inr ⟨k, c, e, z.sameBut hs (cne y c e)⟩
    · obtain ⟨w', z⟩ := I.cell y c e
      exact ⟨w', z.sameBut hs (cne y c e)⟩
    · obtain ⟨e, n, ne, nf, d⟩ := I.pin p hp
      exact ⟨(hs.2 p.1 ne).trans e, n, ne, nf, d⟩
  · have hfn : X.fn x = true := by
      rcases hf with z | z
      · exact z
      · rw [z] at hk; cases hk
    obtain ⟨c, hc⟩ := I.ok.has x (.inl hk)
    obtain ⟨w', z⟩ := I.cell x c hc
    refine wpAny_storeName_cell I.ok.kind hk hc z (fun h' hc' hs => ?_)
    obtain ⟨oc, hoc, hocd⟩ := id z
    refine h { s with heap := h' } ⟨I.ok, I.os, I.bare, ⟨fun b o e n hb hx => ?_, fun b o e n hb hx => ?_, I.base.free, fun b o e hx => ?_, I.base.tups, I.base.frzs, I.base.tbls⟩, ⟨m, hn.sameBut hs (Ne.symm (cne x c hc)), fun j y v' e1 e2 e3 => ?_⟩, fun y c' e => ?_, I.free, I.freeC, fun p hp => ?_, tracked ⟨oc, hoc, I.freeC x c hc⟩ hs, by simpa using I.len⟩ ⟨c, hs, .inr hc⟩
    · exact (hs.2 b (Nat.ne_of_lt (Nat.lt_of_lt_of_le (Heap.lt_size e) (I.ok.cab x c hfn hc)))).trans (I.base.keep b o e n hb hx)
    · obtain ⟨sl, e1⟩ := I.base.slot b o e n hb hx
      exact ⟨sl, (hs.2 b (Nat.ne_of_lt (Nat.lt_of_lt_of_le (Heap.lt_size e) (I.ok.cab x c hfn hc)))).trans e1⟩
    · obtain ⟨o', e1⟩ := I.base.there b o e hx
      exact ⟨o', (hs.2 b (Nat.ne_of_lt (Nat.lt_of_lt_of_le (Heap.lt_size e) (I.ok.cab x c hfn hc)))).trans e1⟩
    · by_cases hj : j = i
      · subst hj
        rw [hi] at e1; cases e1
        rw [List.getElem?_set_self hiσ] at e2
        cases e2
        exact ⟨u, r, .inr ⟨.inl hk, c, hc, hc'⟩⟩
      · rw [List.getElem?_set_ne (Ne.symm hj)] at e2
        obtain ⟨u', r', q⟩ := hl j y v' e1 e2 e3
        refine ⟨u', r', ?_⟩
        rcases q with q | ⟨k, c', e, z'⟩
        · exact .inl q
        · refine .inr ⟨k, c', e, z'.sameBut hs ?_⟩
          rintro rfl
          exact hj (nodup_ix hN e1 (I.ok.inj _ _ _ e hc ▸ hi))
    · by_cases hcc : c' = c
      · subst hcc; exact ⟨_, hc'⟩
      · obtain ⟨w2, z2⟩ := I.cell y c' e
        exact ⟨w2, z2.sameBut hs hcc⟩
    · obtain ⟨e, n, ne, nf, d⟩ := I.pin p hp
      refine ⟨(hs.2 p.1 ?_).trans e, n, ne, nf, d⟩
      intro q
      rw [q, hoc] at e
      have q' : oc = p.2 := Option.some.inj e
      exact d w' (by rw [← q']; exact hocd)
theorem store_ok {M : Model} {A : Around} {E : Value → Shared → Prop} {i : Nat} {x : Str} {v : V} {u : Value} {Q : Unit → Shared → Prop} (I : Inv X pins σ H s) (hN : X.N.Nodup) (hi : X.N[i]? = some x) (hx : Loc X.env.scope x) (r : RelV v u)
    (h : ∀ s', Inv X pins (σ.set i (some v)) H s' → Q () s') (hf : X.fn x = true ∨ X.env.scope.names.lookup x = some .local := by first | exact .inl rfl | exact .inr rfl | assumption) : wpAny M A (storeName X.env x u) Q E s :=
  store_ok2 I hN hi hx r (fun s' I' _ => h s' I') hf
/-- behind a call or a block, the state as it is -/
theorem Inv.call' {s' : Shared} {ch : List Addr} (I : Inv X pins σ H s) (ho : s'.os = s.os) (u : Un (frs X.stack) ch H H' s.heap s'.heap) (hok : HOk X.prog X.w H' s'.heap) (hg : AllBare s'.gens)
    (hch : ∀ b ∈ ch, (b ∈ X.ex ∨ X.s₀.heap.objs.size ≤ b) ∧ b ≠ X.env.locals ∧ (∀ x c, X.env.cells.lookup x = some c → c ≠ b) ∧ ∀ p ∈ X.pn ++ pins, p.1 ≠ b) : Inv X pins σ H' s' := by
  obtain ⟨h', g', d', t', o'⟩ := s'
  have e : o' = s.os := ho
  subst e
  exact I.call (g' := g') (t' := t') (d' := d') u hok hg hch
end

/-! ### the judgements -/
/-- an exception: its class, its own dict's address (where it has one), the abstract heap behind it -/
abbrev XK := Value → Option Addr → Hp → Prop
abbrev St := List (Option V)
abbrev VK := V → Hp → Prop
/-- an expression's reading; a test's; an argument list's -/
abbrev TE := St → Hp → VK → Prop
abbrev TT := St → Hp → (Bool → Hp → Prop) → Prop
abbrev TA := St → Hp → (List V → Hp → Prop) → Prop
/-- what is wanted behind a statement -/
structure Ends where
  nx : St → Hp → Prop
  rt : VK
  bk : St → Hp → Prop := fun _ _ => False
  ct : St → Hp → Prop := fun _ _ => False
abbrev TS := Ends → St → Hp → Prop

def EP (X : Cx) (pins : List (Addr × Obj)) (σ : St) (Q : VK) (u : Value) (s' : Shared) : Prop := ∃ v H', Inv X pins σ H' s' ∧ RelV v u ∧ Q v H'
def TP (X : Cx) (pins : List (Addr × Obj)) (σ : St) (Q : Bool → Hp → Prop) (b : Bool) (s' : Shared) : Prop := ∃ H', Inv X pins σ H' s' ∧ Q b H'
def AP (X : Cx) (pins : List (Addr × Obj)) (σ : St) (Q : List V → Hp → Prop) (us : List Value) (s' : Shared) : Prop := ∃ vs H', Inv X pins σ H' s' ∧ Vals vs us ∧ Q vs H'
def SP (X : Cx) (pins : List (Addr × Obj)) (D : Ends) (f : Flow) (s' : Shared) : Prop :=
  match f with
  | .next => ∃ σ' H', Inv X pins σ' H' s' ∧ D.nx σ' H'
  | .brk => ∃ σ' H', Inv X pins σ' H' s' ∧ D.bk σ' H'
  | .cont => ∃ σ' H', Inv X pins σ' H' s' ∧ D.ct σ' H'
  | .ret u => ∃ v σ' H', Inv X pins σ' H' s' ∧ RelV v u ∧ D.rt v H'

def PE (X : Cx) (e : Expr) (t : TE) : Prop :=
  ∀ (pins : List (Addr × Obj)) (s : Shared) (σ : St) (H : Hp) (Q : VK), Inv X pins σ H s → t σ H Q → wpAny (model X.prog X.w) X.A (eval e X.env) (EP X pins σ Q) X.xe s
def PT (X : Cx) (e : Expr) (t : TT) : Prop :=
  ∀ (pins : List (Addr × Obj)) (s : Shared) (σ : St) (H : Hp) (Q : Bool → Hp → Prop), Inv X pins σ H s → t σ H Q → wpAny (model X.prog X.w) X.A (isTrue e X.env (eval e X.env)) (TP X pins σ Q) X.xe s
/-- a test whatever its 'whole' is (and, or) -/
def PW (X : Cx) (e : Expr) (t : TT) : Prop :=
  ∀ (whole : Sem Value) (pins : List (Addr × Obj)) (s : Shared) (σ : St) (H : Hp) (Q : Bool → Hp → Prop), Inv X pins σ H s → t σ H Q → wpAny (model X.prog X.w) X.A (isTrue e X.env whole) (TP X pins σ Q) X.xe s
theorem PW.pt {X : Cx} {e : Expr} {t : TT} (h : PW X e t) : PT X e t := h _
/-- an argument list (no star), from the left -/
def PA (X : Cx) (es : List Expr) (t : TA) : Prop :=
  ∀ (pos : Pos) (pins : List (Addr × Obj)) (s : Shared) (σ : St) (H : Hp) (Q : List V → Hp → Prop), Inv X pins σ H s → t σ H Q → wpAny (model X.prog X.w) X.A (spliced (backTo pos (starEach es X.env))) (AP X pins σ Q) X.xe s
def PS (X : Cx) (st : Stmt) (t : TS) : Prop :=
  ∀ (pins : List (Addr × Obj)) (s : Shared) (σ : St) (H : Hp) (D : Ends), Inv X pins σ H s → t D σ H → wpAny (model X.prog X.w) X.A (exec st X.env) (SP X pins D) X.xe s
def PSs (X : Cx) (st : List Stmt) (t : TS) : Prop :=
  ∀ (pins : List (Addr × Obj)) (s : Shared) (σ : St) (H : Hp) (D : Ends), Inv X pins σ H s → t D σ H → wpAny (model X.prog X.w) X.A (execs st X.env) (SP X pins D) X.xe s
/-- weaken the end -/
theorem thn {α : Type} {t : Sem α} {Q Q' : α → Shared → Prop} {M : Model} {A : Around} {E : Value → Shared → Prop} {s : Shared} (h : wpAny M A t Q E s) (hQ : ∀ a s, Q a s → Q' a s) : wpAny M A t Q' E s := wpAny_mono h hQ fun _ _ x => x
end L2

namespace L2
open PySem PySem.Spec PyProof.Rows
section
variable {X : Cx}


/-! ### names and constants -/
def tVar (i : Nat) : TE := fun σ H Q => ∃ v, σ[i]? = some (some v) ∧ Q v H
def tC (v : V) : TE := fun _ H Q => Q v H
theorem pe_var {i : Nat} {x : Str} {pos : Pos} (hN : X.N[i]? = some x) (hv : Vis X.env.scope x) (hd : (x == ("__debug__" : Str)) = false := by decide) (hcd : (x == ("__classdict__" : Str)) = false := by decide) : PE X (.Name x pos) (tVar i) := by
  intro pins s σ H Q I h
  obtain ⟨v, e, h⟩ := h
  obtain ⟨m, hn, hl⟩ := I.loc
  obtain ⟨u, r, l⟩ := hl i x v hN e hv
  have fin : EP X pins σ Q u s := ⟨v, H, I, r, h⟩
  rcases l with ⟨hk, hm⟩ | ⟨hk, c, hc, hcell⟩
  · exact wpAny_Name (wpAny_loadName_local I.ok.kind hk hn hm fin) hd
  · rcases hk with hk | hk
    · exact wpAny_Name (wpAny_loadName_cell I.ok.kind hk hc hcell fin) hd
    · exact wpAny_Name (wpAny_loadName_free I.ok.kind hk hc hcell fin hcd) hd
theorem pe_int {i j pos} : PE X (.Constant (.int i) j pos) (tC (.int i)) := fun _ _ _ H _ I h => wpAny_Constant_int ⟨.int i, H, I.tok _, ⟨_, rfl⟩, h⟩
theorem pe_bl {b j pos} : PE X (.Constant (.bool b) j pos) (tC (.bl b)) := fun _ _ _ H _ I h => Constant_bool ⟨.bl b, H, I, rfl, h⟩
theorem pe_non {j pos} : PE X (.Constant .none j pos) (tC .non) := fun _ _ _ H _ I h => Constant_none ⟨.non, H, I, rfl, h⟩
theorem pe_str {x j pos} : PE X (.Constant (.str x) j pos) (tC (.str x)) := fun _ _ _ H _ I h => Calls.Constant_str ⟨.str x, H, I.tok _, ⟨_, rfl⟩, h⟩

/-- a global name of the def -/
def Gl (X : Cx) (x : Str) : Prop := X.env.kindOf x = some .globalImplicit
theorem ld_glob {E : Value → Shared → Prop} {pins : List (Addr × Obj)} {s : Shared} {σ : St} {H : Hp} {x : Str} {u : Value} {pos : Pos} {Q : Value → Shared → Prop} (I : Inv X pins σ H s) (hg : Gl X x) (hm : X.mg x = some u) (h : Q u s)
    (hd : (x == ("__debug__" : Str)) = false := by decide) : wpAny (model X.prog X.w) X.A (eval (.Name x pos) X.env) Q E s :=
  Calls.Name_function_global I.ok.kind hg (Calls.loadGlobal_global (by rw [I.ok.glob]; exact I.mod.glob.keeps I.bk) hm h) hd
theorem ld_blt {E : Value → Shared → Prop} {pins : List (Addr × Obj)} {s : Shared} {σ : St} {H : Hp} {x : Str} {u : Value} {pos : Pos} {Q : Value → Shared → Prop} (I : Inv X pins σ H s) (hg : Gl X x) (hm : X.mg x = none) (hv : bootBuiltins x = some u) (h : Q u s)
    (hn : x ≠ "__name__" := by decide) (hd : (x == ("__debug__" : Str)) = false := by decide) : wpAny (model X.prog X.w) X.A (eval (.Name x pos) X.env) Q E s := by
  obtain ⟨mb, h1, h2⟩ := I.mod.blt
  exact Calls.Name_function_global I.ok.kind hg (Calls.loadGlobal_builtin (by rw [I.ok.glob]; exact I.mod.glob.keeps I.bk) hm (by rw [I.ok.blt]; exact h1.keeps I.bk) ((h2 x hn).trans hv) h) hd

/-! ### arithmetic -/
variable {a b : Expr} {ta tb : TE} {pos : Pos}

/-! ### comparisons -/
/-- a comparison as a value, as a test -/
def tB (t : TE) : TT := fun σ H Q => t σ H fun x H1 => ∃ c, x = .bl c ∧ Q c H1
/-- an expression whose value is a bool, as a test -/
theorem pt_val {e : Expr} {t : TE} (h : PE X e t) (he : ∀ whole, isTrue e X.env whole = (do let v ← whole; standAt e.pos; holding [v] (truthy v)) := by intro _; rfl) : PT X e (tB t) := by
  intro pins s σ H Q I hw
  refine isTrue_plain (thn (h pins s σ H _ I hw) fun v s1 ⟨x, H1, I1, r1, q1⟩ => ?_) (he _)
  obtain ⟨d, rfl, q⟩ := q1
  cases r1
  exact wpAny_truthy_bool ⟨H1, I1, q⟩

/-! ### and, or, not -/
variable {tA tB' : TT} {rest : List Expr}
def tAnd (t u : TT) : TT := fun σ H Q => t σ H fun c H1 => if c = true then u σ H1 Q else Q false H1
def tOr (t u : TT) : TT := fun σ H Q => t σ H fun c H1 => if c = true then Q true H1 else u σ H1 Q
def tNot (t : TT) : TT := fun σ H Q => t σ H fun c H1 => Q (!c) H1
theorem pw_and1 (ha : PT X a tA) : PW X (.BoolOp .And [a] pos) tA := by
  intro wh pins s σ H Q I h
  refine isTrue_and (thn (ha pins s σ H Q I h) fun c s1 e => ?_)
  cases c with
  | true => exact isTrue_and_nil e
  | false => exact e
theorem pw_or1 (ha : PT X a tA) : PW X (.BoolOp .Or [a] pos) tA := by
  intro wh pins s σ H Q I h
  refine isTrue_or (thn (ha pins s σ H Q I h) fun c s1 e => ?_)
  cases c with
  | false => exact isTrue_or_nil e
  | true => exact e
theorem pw_and (ha : PT X a tA) (hb : PW X (.BoolOp .And (b :: rest) pos) tB') : PW X (.BoolOp .And (a :: b :: rest) pos) (tAnd tA tB') := by
  intro wh pins s σ H Q I h
  refine isTrue_and (thn (ha pins s σ H _ I h) fun c s1 ⟨H1, I1, q1⟩ => ?_)
  cases c with
  | true => exact hb wh pins s1 σ H1 Q I1 q1
  | false => exact ⟨H1, I1, q1⟩
theorem pw_or (ha : PT X a tA) (hb : PW X (.BoolOp .Or (b :: rest) pos) tB') : PW X (.BoolOp .Or (a :: b :: rest) pos) (tOr tA tB') := by
  intro wh pins s σ H Q I h
  refine isTrue_or (thn (ha pins s σ H _ I h) fun c s1 ⟨H1, I1, q1⟩ => ?_)
  cases c with
  | true => exact ⟨H1, I1, q1⟩
  | false => exact hb wh pins s1 σ H1 Q I1 q1
theorem pt_not (ha : PT X a tA) : PT X (.UnaryOp .Not a pos) (tNot tA) := by
  intro pins s σ H Q I h
  exact isTrue_not (ha pins s σ H (fun c H1 => Q (!c) H1) I h)
/-- .. as values (bools) -/
def tAndV (ta tb : TE) : TE := fun σ H Q => ta σ H fun x H1 => ∃ c, x = .bl c ∧ if c = true then tb σ H1 Q else Q (.bl false) H1
def tOrV (ta tb : TE) : TE := fun σ H Q => ta σ H fun x H1 => ∃ c, x = .bl c ∧ if c = true then Q (.bl true) H1 else tb σ H1 Q
def tNotV (ta : TE) : TE := fun σ H Q => ta σ H fun x H1 => ∃ c, x = .bl c ∧ Q (.bl (!c)) H1
theorem pe_one {op} {t : TE} (h : PE X a t) : PE X (.BoolOp op [a] pos) t := fun pins s σ H Q I hw => BoolOp_one (h pins s σ H Q I hw)
theorem pe_and (ha : PE X a ta) (hb : PE X (.BoolOp .And (b :: rest) pos) tb) : PE X (.BoolOp .And (a :: b :: rest) pos) (tAndV ta tb) := by
  intro pins s σ H Q I h
  refine BoolOp_and (thn (ha pins s σ H _ I h) fun v s1 ⟨x, H1, I1, r1, q1⟩ => ?_)
  obtain ⟨c, rfl, q1⟩ := q1
  cases r1
  refine wpAny_truthy_bool ?_
  cases c with
  | true => exact hb pins s1 σ H1 Q I1 q1
  | false => exact ⟨.bl false, H1, I1, rfl, q1⟩
theorem pe_or (ha : PE X a ta) (hb : PE X (.BoolOp .Or (b :: rest) pos) tb) : PE X (.BoolOp .Or (a :: b :: rest) pos) (tOrV ta tb) := by
  intro pins s σ H Q I h
  refine BoolOp_or (thn (ha pins s σ H _ I h) fun v s1 ⟨x, H1, I1, r1, q1⟩ => ?_)
  obtain ⟨c, rfl, q1⟩ := q1
  cases r1
  refine wpAny_truthy_bool ?_
  cases c with
  | false => exact hb pins s1 σ H1 Q I1 q1
  | true => exact ⟨.bl true, H1, I1, rfl, q1⟩
theorem pe_not (ha : PE X a ta) : PE X (.UnaryOp .Not a pos) (tNotV ta) := by
  intro pins s σ H Q I h
  refine UnaryOp_ (thn (ha pins s σ H _ I h) fun v s1 ⟨x, H1, I1, r1, q1⟩ => ?_)
  obtain ⟨c, rfl, q1⟩ := q1
  cases r1
  exact not_of (wpAny_truthy_bool ⟨.bl (!c), H1, I1, rfl, q1⟩)
/-- a if t else b -/
def tIf (t : TT) (ta tb : TE) : TE := fun σ H Q => t σ H fun c H1 => if c = true then ta σ H1 Q else tb σ H1 Q
theorem pe_ifExp {c : Expr} (hc : PT X c tA) (ha : PE X a ta) (hb : PE X b tb) : PE X (.IfExp c a b pos) (tIf tA ta tb) := by
  intro pins s σ H Q I h
  refine wpAny_IfExp (thn (hc pins s σ H _ I h) fun d s1 ⟨H1, I1, q1⟩ => ?_)
  cases d with
  | true => exact ha pins s1 σ H1 Q I1 q1
  | false => exact hb pins s1 σ H1 Q I1 q1
end
end L2

namespace L2
open PySem PySem.Spec PyProof.Rows

/-! ### a list, a tuple that is read: tracked, frozen, or an object of the module -/
def SqL (K : PySem.W.Frag) (H : Hp) (a : Addr) (xs : List V) : Prop :=
  Rd H a (.lst xs) ∨
    ∃ (o : Obj) (its : Array Value) (n : Nat), K.lookup a = some o ∧ o.cls = .type "list" ∧ o.dict = none ∧ o.data = .seq its n ∧ its.size ≤ sizeLine ∧ Vals xs its.toList
def SqT (K : PySem.W.Frag) (H : Hp) (a : Addr) (xs : List V) : Prop :=
  Rd H a (.tup xs) ∨
    ∃ (o : Obj) (its : Array Value) (n : Nat), K.lookup a = some o ∧ o.cls = .type "tuple" ∧ o.data = .seq its n ∧ its.size ≤ sizeLine ∧ Vals xs its.toList
def absV : Value → Option V
  | .none => some .non
  | .bool b => some (.bl b)
  | .int i _ => some (.int i)
  | .str x _ => some (.str x)
  | .bytes b _ => some (.byt b)
  | .float b _ => some (.flt b)
  | .ref a => some (.ref a)
  | .type n => some (.ty n)
  | _ => none
theorem RelV.abs {x : V} {u : Value} (r : RelV x u) : absV u = some x := by
  cases x with
  | non => cases r; rfl
  | bl _ => cases r; rfl
  | int _ => obtain ⟨t, rfl⟩ := r; rfl
  | str _ => obtain ⟨t, rfl⟩ := r; rfl
  | byt _ => obtain ⟨t, rfl⟩ := r; rfl
  | flt _ => obtain ⟨t, rfl⟩ := r; rfl
  | ref _ => cases r; rfl
  | ty _ => cases r; rfl
theorem RelV.inj {x y : V} {u : Value} (r : RelV x u) (q : RelV y u) : x = y := Option.some.inj (r.abs.symm.trans q.abs)
theorem Vals.inj : ∀ {xs ys : List V} {us : List Value}, Vals xs us → Vals ys us → xs = ys
  | _, _, _, .nil, .nil => rfl
  | _, _, _, .cons r t, .cons r' t' => by rw [r.inj r', Vals.inj t t']
section
variable {X : Cx} {pins : List (Addr × Obj)} {σ : St} {H : Hp} {s : Shared} {a : Addr} {xs ys : List V}
theorem SqL.of {K : PySem.W.Frag} (h : H a = some (.lst xs)) : SqL K H a xs := .inl (.inl h)
theorem SqT.of {K : PySem.W.Frag} (h : H a = some (.tup xs)) : SqT K H a xs := .inl (.inl h)
theorem Inv.list (I : Inv X pins σ H s) (h : SqL X.K H a xs) : ∃ its : List Value, Vals xs its ∧ PlainL s.heap a its.toArray ∧ xs.length ≤ sizeLine := by
  rcases h with h | ⟨o, its, n, hk, hc, hd, hs, hz, r⟩
  · obtain ⟨z, its, n, r, e⟩ := h.ok I.hok
    exact ⟨its, r, ⟨_, n, e, rfl, rfl, rfl⟩, z⟩
  · refine ⟨its.toList, r, ⟨o, n, I.kIn a o hk, hc, hd, by simpa using hs⟩, ?_⟩
    have e := r.length
    simp only [Array.length_toList] at e
    omega
theorem Inv.tuple (I : Inv X pins σ H s) (h : SqT X.K H a xs) : ∃ its : List Value, Vals xs its ∧ IsTup s.heap a its.toArray ∧ xs.length ≤ sizeLine := by
  rcases h with h | ⟨o, its, n, hk, hc, hs, hz, r⟩
  · obtain ⟨z, its, r, p⟩ := h.ok I.hok
    exact ⟨its, r, p, z⟩
  · refine ⟨its.toList, r, ⟨o, I.kIn a o hk, hc, n, by simpa using hs⟩, ?_⟩
    have e := r.length
    simp only [Array.length_toList] at e
    omega
theorem Inv.list_inj (I : Inv X pins σ H s) (h : SqL X.K H a xs) (h' : SqL X.K H a ys) : xs = ys := by
  obtain ⟨its, r, ⟨o, n, e, _, _, d⟩, _⟩ := I.list h
  obtain ⟨its', r', ⟨o', n', e', _, _, d'⟩, _⟩ := I.list h'
  rw [e] at e'; cases e'
  rw [d] at d'
  injection d' with d1 _
  have : its = its' := by simpa using congrArg Array.toList d1
  subst this
  exact r.inj r'
end

/-! ### another wish about exceptions -/
abbrev Cx.wish (X : Cx) (E : Value → Shared → Prop) : Cx := { X with xe := E }
/-- no exception leaves -/
abbrev Cx.nox (X : Cx) : Cx := X.wish fun _ _ => False
theorem Cx.Ok.wish {X : Cx} (ok : X.Ok) (E : Value → Shared → Prop) : (X.wish E).Ok :=
  ⟨ok.mod, ok.kind, ok.glob, ok.blt, ok.above, ok.inj, ok.has, ok.cab, ok.hd, ok.frames, ok.stk, ok.exf, ok.bs, ok.bsz, ok.noex, ok.exfs, ok.funs, ok.frf⟩
theorem Cx.Ok.unwish {X : Cx} {E : Value → Shared → Prop} (ok : (X.wish E).Ok) : X.Ok :=
  ⟨ok.mod, ok.kind, ok.glob, ok.blt, ok.above, ok.inj, ok.has, ok.cab, ok.hd, ok.frames, ok.stk, ok.exf, ok.bs, ok.bsz, ok.noex, ok.exfs, ok.funs, ok.frf⟩
section
variable {X : Cx} {pins : List (Addr × Obj)} {σ : St} {H : Hp} {s : Shared} {E : Value → Shared → Prop}
theorem Inv.wish (I : Inv X pins σ H s) (E : Value → Shared → Prop) : Inv (X.wish E) pins σ H s := ⟨I.ok.wish E, I.os, I.bare, I.base, I.loc, I.cell, I.free, I.freeC, I.pin, I.hok, I.len⟩
theorem Inv.unwish (I : Inv (X.wish E) pins σ H s) : Inv X pins σ H s := ⟨I.ok.unwish, I.os, I.bare, I.base, I.loc, I.cell, I.free, I.freeC, I.pin, I.hok, I.len⟩
theorem SP.unwish {D : Ends} {f : Flow} {s' : Shared} (h : SP (X.wish E) pins D f s') : SP X pins D f s' := by
  cases f with
  | next => obtain ⟨σ', H', I, q⟩ := h; exact ⟨σ', H', I.unwish, q⟩
  | brk => obtain ⟨σ', H', I, q⟩ := h; exact ⟨σ', H', I.unwish, q⟩
  | cont => obtain ⟨σ', H', I, q⟩ := h; exact ⟨σ', H', I.unwish, q⟩
  | ret u => obtain ⟨v, σ', H', I, r, q⟩ := h; exact ⟨v, σ', H', I.unwish, r, q⟩
theorem PSs.nox {st : List Stmt} {t : TS} (h : PSs X.nox st t) : PSs X st t := fun pins s σ H D I hw =>
  wpAny_mono (h pins s σ H D (I.wish _) hw) (fun _ _ q => q.unwish) fun _ _ z => False.elim z
end

/-! ### blocks and small statements -/
section
variable {X : Cx} {st : Stmt} {rest : List Stmt} {t u : TS} {e : Expr} {te : TE} {pos : Pos}
def tNext : TS := fun D σ H => D.nx σ H
def tSeq (t u : TS) : TS := fun D σ H => t { D with nx := u D } σ H
theorem pss_nil : PSs X [] tNext := fun _ _ σ H _ I h => wpAny_execs_nil ⟨σ, H, I, h⟩
theorem pss_cons (h1 : PS X st t) (h2 : PSs X rest u) : PSs X (st :: rest) (tSeq t u) := by
  intro pins s σ H D I h
  refine wpAny_execs_cons (thn (h1 pins s σ H { D with nx := u D } I h) fun f s1 q => ?_)
  cases f with
  | next =>
    obtain ⟨σ', H', I', q⟩ := q
    exact h2 pins s1 σ' H' D I' q
  | ret v => exact q
  | brk => exact q
  | cont => exact q
theorem pss_one (h1 : PS X st t) : PSs X [st] t := by
  intro pins s σ H D I h
  refine wpAny_execs_cons (thn (h1 pins s σ H D I h) fun f s1 q => ?_)
  cases f with
  | next => exact wpAny_execs_nil q
  | ret v => exact q
  | brk => exact q
  | cont => exact q
/-- in a def's body nothing is shown -/
theorem Inv.quiet {pins : List (Addr × Obj)} {σ : St} {H : Hp} {s : Shared} (I : Inv X pins σ H s) : interactive X.env = false := by simp [interactive, I.ok.kind]
/-- an expression whose value is dropped -/
def tDrop (te : TE) : TS := fun D σ H => te σ H fun _ H1 => D.nx σ H1
theorem ps_expr (he : PE X e te) (hs : swapsWith e none pos.line X.env = pure false := by rfl) : PS X (.Expr e pos) (tDrop te) := by
  intro pins s σ H D I h
  exact wpAny_Expr_any (thn (he pins s σ H _ I h) fun v s1 ⟨x, H1, I1, r1, q1⟩ => ⟨σ, H1, I1, q1⟩) I.quiet hs
def tRet (te : TE) : TS := fun D σ H => te σ H D.rt
theorem ps_ret (he : PE X e te) : PS X (.Return (some e) pos) (tRet te) := by
  intro pins s σ H D I h
  exact wpAny_Return_some (thn (he pins s σ H _ I h) fun v s1 ⟨x, H1, I1, r1, q1⟩ => ⟨x, σ, H1, I1, r1, q1⟩)
def tIfS (c : TT) (t u : TS) : TS := fun D σ H => c σ H fun b H1 => if b = true then t D σ H1 else u D σ H1
theorem ps_if {c : Expr} {a b : List Stmt} {tc : TT} (hc : PT X c tc) (ha : PSs X a t) (hb : PSs X b u) : PS X (.If c a b pos) (tIfS tc t u) := by
  intro pins s σ H D I h
  refine wpAny_If (thn (hc pins s σ H _ I h) fun d s1 ⟨H1, I1, q1⟩ => ?_)
  cases d with
  | true => exact ha pins s1 σ H1 D I1 q1
  | false => exact hb pins s1 σ H1 D I1 q1
/-- code that the proof never comes to -/
def tNever : TS := fun _ _ _ => False
theorem pss_never {sts : List Stmt} : PSs X sts tNever := fun _ _ _ _ _ _ h => h.elim
end

/-! ### targets -/
abbrev TG := V → St → Hp → (St → Hp → Prop) → Prop
abbrev TGs := List V → St → Hp → (St → Hp → Prop) → Prop
def PG (X : Cx) (target : Expr) (t : TG) : Prop :=
  ∀ (pins : List (Addr × Obj)) (s : Shared) (σ : St) (H : Hp) (v : V) (u : Value) (Q : St → Hp → Prop), Inv X pins σ H s → RelV v u → t v σ H Q →
    wpAny (model X.prog X.w) X.A (assign target X.env u) (fun _ s' => ∃ σ' H', Inv X pins σ' H' s' ∧ Q σ' H') X.xe s
/-- several targets, one after another -/
def PGs (X : Cx) (ts : List Expr) (t : TGs) : Prop :=
  ∀ (pins : List (Addr × Obj)) (s : Shared) (σ : St) (H : Hp) (vs : List V) (us : List Value) (Q : St → Hp → Prop), Inv X pins σ H s → Vals vs us → t vs σ H Q →
    wpAny (model X.prog X.w) X.A (assignInOrder ((assignEach ts X.env).map (·.2)) us) (fun _ s' => ∃ σ' H', Inv X pins σ' H' s' ∧ Q σ' H') X.xe s
/-- o[i] = v, by values -/
abbrev TSet := V → V → V → Hp → (Hp → Prop) → Prop
def PSet (X : Cx) (t : TSet) : Prop :=
  ∀ (pins : List (Addr × Obj)) (s : Shared) (σ : St) (H : Hp) (o i v : V) (ov iv u : Value) (Q : Hp → Prop), Inv X pins σ H s → RelV o ov → RelV i iv → RelV v u → t o i v H Q →
    wpAny (model X.prog X.w) X.A (setItem ov iv u) (fun _ s' => ∃ H', Inv X pins σ H' s' ∧ Q H') X.xe s
/-- a op= b, by values -/
abbrev TIp := V → V → Hp → VK → Prop
def PIp (X : Cx) (op : Operator) (t : TIp) : Prop :=
  ∀ (pins : List (Addr × Obj)) (s : Shared) (σ : St) (H : Hp) (x y : V) (v u : Value) (Q : VK), Inv X pins σ H s → RelV x v → RelV y u → t x y H Q →
    wpAny (model X.prog X.w) X.A (inplaceOp op v u) (EP X pins σ Q) X.xe s
section
variable {X : Cx} {pos : Pos}
def gName (i : Nat) : TG := fun v σ H Q => Q (σ.set i (some v)) H
theorem pg_name {i : Nat} {x : Str} (hN : X.N.Nodup) (hi : X.N[i]? = some x) (hx : Loc X.env.scope x) (hf : X.fn x = true ∨ X.env.scope.names.lookup x = some .local := by first | exact .inl rfl | exact .inr rfl | assumption) : PG X (.Name x pos) (gName i) := by
  intro pins s σ H v u Q I r h
  exact wpAny_assign_Name (store_ok I hN hi hx r (fun s' I' => ⟨_, H, I', h⟩) hf)
def gNil : TGs := fun vs σ H Q => vs = [] ∧ Q σ H
def gCons (t : TG) (u : TGs) : TGs := fun vs σ H Q => ∃ v r, vs = v :: r ∧ t v σ H fun σ' H' => u r σ' H' Q
theorem pgs_nil : PGs X [] gNil := by
  intro pins s σ H vs us Q I r h
  obtain ⟨e, h⟩ := h
  subst e
  cases r
  exact assignInOrder_nil ⟨σ, H, I, h⟩
theorem pgs_cons {e : Expr} {es : List Expr} {t : TG} {u : TGs} (h1 : PG X e t) (h2 : PGs X es u)
    (hs : (assignEach (e :: es) X.env).map (·.2) = assign e X.env :: (assignEach es X.env).map (·.2) := by rfl) : PGs X (e :: es) (gCons t u) := by
  intro pins s σ H vs us Q I r h
  obtain ⟨v, vr, e1, h⟩ := h
  subst e1
  cases r with
  | cons r rr =>
    rw [hs]
    refine assignInOrder_cons (thn (h1 pins s σ H _ _ _ I r h) fun _ s1 ⟨σ1, H1, I1, q1⟩ => ?_)
    exact h2 pins s1 σ1 H1 _ _ Q I1 rr q1
/-- (a, b, ..) = a tuple of that length -/
def gTup (K : PySem.W.Frag) (n : Nat) (t : TGs) : TG := fun v σ H Q => ∃ a xs, v = .ref a ∧ SqT K H a xs ∧ xs.length = n ∧ t xs σ H Q
theorem pg_tup {es : List Expr} {k : Nat} {t : TGs} {n : Nat} (hc : X.calm = true) (h : PGs X es t)
    (hn : (assignEach es X.env).length = n := by rfl) (hst : (assignEach es X.env).findIdx? (·.1) = none := by rfl) : PG X (.Tuple es k pos) (gTup X.K n t) := by
  intro pins s σ H v u Q I r hw
  obtain ⟨a, xs, e1, hq, hl, hw⟩ := hw
  subst e1
  cases r
  obtain ⟨its, rv, ht, hz⟩ := I.tuple hq
  refine assign_Tuple_tuple (I.ok.hd hc) ht (by simp [hn, ← hl, rv.length]) hst fun h' hx => ?_
  have I1 : Inv X pins σ H { s with heap := h' } := I.kept (t' := s.toks) fun b o e => hx b o (Nat.ne_of_lt (Heap.lt_size e)) e
  exact h pins _ σ H xs _ Q I1 (by simpa using rv) hw
/-- o[i] = .. -/
def gSub (to ti : TE) (t : TSet) : TG := fun v σ H Q => to σ H fun o H1 => ti σ H1 fun i H2 => t o i v H2 fun H3 => Q σ H3
theorem pg_sub {o i : Expr} {to ti : TE} {t : TSet} (ho : PE X o to) (hi : PE X i ti) (hs : PSet X t)
    (ha : ∀ v, assign (.Subscript o i pos) X.env v = (do
      let ov ← holding [v] (eval o X.env)
      let iv ← holding [v, ov] (eval i X.env)
      standAt pos
      holding [v, ov, iv] (setItem ov iv v)
      release [v, ov, iv] []) := by intro _; rfl) : PG X (.Subscript o i pos) (gSub to ti t) := by
  intro pins s σ H v u Q I r h
  rw [ha]
  refine wpAny_bind (wpAny_holding (thn (ho pins s σ H _ I h) fun ov s1 ⟨x, H1, I1, r1, q1⟩ => ?_))
  refine wpAny_bind (wpAny_holding (thn (hi pins s1 σ H1 _ I1 q1) fun iv s2 ⟨y, H2, I2, r2, q2⟩ => ?_))
  refine wpAny_bind (wpAny_standAt (wpAny_bind (wpAny_holding (thn (hs pins s2 σ H2 x y v ov iv u _ I2 r1 r2 r q2) fun _ s3 ⟨H3, I3, q3⟩ => ?_))))
  exact wpAny_release ⟨σ, H3, I3, q3⟩
/-- target = value -/
def tAsg (te : TE) (g : TG) : TS := fun D σ H => te σ H fun x H1 => g x σ H1 D.nx
theorem ps_asg {tg e : Expr} {te : TE} {g : TG} (he : PE X e te) (hg : PG X tg g) (hs : swapsWithSole [tg] e pos.line X.env = pure false := by rfl) (hw : swappedStores [tg] e X.env = pure none := by rfl)
    (h1 : (assignEach [tg] X.env).map (·.2) = [assign tg X.env] := by rfl) : PS X (.Assign [tg] e pos) (tAsg te g) := by
  intro pins s σ H D I h
  refine wpAny_Assign_stores (thn (he pins s σ H _ I h) fun v s1 ⟨x, H1, I1, r1, q1⟩ => ?_) hs hw
  rw [h1]
  exact thn (hg pins s1 σ H1 x v _ I1 r1 q1) fun _ s2 q => q
/-- name = value -/
theorem ps_set {i : Nat} {x : Str} {e : Expr} {te : TE} {pos' : Pos} (hN : X.N.Nodup) (hi : X.N[i]? = some x) (hx : Loc X.env.scope x) (he : PE X e te) (hs : swapsWith e (some (.Name x pos')) pos.line X.env = pure false := by rfl) (hf : X.fn x = true ∨ X.env.scope.names.lookup x = some .local := by first | exact .inl rfl | exact .inr rfl | assumption) :
    PS X (.Assign [.Name x pos'] e pos) (tAsg te (gName i)) := by
  intro pins s σ H D I h
  refine wpAny_Assign_Name (thn (he pins s σ H _ I h) fun v s1 ⟨y, H1, I1, r1, q1⟩ => ?_) hs
  exact store_ok I1 hN hi hx r1 (fun s2 I2 => ⟨_, H1, I2, q1⟩) hf
/-- name op= e -/
def tAug (i : Nat) (te : TE) (ti : TIp) : TS := fun D σ H => ∃ x, σ[i]? = some (some x) ∧ te σ H fun y H1 => ti x y H1 fun z H2 => D.nx (σ.set i (some z)) H2
theorem ps_aug {i : Nat} {x : Str} {e : Expr} {te : TE} {op : Operator} {ti : TIp} {pos' : Pos} (hN : X.N.Nodup) (hi : X.N[i]? = some x) (hx : Loc X.env.scope x) (he : PE X e te) (ho : PIp X op ti) (hf : X.fn x = true ∨ X.env.scope.names.lookup x = some .local := by first | exact .inl rfl | exact .inr rfl | assumption) :
    PS X (.AugAssign (.Name x pos') op e pos) (tAug i te ti) := by
  intro pins s σ H D I h
  obtain ⟨v, e1, h⟩ := h
  obtain ⟨m, hn, hl⟩ := I.loc
  have vis : Vis X.env.scope x := by rcases hx with k | k; exact .inl k; exact .inr (.inl k)
  obtain ⟨u, r, l⟩ := hl i x v hi e1 vis
  refine wpAny_AugAssign_Name ?_
  have go : wpAny (model X.prog X.w) X.A (eval e X.env) (fun w s₂ => wpAny (model X.prog X.w) X.A (inplaceOp op u w) (fun r s₃ => wpAny (model X.prog X.w) X.A (storeName X.env x r) (fun _ => SP X pins D .next) X.xe s₃) X.xe s₂) X.xe s := by
    refine thn (he pins s σ H _ I h) fun w s1 ⟨y, H1, I1, r1, q1⟩ => ?_
    refine thn (ho pins s1 σ H1 v y u w _ I1 r r1 q1) fun z s2 ⟨zv, H2, I2, r2, q2⟩ => ?_
    exact store_ok I2 hN hi hx r2 (fun s3 I3 => ⟨_, H2, I3, q2⟩) hf
  rcases l with ⟨hk, hm⟩ | ⟨hk, c, hc, hcell⟩
  · exact wpAny_loadName_local I.ok.kind hk hn hm go
  · rcases hk with hk | hk
    · exact wpAny_loadName_cell I.ok.kind hk hc hcell go
    · rcases hx with k | k
      · have : X.env.scope.names.lookup x = some .free := hk
        rw [k] at this; cases this
      · have : X.env.scope.names.lookup x = some .free := hk
        rw [k] at this; cases this
/-- ints -/
def ipI (f : Int → Int → Int) : TIp := fun x y H Q => ∃ i j, x = .int i ∧ y = .int j ∧ Q (.int (f i j)) H
theorem ip_add : PIp X .Add (ipI fun i j => i + j) := by
  intro pins s σ H x y v u Q I r1 r2 h
  obtain ⟨i, j, e1, e2, q⟩ := h
  subst e1; subst e2
  obtain ⟨t, rfl⟩ := r1
  obtain ⟨t', rfl⟩ := r2
  exact iadd_int ⟨.int _, H, I.tok _, ⟨_, rfl⟩, q⟩
end

/-! ### while -/
section
variable {X : Cx} {pos : Pos}
/-- the invariant W with its measure -/
def tWhile (c : TT) (tb : TS) : TS := fun D σ H => ∃ W : Nat → St → Hp → Prop, (∃ m, W m σ H) ∧ ∀ m σ H, W m σ H →
  c σ H fun b H1 => if b = true then ∃ N : St → Hp → Prop, (∀ σ' H', N σ' H' → ∃ m', m' < m ∧ W m' σ' H') ∧ tb { D with nx := N, ct := N, bk := D.nx } σ H1 else D.nx σ H1
theorem ps_while {c : Expr} {body : List Stmt} {tc : TT} {tb : TS} (hp : PassesOwn (model X.prog X.w) X.A X.env X.xe) (hc : PT X c tc) (hb : PSs X body tb) : PS X (.While c body [] pos) (tWhile tc tb) := by
  intro pins s σ H D I h
  obtain ⟨W, ⟨m0, w0⟩, turn⟩ := h
  refine wpAny_While (codeAny_whileLoop (fun n s' => ∃ σ' H', Inv X pins σ' H' s' ∧ W n σ' H') ?_ m0 ⟨σ, H, I, w0⟩)
  rintro n s1 ⟨σ1, H1, I1, w1⟩
  refine wpAny_passesOwn hp (thn (hc pins s1 σ1 H1 _ I1 (turn n σ1 H1 w1)) fun b s2 ⟨H2, I2, q2⟩ => ?_)
  cases b with
  | true =>
    obtain ⟨N, hN, q2⟩ := q2
    rw [if_pos rfl]
    refine wpAny_passesOwn hp (thn (hb pins s2 σ1 H2 _ I2 q2) fun f s3 q3 => ?_)
    cases f with
    | next =>
      obtain ⟨σ3, H3, I3, n3⟩ := q3
      obtain ⟨m', hm, w3⟩ := hN σ3 H3 n3
      exact ⟨m', hm, σ3, H3, I3, w3⟩
    | cont =>
      obtain ⟨σ3, H3, I3, n3⟩ := q3
      obtain ⟨m', hm, w3⟩ := hN σ3 H3 n3
      exact ⟨m', hm, σ3, H3, I3, w3⟩
    | brk => exact q3
    | ret v => exact q3
  | false =>
    rw [if_neg Bool.false_ne_true]
    exact wpAny_execs_nil ⟨σ1, H2, I2, q2⟩
end

/-! ### what a loop or a comprehension walks -/
/-- at turn i: it yields x (the heap may grow), or it stops -/
structure It where
  go : Nat → Hp → Prop
  yld : Nat → Hp → V → Hp → Prop
  stop : Nat → Hp → Prop
/-- the iterator's own objects may turn: they are not the frame's, not pinned, younger than the entry (or a comprehension's own) -/
def FpOk (X : Cx) (pins : List (Addr × Obj)) (H : Hp) (b : Addr) : Prop :=
  H b = none ∧ b ≠ X.env.locals ∧ b ∉ X.fs ∧ (b ∈ X.ex ∨ X.s₀.heap.objs.size ≤ b) ∧ (∀ x c, X.env.cells.lookup x = some c → c ≠ b) ∧ ∀ p ∈ X.pn ++ pins, p.1 ≠ b
theorem Inv.fpOk {X : Cx} {pins : List (Addr × Obj)} {σ : St} {H H' : Hp} {s : Shared} {b : Addr} (I : Inv X pins σ H s) (hb : s.heap.objs.size ≤ b) (hn : H' b = none) : FpOk X pins H' b := by
  refine ⟨hn, Nat.ne_of_gt (Nat.lt_of_lt_of_le I.lt hb), I.nofs hb, .inr (Nat.le_trans I.sz hb), fun x c e z => ?_, fun p hp z => ?_⟩
  · obtain ⟨v, q⟩ := I.cell x c e
    exact absurd (Nat.lt_of_lt_of_le q.lt (by rw [z]; exact hb)) (Nat.lt_irrefl _)
  · exact absurd (Nat.lt_of_lt_of_le (Heap.lt_size (I.pin p hp).1) (by rw [z]; exact hb)) (Nat.lt_irrefl _)
structure Turn (P : Program) (w : World) (K : PySem.W.Frag) (tg : Expr) (J : It) (fp : List Addr) (it : Addr) (tn : Nat → Heap → Prop) : Prop where
  mem : it ∈ fp
  obj : ∀ i h, tn i h → ∀ b ∈ fp, ∃ o, h.get? b = some o ∧ ∀ v, o.data ≠ .cell v
  keep : ∀ i h h', tn i h → (∀ b ∈ fp, ∀ o, h.get? b = some o → h'.get? b = some o) → tn i h'
  item : ∀ (X : Cx), X.prog = P → X.w = w → X.K = K → X.calm = true → ∀ (i : Nat) (pins : List (Addr × Obj)) (s : Shared) (σ : St) (H : Hp) (E : Value → Shared → Prop), Inv X pins σ H s → (∀ b ∈ fp, FpOk X pins H b) → tn i s.heap → J.go i H →
    wpAny (model P w) X.A (pyNext (.ref it)) (fun r s1 => ∃ u, r = some u ∧
      wpAny (model P w) X.A (letOwnedTupleGo tg (.ref it) u) (fun _ s2 => ∃ x H', Inv X pins σ H' s2 ∧ RelV x u ∧ J.yld i H x H' ∧ tn (i + 1) s2.heap ∧ ∀ b ∈ fp, H' b = none) E s1) E s
  done : ∀ (X : Cx), X.prog = P → X.w = w → X.K = K → X.calm = true → ∀ (i : Nat) (pins : List (Addr × Obj)) (s : Shared) (σ : St) (H : Hp) (E : Value → Shared → Prop), Inv X pins σ H s → (∀ b ∈ fp, FpOk X pins H b) → tn i s.heap → J.stop i H →
    wpAny (model P w) X.A (pyNext (.ref it)) (fun r s1 => r = none ∧ Inv X pins σ H s1) E s
  self : ∀ (A : Around) (i : Nat) (s : Shared) (Q : Value → Shared → Prop) (E : Value → Shared → Prop), tn i s.heap → Q (.ref it) s → wpAny (model P w) A (pyIter (.ref it)) Q E s
abbrev TI := St → Hp → (It → Hp → Prop) → Prop
/-- an iterator has come -/
def PIE (X : Cx) (pins : List (Addr × Obj)) (σ : St) (tg : Expr) (R : It → Hp → Prop) (itv : Value) (s2 : Shared) : Prop :=
  ∃ (it : Addr) (fp : List Addr) (tn : Nat → Heap → Prop) (J : It) (H' : Hp), itv = .ref it ∧ Inv X pins σ H' s2 ∧ Turn X.prog X.w X.K tg J fp it tn ∧ tn 0 s2.heap ∧ (∀ b ∈ fp, FpOk X pins H' b) ∧ R J H'
def PI (X : Cx) (tg iter : Expr) (wi : TI) : Prop :=
  ∀ (pins : List (Addr × Obj)) (s : Shared) (σ : St) (H : Hp) (R : It → Hp → Prop), Inv X pins σ H s → wi σ H R →
    wpAny (model X.prog X.w) X.A (eval iter X.env) (fun v s1 => wpAny (model X.prog X.w) X.A (pyIter v) (PIE X pins σ tg R) X.xe s1) X.xe s

/-- the step ahead of the store is nothing for an iterator that keeps no tuple -/
theorem go_of {M : Model} {A : Around} {E : Value → Shared → Prop} {s : Shared} {tg : Expr} {it : Addr} {u : Value} {o : Obj} {n : String} {vs : Array Value} {Q : Unit → Shared → Prop} (ho : s.heap.get? it = some o) (hc : o.cls = .type n) (hd : o.data = .fields vs)
    (hn : ["enumerate", "zip", "dict_itemiterator", "dict_reverseitemiterator", "odict_iterator", "itertools.zip_longest", "itertools.pairwise"].contains n = false) (hQ : Q () s) : wpAny M A (letOwnedTupleGo tg (.ref it) u) Q E s := by
  unfold letOwnedTupleGo
  cases tg <;> first
    | exact wpAny_pure hQ
    | (cases u <;> first
        | exact wpAny_pure hQ
        | (refine wpAny_bind (wpAny_load ho ?_)
           rw [hc, hd]
           show wpAny M A (if (["enumerate", "zip", "dict_itemiterator", "dict_reverseitemiterator", "odict_iterator", "itertools.zip_longest", "itertools.pairwise"].contains n && vs[0]? == some (rawInt _)) = true then _ else _) Q E s
           rw [if_neg (by intro h; rw [hn, Bool.false_and] at h; cases h)]
           exact wpAny_pure hQ))

/-- the list at a, as it stands at each turn (a loop may append to it) -/
def Itl (K : PySem.W.Frag) (a : Addr) : It :=
  ⟨fun i H => ∃ xs x, SqL K H a xs ∧ xs[i]? = some x, fun i H x H' => H' = H ∧ ∀ xs, SqL K H a xs → xs[i]? = some x, fun i H => ∃ xs, SqL K H a xs ∧ xs.length ≤ i⟩
/-- lo, lo + 1, .. (n of them) -/
def Itr (lo : Int) (n : Nat) : It := ⟨fun i _ => i < n, fun i H x H' => H' = H ∧ x = .int (lo + i), fun i _ => n ≤ i⟩
theorem turn_list {P : Program} {w : World} {K : PySem.W.Frag} {tg : Expr} (a it : Addr) : Turn P w K tg (Itl K a) [it] it (fun i h => h.IsListIter it a i) where
  mem := by simp
  obj := fun i h st b hb => by
    have e : b = it := by simpa using hb
    subst e
    obtain ⟨o, e, c, d⟩ := st
    exact ⟨o, e, fun v z => by rw [d] at z; cases z⟩
  keep := fun i h h' st k => st.at fun o e => k it (by simp) o e
  item := by
    intro X hP hw hK hc i pins s σ H E I hf st hg
    subst hP hw hK
    obtain ⟨xs, x, hq, hx⟩ := hg
    obtain ⟨its, rv, p, hz⟩ := I.list hq
    obtain ⟨u, hu, ru⟩ := rv.get hx
    obtain ⟨f0, f1, f2, f3, f4, f5⟩ := hf it (by simp)
    refine wpAny_pyNext_list_item st p.isList (x := u) (by simpa using hu) fun h' st' sb => ?_
    have I1 : Inv X pins σ H { s with heap := h' } := I.turned (t' := s.toks) (fun b o hb e => (sb.2 b hb).trans e) f0 f1 f3 f4 f5
    obtain ⟨o, e, c, d⟩ := id st'
    exact ⟨u, rfl, go_of (s := { s with heap := h' }) e c d (by decide) ⟨x, H, I1, ru, ⟨rfl, fun ys hy => by rw [I.list_inj hy hq]; exact hx⟩, st', fun b hb => (hf b hb).1⟩⟩
  done := by
    intro X hP hw hK hc i pins s σ H E I hf st hg
    subst hP hw hK
    obtain ⟨xs, hq, hx⟩ := hg
    obtain ⟨its, rv, p, hz⟩ := I.list hq
    obtain ⟨f0, f1, f2, f3, f4, f5⟩ := hf it (by simp)
    have hl := rv.length
    exact wpAny_pyNext_list_end (I.ok.hd hc) st p.isList (by simp; omega) fun h' eb => ⟨rfl, I.turned (t' := s.toks) (fun b o hb e => eb b o hb e) f0 f1 f3 f4 f5⟩
  self := fun _ _ _ _ _ st h => wpAny_pyIter_listiter st h
theorem turn_range {P : Program} {w : World} {K : PySem.W.Frag} {tg : Expr} (it : Addr) (lo : Int) (n : Nat) : Turn P w K tg (Itr lo n) [it] it (fun i h => IsRangeIter h it (lo + (i : Nat) * 1) ((n : Int) - (i : Nat)) 1) where
  mem := by simp
  obj := fun i h st b hb => by
    have e : b = it := by simpa using hb
    subst e
    exact ⟨_, st, fun v z => by
      have z' : Data.fields _ = Data.cell v := z
      cases z'⟩
  keep := fun i h h' st k => k it (by simp) _ st
  item := by
    intro X hP hw hK hc i pins s σ H E I hf st hg
    subst hP hw hK
    obtain ⟨f0, f1, f2, f3, f4, f5⟩ := hf it (by simp)
    have W := Walks.range (prog := X.prog) (w := X.w) (I.ok.hd hc) it lo 1 n
    refine W.item i s _ _ hg st fun v h' tk hv st' kk => ?_
    obtain ⟨t, rfl⟩ := hv
    have I1 : Inv X pins σ H { s with heap := h', toks := tk } := I.turned (fun b o hb e => kk b o (by simpa using hb) e) f0 f1 f3 f4 f5
    refine ⟨_, rfl, go_of (s := { s with heap := h', toks := tk }) (n := "range_iterator") st' rfl rfl (by decide) ⟨.int (lo + i), H, I1, ⟨t, ?_⟩, ⟨rfl, rfl⟩, st', fun b hb => (hf b hb).1⟩⟩
    rw [Int.mul_one]
  done := by
    intro X hP hw hK hc i pins s σ H E I hf st hg
    subst hP hw hK
    obtain ⟨f0, f1, f2, f3, f4, f5⟩ := hf it (by simp)
    exact wpAny_pyNext_range_end (I.ok.hd hc) st (by have : n ≤ i := hg; omega) fun h' eb => ⟨rfl, I.turned (t' := s.toks) (fun b o hb e => eb b o hb e) f0 f1 f3 f4 f5⟩
  self := fun _ _ _ _ _ st h => wpAny_pyIter_rangeiter st h
end L2

namespace L2
open PySem PySem.Spec PyProof.Rows
section
variable {X : Cx} {tg : Expr}
def iList (K : PySem.W.Frag) (tl : TE) : TI := fun σ H R => tl σ H fun x H1 => ∃ a, x = .ref a ∧ (∃ xs, SqL K H1 a xs) ∧ R (Itl K a) H1
theorem pi_list {l : Expr} {tl : TE} (hl : PE X l tl) : PI X tg l (iList X.K tl) := by
  intro pins s σ H R I h
  refine thn (hl pins s σ H _ I h) fun v s1 ⟨x, H1, I1, r1, q1⟩ => ?_
  obtain ⟨a, e, ⟨xs, hq⟩, q⟩ := q1
  subst e
  cases r1
  obtain ⟨its, rv, p, hz⟩ := I1.list hq
  refine wpAny_pyIter_list p.isList ?_
  refine ⟨s1.heap.objs.size, [s1.heap.objs.size], _, _, H1, rfl, I1.kept (t' := s1.toks) fun b o e => Heap.get?_push_of_some _ e, turn_list a _, ⟨_, Heap.get?_push_size _ rfl, rfl, rfl⟩, fun b hb => ?_, q⟩
  have e : b = s1.heap.objs.size := by simpa using hb
  subst e
  exact I1.fpOk (Nat.le_refl _) (I1.hok.fresh (Nat.le_refl _))
/-- a range object just made, walked -/
theorem range_it {pins : List (Addr × Obj)} {σ : St} {H : Hp} {s : Shared} {R : It → Hp → Prop} {E : Value → Shared → Prop} {lo hi : Int} {t u v : Tok} {tk : Nat} (I : Inv X pins σ H s) (h1 : -(2 ^ 62) ≤ lo) (h2 : lo < 2 ^ 62) (h3 : -(2 ^ 62) ≤ hi) (h4 : hi < 2 ^ 62)
    (q : R (Itr lo (hi - lo).toNat) H) : wpAny (model X.prog X.w) X.A (pyIter (.ref s.heap.objs.size)) (PIE X pins σ tg R) E { s with heap := s.heap.push { cls := .type "range", data := .fields #[.int lo t, .int hi u, .int 1 v] }, toks := tk } := by
  refine wpAny_pyIter_range (IsRange.new ..) (small_one h1 h2 h3 h4) ?_
  have I1 : Inv X pins σ H { s with heap := s.heap.push { cls := .type "range", data := .fields #[.int lo t, .int hi u, .int 1 v] }, toks := tk } := I.kept fun b o e => Heap.get?_push_of_some _ e
  refine ⟨(s.heap.push { cls := .type "range", data := .fields #[.int lo t, .int hi u, .int 1 v] }).objs.size, [(s.heap.push { cls := .type "range", data := .fields #[.int lo t, .int hi u, .int 1 v] }).objs.size], _, _, H, rfl,
    I1.kept (t' := tk) fun b o e => Heap.get?_push_of_some _ e, turn_range _ lo (hi - lo).toNat, ?_, fun b hb => ?_, q⟩
  · have e1 : lo + ((0 : Nat) : Int) * 1 = lo := by simp
    have e2 : (((hi - lo).toNat : Nat) : Int) - ((0 : Nat) : Int) = Builtin.Range.rangeSize lo hi 1 := by rw [rangeSize_one]; split <;> omega
    show IsRangeIter _ _ (lo + ((0 : Nat) : Int) * 1) ((((hi - lo).toNat : Nat) : Int) - ((0 : Nat) : Int)) 1
    rw [e1, e2]
    exact Heap.get?_push_size _ rfl
  · have e : b = (s.heap.push { cls := .type "range", data := .fields #[.int lo t, .int hi u, .int 1 v] }).objs.size := by simpa using hb
    subst e
    exact I1.fpOk (Nat.le_refl _) (I1.hok.fresh (Nat.le_refl _))
def iRng1 (ta : TA) : TI := fun σ H R => ta σ H fun vs H1 => ∃ j : Int, vs = [.int j] ∧ -(2 ^ 62) ≤ j ∧ j < 2 ^ 62 ∧ R (Itr 0 j.toNat) H1
def iRng2 (ta : TA) : TI := fun σ H R => ta σ H fun vs H1 => ∃ i j : Int, vs = [.int i, .int j] ∧ (-(2 ^ 62) ≤ i ∧ i < 2 ^ 62 ∧ -(2 ^ 62) ≤ j ∧ j < 2 ^ 62) ∧ R (Itr i (j - i).toNat) H1
theorem pi_range1 {a : Expr} {ta : TA} {p pos : Pos} (hg : Gl X "range") (hm : X.mg "range" = none) (ha : PA X [a] ta) (hs : starEach [a] X.env = [(false, eval a X.env)] := by rfl) : PI X tg (.Call (.Name "range" p) [a] [] pos) (iRng1 ta) := by
  intro pins s σ H R I h
  refine Call_ (ld_blt I hg hm boot_range (PyProof.Rows.callWith_type1 (thn (ha pos pins s σ H _ I h) fun us s1 ⟨vs, H1, I1, r1, q1⟩ => ?_) hs rfl))
  obtain ⟨j, e, q1, q2, q⟩ := q1
  subst e
  cases r1 with
  | cons r rr =>
    cases rr
    obtain ⟨t, rfl⟩ := r
    exact call_range_1 (range_it I1 (by omega) (by omega) q1 q2 (by simpa using q))
theorem pi_range2 {a b : Expr} {ta : TA} {p pos : Pos} (hg : Gl X "range") (hm : X.mg "range" = none) (ha : PA X [a, b] ta) (hs : starEach [a, b] X.env = [(false, eval a X.env), (false, eval b X.env)] := by rfl) (hs2 : starEach [b] X.env = [(false, eval b X.env)] := by rfl) :
    PI X tg (.Call (.Name "range" p) [a, b] [] pos) (iRng2 ta) := by
  intro pins s σ H R I h
  refine Call_ (ld_blt I hg hm boot_range (PyProof.Rows.callWith_type1 (thn (ha pos pins s σ H _ I h) fun us s1 ⟨vs, H1, I1, r1, q1⟩ => ?_) (by rw [hs, hs2]) (by rw [hs2]; rfl)))
  obtain ⟨i, j, e, ⟨q1, q2, q3, q4⟩, q⟩ := q1
  subst e
  cases r1 with
  | cons r rr =>
    cases rr with
    | cons r' rr =>
      cases rr
      obtain ⟨t, rfl⟩ := r
      obtain ⟨t', rfl⟩ := r'
      exact call_range_2 (range_it I1 q1 q2 q3 q4 q)

/-! ### for -/
/-- W: the invariant by the turn and a measure; N: what the body is to reach -/
def tFor (wi : TI) (g : TG) (tb : TS) : TS := fun D σ H => wi σ H fun J H1 => ∃ W : Nat → Nat → St → Hp → Prop, (∃ m, W 0 m σ H1) ∧ ∀ i m σ H, W i m σ H →
  (J.stop i H ∧ D.nx σ H) ∨ (J.go i H ∧ ∃ N : St → Hp → Prop, (∀ σ' H', N σ' H' → ∃ m', m' < m ∧ W (i + 1) m' σ' H') ∧ ∀ x H', J.yld i H x H' → g x σ H' fun σ2 H2 => tb { D with nx := N, ct := N, bk := D.nx } σ2 H2)
/-- the records at fp as they stand -/
def pinsAt (fp : List Addr) (h : Heap) : List (Addr × Obj) := fp.filterMap fun b => (h.get? b).map fun o => (b, o)
theorem mem_pinsAt {fp : List Addr} {h : Heap} {b : Addr} {o : Obj} (hb : b ∈ fp) (e : h.get? b = some o) : (b, o) ∈ pinsAt fp h := List.mem_filterMap.mpr ⟨b, hb, by rw [e]; rfl⟩
theorem of_pinsAt {fp : List Addr} {h : Heap} {p : Addr × Obj} (hp : p ∈ pinsAt fp h) : p.1 ∈ fp ∧ h.get? p.1 = some p.2 := by
  obtain ⟨b, hb, e⟩ := List.mem_filterMap.mp hp
  cases q : h.get? b with
  | none => rw [q] at e; cases e
  | some o =>
    rw [q] at e
    have e' : (b, o) = p := Option.some.inj e
    subst e'
    exact ⟨hb, q⟩
theorem Inv.pinned {pins : List (Addr × Obj)} {σ : St} {H : Hp} {s : Shared} {fp : List Addr} (I : Inv X pins σ H s) (hf : ∀ b ∈ fp, FpOk X pins H b) (ho : ∀ b ∈ fp, ∃ o, s.heap.get? b = some o ∧ ∀ v, o.data ≠ .cell v) : Inv X (pins ++ pinsAt fp s.heap) σ H s :=
  I.pins_of fun p hp => (List.mem_append.mp hp).elim (fun z => I.pin p (List.mem_append_right _ z)) fun z => by
    obtain ⟨hb, e⟩ := of_pinsAt z
    obtain ⟨f0, f1, f2, _⟩ := hf p.1 hb
    obtain ⟨o, e', d⟩ := ho p.1 hb
    rw [e] at e'; cases e'
    exact ⟨e, f0, f1, f2, d⟩
theorem Inv.unpinned {pins pl : List (Addr × Obj)} {σ : St} {H : Hp} {s : Shared} (I : Inv X (pins ++ pl) σ H s) : Inv X pins σ H s := I.pins_of fun p hp => I.pin p (List.mem_append_right _ (List.mem_append_left _ hp))
theorem ps_for {iter : Expr} {body : List Stmt} {wi : TI} {g : TG} {tb : TS} {pos : Pos} (hp : PassesOwn (model X.prog X.w) X.A X.env X.xe) (hc : X.calm = true) (hi : PI X tg iter wi) (hg : PG X tg g) (hb : PSs X body tb)
    (hs : ∀ x, foldedSetIterable iter X.env x = pure x := by intro _; rfl) : PS X (.For tg iter body [] pos) (tFor wi g tb) := by
  intro pins s σ H D I h
  refine wpAny_For (thn (hi pins s σ H _ I h) fun v s1 h1 => thn h1 fun itv s2 h2 => ?_) hs
  obtain ⟨it, fp, tn, J, H2, e, I2, T, st2, f2, W, ⟨m0, w0⟩, turn⟩ := h2
  subst e
  -- what stays true of the iterator's objects through the loop
  have stat : ∀ {H' : Hp}, (∀ b ∈ fp, H' b = none) → ∀ b ∈ fp, FpOk X pins H' b := fun hn b hb => ⟨hn b hb, (f2 b hb).2⟩
  refine codeAny_forLoop_any (fun n s' => ∃ i σ' H', Inv X pins σ' H' s' ∧ tn i s'.heap ∧ (∀ b ∈ fp, H' b = none) ∧ W i n σ' H') ?_ m0 ⟨0, σ, H2, I2, st2, fun b hb => (f2 b hb).1, w0⟩
  rintro n s3 ⟨i, σ3, H3, I3, st3, fr3, w3⟩
  rcases turn i n σ3 H3 w3 with ⟨stop, qn⟩ | ⟨go, N, hN, step⟩
  · refine wpAny_passesOwn hp (thn (T.done X rfl rfl rfl hc i pins s3 σ3 H3 X.xe I3 (stat fr3) st3 stop) fun r s4 ⟨hr, I4⟩ => ?_)
    subst hr
    exact wpAny_execs_nil ⟨σ3, H3, I4, qn⟩
  · refine wpAny_passesOwn hp (thn (T.item X rfl rfl rfl hc i pins s3 σ3 H3 X.xe I3 (stat fr3) st3 go) fun r s4 ⟨u, hr, h4⟩ => ?_)
    subst hr
    refine wpAny_passesOwn hp (thn h4 fun _ s5 ⟨x, H5, I5, r5, y5, st5, fr5⟩ => ?_)
    have I5' := I5.pinned (stat fr5) (T.obj _ _ st5)
    refine wpAny_passesOwn hp (thn (hg _ s5 σ3 H5 x u _ I5' r5 (step x H5 y5)) fun _ s6 ⟨σ6, H6, I6, q6⟩ => ?_)
    refine wpAny_passesOwn hp (thn (hb _ s6 σ6 H6 _ I6 q6) fun f s7 q7 => ?_)
    have again : ∀ {σ7 : St} {H7 : Hp}, Inv X (pins ++ pinsAt fp s5.heap) σ7 H7 s7 → N σ7 H7 → ∃ m, m < n ∧ ∃ i σ' H', Inv X pins σ' H' s7 ∧ tn i s7.heap ∧ (∀ b ∈ fp, H' b = none) ∧ W i m σ' H' := fun {σ7 H7} I7 n7 => by
      obtain ⟨m', hm, w7⟩ := hN σ7 H7 n7
      refine ⟨m', hm, i + 1, σ7, H7, I7.unpinned, T.keep _ _ _ st5 fun b hb o e => (I7.pin (b, o) (List.mem_append_right _ (List.mem_append_right _ (mem_pinsAt hb e)))).1, fun b hb => ?_, w7⟩
      obtain ⟨o, e, d⟩ := T.obj _ _ st5 b hb
      exact (I7.pin (b, o) (List.mem_append_right _ (List.mem_append_right _ (mem_pinsAt hb e)))).2.1
    cases f with
    | next => obtain ⟨σ7, H7, I7, n7⟩ := q7; exact again I7 n7
    | cont => obtain ⟨σ7, H7, I7, n7⟩ := q7; exact again I7 n7
    | brk => obtain ⟨σ7, H7, I7, q7⟩ := q7; exact ⟨σ7, H7, I7.unpinned, q7⟩
    | ret v => obtain ⟨x7, σ7, H7, I7, r7, q7⟩ := q7; exact ⟨x7, σ7, H7, I7.unpinned, r7, q7⟩
end

/-! ### the forms one uses -/
/-- over a list that the body leaves as it is -/
theorem for_list {K : PySem.W.Frag} {a : Addr} {xs : List V} {g : TG} {tb : TS} {D : Ends} {σ : St} {H : Hp} (Pv : Nat → St → Hp → Prop) (h0 : Pv 0 σ H) (hl : ∀ i σ H, i ≤ xs.length → Pv i σ H → SqL K H a xs)
    (hs : ∀ i x σ H, xs[i]? = some x → Pv i σ H → g x σ H fun σ2 H2 => tb { D with nx := Pv (i + 1), ct := Pv (i + 1), bk := D.nx } σ2 H2) (hd : ∀ σ H, Pv xs.length σ H → D.nx σ H) :
    ∃ W : Nat → Nat → St → Hp → Prop, (∃ m, W 0 m σ H) ∧ ∀ i m σ H, W i m σ H →
      ((Itl K a).stop i H ∧ D.nx σ H) ∨ ((Itl K a).go i H ∧ ∃ N : St → Hp → Prop, (∀ σ' H', N σ' H' → ∃ m', m' < m ∧ W (i + 1) m' σ' H') ∧ ∀ x H', (Itl K a).yld i H x H' → g x σ H' fun σ2 H2 => tb { D with nx := N, ct := N, bk := D.nx } σ2 H2) := by
  refine ⟨fun i m σ H => m = xs.length - i ∧ i ≤ xs.length ∧ Pv i σ H, ⟨xs.length, by simp, Nat.zero_le _, h0⟩, ?_⟩
  rintro i m σ H ⟨rfl, hi, p⟩
  have q := hl i σ H hi p
  by_cases hlt : i < xs.length
  · refine .inr ⟨⟨xs, xs[i], q, by simp [hlt]⟩, Pv (i + 1), fun σ' H' p' => ⟨xs.length - (i + 1), by omega, rfl, hlt, p'⟩, fun x H' y => ?_⟩
    obtain ⟨e, y⟩ := y
    subst e
    exact hs i x σ _ (y xs q) p
  · have e : i = xs.length := by omega
    subst e
    exact .inl ⟨⟨xs, q, Nat.le_refl _⟩, hd σ H p⟩
theorem for_range {lo : Int} {n : Nat} {g : TG} {tb : TS} {D : Ends} {σ : St} {H : Hp} (Pv : Nat → St → Hp → Prop) (h0 : Pv 0 σ H)
    (hs : ∀ i σ H, i < n → Pv i σ H → g (.int (lo + i)) σ H fun σ2 H2 => tb { D with nx := Pv (i + 1), ct := Pv (i + 1), bk := D.nx } σ2 H2) (hd : ∀ σ H, Pv n σ H → D.nx σ H) :
    ∃ W : Nat → Nat → St → Hp → Prop, (∃ m, W 0 m σ H) ∧ ∀ i m σ H, W i m σ H →
      ((Itr lo n).stop i H ∧ D.nx σ H) ∨ ((Itr lo n).go i H ∧ ∃ N : St → Hp → Prop, (∀ σ' H', N σ' H' → ∃ m', m' < m ∧ W (i + 1) m' σ' H') ∧ ∀ x H', (Itr lo n).yld i H x H' → g x σ H' fun σ2 H2 => tb { D with nx := N, ct := N, bk := D.nx } σ2 H2) := by
  refine ⟨fun i m σ H => m = n - i ∧ i ≤ n ∧ Pv i σ H, ⟨n, by simp, Nat.zero_le _, h0⟩, ?_⟩
  rintro i m σ H ⟨rfl, hi, p⟩
  by_cases hlt : i < n
  · refine .inr ⟨hlt, Pv (i + 1), fun σ' H' p' => ⟨n - (i + 1), by omega, rfl, hlt, p'⟩, fun x H' y => ?_⟩
    obtain ⟨e, y⟩ := y
    subst e y
    exact hs i σ _ hlt p
  · have e : i = n := by omega
    subst e
    exact .inl ⟨Nat.le_refl _, hd σ H p⟩
end L2

namespace L2
open PySem PySem.Spec PyProof.Rows

abbrev R2 := V → V → Hp → VK → Prop
/-- a two-place operation on values: f is binaryOp op, inplaceOp op or compareOp op -/
def OpR (X : Cx) (f : Value → Value → Sem Value) (r : R2) : Prop :=
  ∀ (pins : List (Addr × Obj)) (s : Shared) (σ : St) (H : Hp) (x y : V) (v u : Value) (Q : VK), Inv X pins σ H s → RelV x v → RelV y u → r x y H Q →
    wpAny (model X.prog X.w) X.A (f v u) (EP X pins σ Q) X.xe s
/-- a one-place operation -/
def UnR (X : Cx) (f : Value → Sem Value) (r : V → Hp → VK → Prop) : Prop :=
  ∀ (pins : List (Addr × Obj)) (s : Shared) (σ : St) (H : Hp) (x : V) (v : Value) (Q : VK), Inv X pins σ H s → RelV x v → r x H Q →
    wpAny (model X.prog X.w) X.A (f v) (EP X pins σ Q) X.xe s
/-- a call of a value that is known (a builtin, a type) with values -/
def CallR (X : Cx) (f : Value) (r : List V → Hp → VK → Prop) : Prop :=
  ∀ (pins : List (Addr × Obj)) (s : Shared) (σ : St) (H : Hp) (xs : List V) (us : List Value) (Q : VK), Inv X pins σ H s → Vals xs us → r xs H Q →
    wpAny (model X.prog X.w) X.A (call f us) (EP X pins σ Q) X.xe s

def tOp (r : R2) (ta tb : TE) : TE := fun σ H Q => ta σ H fun x H1 => tb σ H1 fun y H2 => r x y H2 Q
def tUn (r : V → Hp → VK → Prop) (ta : TE) : TE := fun σ H Q => ta σ H fun x H1 => r x H1 Q
/-- ints in, under C, and a value out -/
def rI (C : Int → Int → Prop) (g : Int → Int → V) : R2 := fun x y H Q => ∃ i j, x = .int i ∧ y = .int j ∧ C i j ∧ Q (g i j) H
def rI0 (g : Int → Int → V) : R2 := fun x y H Q => ∃ i j, x = .int i ∧ y = .int j ∧ Q (g i j) H
def rU (g : Int → V) : V → Hp → VK → Prop := fun x H Q => ∃ i, x = .int i ∧ Q (g i) H

section
variable {X : Cx} {a b c : Expr} {ta tb tc : TE} {pos : Pos}

theorem binT (ha : PE X a ta) (hb : PE X b tb) {pins : List (Addr × Obj)} {s : Shared} {σ : St} {H : Hp} {R : V → V → Hp → Prop} (I : Inv X pins σ H s)
    (h : ta σ H fun x H1 => tb σ H1 fun y H2 => R x y H2) {Q : Value → Shared → Prop} {f : Value → Value → Sem Value}
    (hf : ∀ v u s2 x y H2, Inv X pins σ H2 s2 → RelV x v → RelV y u → R x y H2 → wpAny (model X.prog X.w) X.A (f v u) Q X.xe s2) :
    wpAny (model X.prog X.w) X.A (eval a X.env) (fun v s₁ => wpAny (model X.prog X.w) X.A (eval b X.env) (fun u s₂ => wpAny (model X.prog X.w) X.A (f v u) Q X.xe s₂) X.xe s₁) X.xe s := by
  refine thn (ha pins s σ H _ I h) fun v s1 ⟨x, H1, I1, r1, q1⟩ => ?_
  refine thn (hb pins s1 σ H1 _ I1 q1) fun u s2 ⟨y, H2, I2, r2, q2⟩ => ?_
  exact hf v u s2 x y H2 I2 r1 r2 q2

theorem pe_op {op : Operator} {r : R2} (ho : OpR X (binaryOp op) r) (ha : PE X a ta) (hb : PE X b tb) : PE X (.BinOp a op b pos) (tOp r ta tb) := by
  intro pins s σ H Q I h
  exact wpAny_BinOp (binT ha hb I h fun v u s2 x y H2 I2 rx ry q => ho pins s2 σ H2 x y v u Q I2 rx ry q)
theorem pe_un {op : UnaryOp} {r : V → Hp → VK → Prop} (ho : UnR X (unaryOp op) r) (ha : PE X a ta) : PE X (.UnaryOp op a pos) (tUn r ta) := by
  intro pins s σ H Q I h
  exact UnaryOp_ (thn (ha pins s σ H _ I h) fun v s1 ⟨x, H1, I1, r1, q1⟩ => ho pins s1 σ H1 x v Q I1 r1 q1)

/-! ### ints -/
theorem opI {f : Value → Value → Sem Value} {C : Int → Int → Prop} {g : Int → Int → Int}
    (rule : ∀ (i j : Int) (t u : Tok) (s : Shared) (Q : Value → Shared → Prop) (E : Value → Shared → Prop), C i j → Q (.int (g i j) s.toks) { s with toks := s.toks + 1 } → wpAny (model X.prog X.w) X.A (f (.int i t) (.int j u)) Q E s) :
    OpR X f (rI C fun i j => .int (g i j)) := by
  intro pins s σ H x y v u Q I rx ry h
  obtain ⟨i, j, rfl, rfl, hc, q⟩ := h
  obtain ⟨t, rfl⟩ := rx
  obtain ⟨t', rfl⟩ := ry
  exact rule i j t t' s _ _ hc ⟨.int (g i j), H, I.tok _, ⟨_, rfl⟩, q⟩
theorem opI0 {f : Value → Value → Sem Value} {g : Int → Int → Int}
    (rule : ∀ (i j : Int) (t u : Tok) (s : Shared) (Q : Value → Shared → Prop) (E : Value → Shared → Prop), Q (.int (g i j) s.toks) { s with toks := s.toks + 1 } → wpAny (model X.prog X.w) X.A (f (.int i t) (.int j u)) Q E s) :
    OpR X f (rI0 fun i j => .int (g i j)) := by
  intro pins s σ H x y v u Q I rx ry h
  obtain ⟨i, j, rfl, rfl, q⟩ := h
  obtain ⟨t, rfl⟩ := rx
  obtain ⟨t', rfl⟩ := ry
  exact rule i j t t' s _ _ ⟨.int (g i j), H, I.tok _, ⟨_, rfl⟩, q⟩
theorem opB0 {f : Value → Value → Sem Value} {g : Int → Int → Bool}
    (rule : ∀ (i j : Int) (t u : Tok) (s : Shared) (Q : Value → Shared → Prop) (E : Value → Shared → Prop), Q (.bool (g i j)) s → wpAny (model X.prog X.w) X.A (f (.int i t) (.int j u)) Q E s) :
    OpR X f (rI0 fun i j => .bl (g i j)) := by
  intro pins s σ H x y v u Q I rx ry h
  obtain ⟨i, j, rfl, rfl, q⟩ := h
  obtain ⟨t, rfl⟩ := rx
  obtain ⟨t', rfl⟩ := ry
  exact rule i j t t' s _ _ ⟨.bl (g i j), H, I, rfl, q⟩

def CDiv (i j : Int) : Prop := 0 < j ∧ j < 1073741824
def CPow (i j : Int) : Prop := 0 ≤ j ∧ j ≤ 1000000 ∧ i.natAbs < 2 ^ 64
def CMul (i j : Int) : Prop := (-(2 ^ 64) < i ∧ i < 2 ^ 64) ∨ (-(2 ^ 64) < j ∧ j < 2 ^ 64)
theorem CMul.ok {i j : Int} (h : CMul i j) : IntMulOk i j := by
  rcases h with ⟨h1, h2⟩ | ⟨h1, h2⟩
  · exact .of_left (intBits_le_64 h1 h2)
  · exact .of_right (intBits_le_64 h1 h2)

theorem op_add : OpR X (binaryOp .Add) (rI0 fun i j => .int (i + j)) := opI0 fun _ _ _ _ _ _ _ q => add_int q
theorem op_sub : OpR X (binaryOp .Sub) (rI0 fun i j => .int (i - j)) := opI0 fun _ _ _ _ _ _ _ q => sub_int q
theorem op_mul : OpR X (binaryOp .Mult) (rI CMul fun i j => .int (i * j)) := opI fun _ _ _ _ _ _ _ hc q => mul_int q hc.ok
/-- // by a positive divisor -/
theorem op_fdiv : OpR X (binaryOp .FloorDiv) (rI CDiv fun i j => .int (i / j)) := opI fun i j _ _ _ _ _ hc q => by
  have h1 : (0 : Int) < j := hc.1
  have h2 : j < 1073741824 := hc.2
  exact floordiv_int (by omega) (by rw [Int.fdiv_eq_ediv_of_nonneg i (by omega)]; exact q) (.inl (PyProof.noPylong_small (by omega)))
/-- % by a positive divisor of any size -/
theorem op_mod : OpR X (binaryOp .Mod) (rI (fun _ j => 0 < j) fun i j => .int (i % j)) := opI fun i j _ _ _ _ _ hc q => by
  have h1 : (0 : Int) < j := hc
  exact mod_int' (by omega) (by rw [Int.fmod_eq_emod_of_nonneg i (by omega)]; exact q)
theorem op_pow : OpR X (binaryOp .Pow) (rI CPow fun i j => .int (i ^ j.toNat)) := opI fun _ _ _ _ _ _ _ hc q => pow_int_small hc.1 hc.2.1 hc.2.2 q


theorem unI {f : Value → Sem Value} {g : Int → Int}
    (rule : ∀ (i : Int) (t : Tok) (s : Shared) (Q : Value → Shared → Prop) (E : Value → Shared → Prop), Q (.int (g i) s.toks) { s with toks := s.toks + 1 } → wpAny (model X.prog X.w) X.A (f (.int i t)) Q E s) :
    UnR X f (rU fun i => .int (g i)) := by
  intro pins s σ H x v Q I rx h
  obtain ⟨i, rfl, q⟩ := h
  obtain ⟨t, rfl⟩ := rx
  exact rule i t s _ _ ⟨.int (g i), H, I.tok _, ⟨_, rfl⟩, q⟩
theorem un_neg : UnR X (unaryOp .USub) (rU fun i => .int (-i)) := unI fun _ _ _ _ _ q => neg_int q

/-! ### bools among ints: n += (a < b) -/
end

/-! ### comparisons -/
/-- the scalars that == tells apart as data does -/
def scal : V → V → Bool
  | .non, .non => true | .non, .int _ => true | .int _, .non => true | .non, .bl _ => true | .bl _, .non => true | .non, .str _ => true | .str _, .non => true
  | .int _, .int _ => true | .bl _, .bl _ => true | .str _, .str _ => true | .byt _, .byt _ => true
  | .int _, .str _ => true | .str _, .int _ => true | .bl _, .str _ => true | .str _, .bl _ => true
  | _, _ => false
def rEq : R2 := fun x y H Q => scal x y = true ∧ Q (.bl (decide (x = y))) H
def rNe : R2 := fun x y H Q => scal x y = true ∧ Q (.bl (!decide (x = y))) H

theorem dec_int {i j : Int} : decide (V.int i = V.int j) = (i == j) := by
  rw [Bool.eq_iff_iff]
  simp
theorem dec_bl {i j : Bool} : decide (V.bl i = V.bl j) = (i == j) := by
  rw [Bool.eq_iff_iff]
  simp
theorem dec_str {i j : Str} : decide (V.str i = V.str j) = (i == j) := by
  rw [Bool.eq_iff_iff]
  simp
theorem dec_byt {i j : Array UInt8} : decide (V.byt i = V.byt j) = (i.toList == j.toList) := by
  rw [Bool.eq_iff_iff]
  cases i
  cases j
  simp

section
variable {X : Cx} {a b c : Expr} {ta tb tc : TE} {pos : Pos}
theorem fin_bl {pins : List (Addr × Obj)} {σ : St} {H : Hp} {s : Shared} {Q : VK} {k k' : Bool} (I : Inv X pins σ H s) (q : Q (.bl k) H) (e : k = k') : EP X pins σ Q (.bool k') s := by
  subst e
  exact ⟨.bl k, H, I, rfl, q⟩
theorem op_eq : OpR X (compareOp .Eq) rEq := by
  intro pins s σ H x y v u Q I rx ry h
  obtain ⟨hs, q⟩ := h
  cases x with
  | non =>
    cases rx
    cases y with
    | non => cases ry; exact PySem.EqNone.eq_none_none (fin_bl I q (by simp))
    | bl j => cases ry; exact PySem.EqNone.eq_none_bool (fin_bl I q (by simp))
    | int j => obtain ⟨t', rfl⟩ := ry; exact PySem.EqNone.eq_none_int (fin_bl I q (by simp))
    | str j => obtain ⟨t', rfl⟩ := ry; exact PySem.EqNone.eq_none_str (fin_bl I q (by simp))
    | _ => exact absurd (show false = true from hs) Bool.false_ne_true
  | bl i =>
    cases rx
    cases y with
    | non => cases ry; exact PySem.EqNone.eq_bool_none (fin_bl I q (by simp))
    | bl j => cases ry; exact eq_bool (fin_bl I q dec_bl)
    | str j => obtain ⟨t', rfl⟩ := ry; exact PySem.EqMixed.eq_bool_str (fin_bl I q (by simp))
    | _ => exact absurd (show false = true from hs) Bool.false_ne_true
  | int i =>
    obtain ⟨t, rfl⟩ := rx
    cases y with
    | non => cases ry; exact PySem.EqNone.eq_int_none (fin_bl I q (by simp))
    | int j => obtain ⟨t', rfl⟩ := ry; exact eq_int (fin_bl I q dec_int)
    | str j => obtain ⟨t', rfl⟩ := ry; exact PySem.EqMixed.eq_int_str (fin_bl I q (by simp))
    | _ => exact absurd (show false = true from hs) Bool.false_ne_true
  | str i =>
    obtain ⟨t, rfl⟩ := rx
    cases y with
    | non => cases ry; exact PySem.EqNone.eq_str_none (fin_bl I q (by simp))
    | bl j => cases ry; exact PySem.EqMixed.eq_str_bool (fin_bl I q (by simp))
    | int j => obtain ⟨t', rfl⟩ := ry; exact PySem.EqMixed.eq_str_int (fin_bl I q (by simp))
    | str j => obtain ⟨t', rfl⟩ := ry; exact eq_str (fin_bl I q dec_str)
    | _ => exact absurd (show false = true from hs) Bool.false_ne_true
  | byt i =>
    obtain ⟨t, rfl⟩ := rx
    cases y with
    | byt j => obtain ⟨t', rfl⟩ := ry; exact PySem.W.eq_bytes (fin_bl I q dec_byt)
    | _ => exact absurd (show false = true from hs) Bool.false_ne_true
  | _ => cases y <;> exact absurd (show false = true from hs) Bool.false_ne_true
theorem op_ne : OpR X (compareOp .NotEq) rNe := by
  intro pins s σ H x y v u Q I rx ry h
  obtain ⟨hs, q⟩ := h
  cases x with
  | non =>
    cases rx
    cases y with
    | non => cases ry; exact PySem.EqNone.ne_none_none (fin_bl I q (by simp))
    | bl j => cases ry; exact PySem.EqNone.ne_none_bool (fin_bl I q (by simp))
    | int j => obtain ⟨t', rfl⟩ := ry; exact PySem.EqNone.ne_none_int (fin_bl I q (by simp))
    | str j => obtain ⟨t', rfl⟩ := ry; exact PySem.EqNone.ne_none_str (fin_bl I q (by simp))
    | _ => exact absurd (show false = true from hs) Bool.false_ne_true
  | bl i =>
    cases rx
    cases y with
    | non => cases ry; exact PySem.EqNone.ne_bool_none (fin_bl I q (by simp))
    | bl j => cases ry; exact ne_bool (fin_bl I q (congrArg not dec_bl))
    | str j => obtain ⟨t', rfl⟩ := ry; exact PySem.EqMixed.ne_bool_str (fin_bl I q (by simp))
    | _ => exact absurd (show false = true from hs) Bool.false_ne_true
  | int i =>
    obtain ⟨t, rfl⟩ := rx
    cases y with
    | non => cases ry; exact PySem.EqNone.ne_int_none (fin_bl I q (by simp))
    | int j => obtain ⟨t', rfl⟩ := ry; exact ne_int (fin_bl I q (congrArg not dec_int))
    | str j => obtain ⟨t', rfl⟩ := ry; exact PySem.EqMixed.ne_int_str (fin_bl I q (by simp))
    | _ => exact absurd (show false = true from hs) Bool.false_ne_true
  | str i =>
    obtain ⟨t, rfl⟩ := rx
    cases y with
    | non => cases ry; exact PySem.EqNone.ne_str_none (fin_bl I q (by simp))
    | bl j => cases ry; exact PySem.EqMixed.ne_str_bool (fin_bl I q (by simp))
    | int j => obtain ⟨t', rfl⟩ := ry; exact PySem.EqMixed.ne_str_int (fin_bl I q (by simp))
    | str j => obtain ⟨t', rfl⟩ := ry; exact ne_str (fin_bl I q (congrArg not dec_str))
    | _ => exact absurd (show false = true from hs) Bool.false_ne_true
  | byt i =>
    obtain ⟨t, rfl⟩ := rx
    cases y with
    | byt j => obtain ⟨t', rfl⟩ := ry; exact PySem.W.ne_bytes (fin_bl I q (congrArg not dec_byt))
    | _ => exact absurd (show false = true from hs) Bool.false_ne_true
  | _ => cases y <;> exact absurd (show false = true from hs) Bool.false_ne_true

theorem op_lt : OpR X (compareOp .Lt) (rI0 fun i j => .bl (decide (i < j))) := opB0 fun _ _ _ _ _ _ _ q => lt_int q
theorem op_le : OpR X (compareOp .LtE) (rI0 fun i j => .bl (decide (i ≤ j))) := opB0 fun _ _ _ _ _ _ _ q => le_int q
theorem op_gt : OpR X (compareOp .Gt) (rI0 fun i j => .bl (decide (j < i))) := opB0 fun _ _ _ _ _ _ _ q => gt_int q
theorem op_ge : OpR X (compareOp .GtE) (rI0 fun i j => .bl (decide (j ≤ i))) := opB0 fun _ _ _ _ _ _ _ q => ge_int q

/-- is None, is not None: the right side a value none -/
theorem op_isN : OpR X (compareOp .Is) (fun x y H Q => y = .non ∧ Q (.bl (decide (x = .non))) H) := by
  intro pins s σ H x y v u Q I rx ry h
  obtain ⟨rfl, q⟩ := h
  cases ry
  refine is_none_gen (fin_bl I q ?_)
  cases x <;> first
    | (cases rx; rfl)
    | (obtain ⟨t, rfl⟩ := rx; rfl)
theorem op_notN : OpR X (compareOp .IsNot) (fun x y H Q => y = .non ∧ Q (.bl (!decide (x = .non))) H) := by
  intro pins s σ H x y v u Q I rx ry h
  obtain ⟨rfl, q⟩ := h
  cases ry
  refine isnot_none_gen (fin_bl I q ?_)
  cases x <;> first
    | (cases rx; rfl)
    | (obtain ⟨t, rfl⟩ := rx; rfl)



theorem nomark (b : Expr) {op : CmpOp} (h : op ≠ .In := by decide) (h2 : op ≠ .NotIn := by decide) : behindInMarks op b = false := by
  have e1 : (op == CmpOp.In) = false := by cases op <;> first | rfl | exact absurd rfl h
  have e2 : (op == CmpOp.NotIn) = false := by cases op <;> first | rfl | exact absurd rfl h2
  cases b <;> simp [behindInMarks, e1, e2]
/-- a comparison as a value; hm: nomark b, or (for in, not in) by with_unfolding_all rfl -/
theorem pe_cmpR {op : CmpOp} {r : R2} (ho : OpR X (compareOp op) r) (ha : PE X a ta) (hb : PE X b tb) (hm : behindInMarks op b = false) : PE X (.Compare a [op] [b] pos) (tOp r ta tb) := by
  intro pins s σ H Q I h
  exact wpAny_Compare1 (binT ha hb I h fun v u s2 x y H2 I2 rx ry q => ho pins s2 σ H2 x y v u Q I2 rx ry q) hm
/-- a reading of a value as a test -/
def tTest (t : TE) : TT := fun σ H Q => t σ H fun x H' => ∃ k, x = .bl k ∧ Q k H'
theorem pt_cmpR {op : CmpOp} {r : R2} (ho : OpR X (compareOp op) r) (ha : PE X a ta) (hb : PE X b tb) (hm : behindInMarks op b = false) : PT X (.Compare a [op] [b] pos) (tTest (tOp r ta tb)) := by
  intro pins s σ H Q I h
  refine wpAny_isTrue_Compare1 (thn (ha pins s σ H _ I h) fun v s1 ⟨x, H1, I1, r1, q1⟩ => thn (hb pins s1 σ H1 _ I1 q1) fun u s2 ⟨y, H2, I2, r2, q2⟩ =>
    thn (ho pins s2 σ H2 x y v u _ I2 r1 r2 q2) fun c s3 ⟨z, H3, I3, r3, k, e, q3⟩ => ?_) hm
  subst e
  cases r3
  exact wpAny_truthy_bool ⟨H3, I3, q3⟩
/-- a op1 b op2 c -/
def tChain (r r' : R2) (ta tb tc : TE) : TE := fun σ H Q => ta σ H fun x H1 => tb σ H1 fun y H2 => r x y H2 fun z H3 => ∃ k, z = .bl k ∧
  (if k = true then tc σ H3 fun w' H4 => r' y w' H4 Q else Q (.bl false) H3)
theorem pt_chain {op op' : CmpOp} {r r' : R2} (ho : OpR X (compareOp op) r) (ho' : OpR X (compareOp op') r') (ha : PE X a ta) (hb : PE X b tb) (hc : PE X c tc)
    (hm : lastMarks [op, op'] [b, c] = false := by with_unfolding_all rfl) : PT X (.Compare a [op, op'] [b, c] pos) (tTest (tChain r r' ta tb tc)) := by
  intro pins s σ H Q I h
  refine isTrue_chain (thn (ha pins s σ H _ I h) fun v s1 ⟨x, H1, I1, r1, q1⟩ => test_link (thn (hb pins s1 σ H1 _ I1 q1) fun u s2 ⟨y, H2, I2, r2, q2⟩ =>
    thn (ho pins s2 σ H2 x y v u _ I2 r1 r2 q2) fun d s3 ⟨z, H3, I3, r3, k, e, q3⟩ => ?_)) hm
  subst e
  cases r3
  refine wpAny_truthy_bool ?_
  cases k with
  | false =>
    obtain ⟨k', e', q'⟩ := q3
    cases e'
    exact ite_ff ⟨H3, I3, q'⟩
  | true =>
    refine ite_tt (test_last (thn (hc pins s3 σ H3 _ I3 q3) fun w' s4 ⟨z', H4, I4, r4, q4⟩ => thn (ho' pins s4 σ H4 y z' u w' _ I4 r2 r4 q4) fun d' s5 ⟨z2, H5, I5, r5, k2, e2, q5⟩ => ?_))
    subst e2
    cases r5
    exact wpAny_truthy_bool ⟨H5, I5, q5⟩

/-! ### truth -/
theorem line63 : (sizeLine : Nat) < 2 ^ 63 := by rw [sizeLine_eq]; decide

/-! ### strs and bytes -/


/-! ### scalar builtins, by CallR -/
theorem vals1 {x : V} {us : List Value} (r : Vals [x] us) : ∃ u, us = [u] ∧ RelV x u := by
  cases r with
  | cons r1 r2 => cases r2; exact ⟨_, rfl, r1⟩
theorem vals2 {x y : V} {us : List Value} (r : Vals [x, y] us) : ∃ u w', us = [u, w'] ∧ RelV x u ∧ RelV y w' := by
  cases r with
  | cons r1 r2 =>
    cases r2 with
    | cons r3 r4 => cases r4; exact ⟨_, _, rfl, r1, r3⟩
theorem call_max2 (hc : X.calm = true) : CallR X (.builtin "max") (fun xs H Q => ∃ i j, xs = [.int i, .int j] ∧ Q (.int (if j > i then j else i)) H) := by
  intro pins s σ H xs us Q I r h
  obtain ⟨i, j, rfl, q⟩ := h
  obtain ⟨u, w', rfl, ⟨t, rfl⟩, ⟨t', rfl⟩⟩ := vals2 r
  refine max_two_ints (I.ok.hd hc) fun h' tk k => ⟨_, H, I.kept k, ?_, q⟩
  by_cases hj : j > i
  · rw [if_pos hj, if_pos hj]; exact ⟨_, rfl⟩
  · rw [if_neg hj, if_neg hj]; exact ⟨_, rfl⟩
theorem call_min2 (hc : X.calm = true) : CallR X (.builtin "min") (fun xs H Q => ∃ i j, xs = [.int i, .int j] ∧ Q (.int (if j < i then j else i)) H) := by
  intro pins s σ H xs us Q I r h
  obtain ⟨i, j, rfl, q⟩ := h
  obtain ⟨u, w', rfl, ⟨t, rfl⟩, ⟨t', rfl⟩⟩ := vals2 r
  refine min_two_ints (I.ok.hd hc) fun h' tk k => ⟨_, H, I.kept k, ?_, q⟩
  by_cases hj : j < i
  · rw [if_pos hj, if_pos hj]; exact ⟨_, rfl⟩
  · rw [if_neg hj, if_neg hj]; exact ⟨_, rfl⟩
theorem call_int1 : CallR X (.type "int") (fun xs H Q => (∃ i, xs = [.int i] ∧ Q (.int i) H) ∨ ∃ k, xs = [.bl k] ∧ Q (.int (if k then 1 else 0)) H) := by
  intro pins s σ H xs us Q I r h
  rcases h with ⟨i, rfl, q⟩ | ⟨k, rfl, q⟩
  · obtain ⟨u, rfl, t, rfl⟩ := vals1 r
    exact call_int_int ⟨.int i, H, I, ⟨_, rfl⟩, q⟩
  · obtain ⟨u, rfl, r1⟩ := vals1 r
    cases r1
    exact call_int_bool ⟨.int (if k then 1 else 0), H, I.tok _, ⟨_, rfl⟩, q⟩
end
end L2

namespace L2
open PySem PySem.Spec PyProof.Rows

/-! ### an instance, its attributes a map -/
structure ObjM (h : Heap) (x dx C : Addr) (mA : Str → Option Value) : Prop where
  obj : h.get? x = some (PySem.W.instObj C dx)
  ns : h.Ns1 dx mA
  ne : dx ≠ x

theorem lookIn_ns {h : Heap} {dx : Addr} {mA : Str → Option Value} (n : h.Ns1 dx mA) : ∃ od, h.get? dx = some od ∧ ∀ name, PySem.W.lookIn name od = some (mA name) := by
  obtain ⟨o, es, ep, ho, hd, hk, _, hm⟩ := n
  refine ⟨o, ho, fun name => ?_⟩
  have e := hm name
  unfold nsFind findBy at e
  rw [← Array.find?_toList] at e
  unfold PySem.W.lookIn
  rw [hd]
  dsimp only
  split
  · rename_i y q
    rw [q] at e
    exact congrArg some e
  · rename_i q
    rw [q] at e
    have a : es.toList.any (·.refKey) = false := by
      rw [List.any_eq_false]
      intro y hy
      obtain ⟨z, t, hkey⟩ := hk y (Array.mem_toList_iff.mp hy)
      simp [DictEntry.refKey, hkey]
    have a' : ¬ es.toList.any (·.refKey) = true := by rw [a]; exact Bool.false_ne_true
    rw [if_neg a']
    exact congrArg some e

theorem ObjM.look {h : Heap} {x dx C : Addr} {mA : Str → Option Value} (I : ObjM h x dx C mA) : ∃ od, PySem.W.InstAt h x (PySem.W.instObj C dx) C (some od) ∧ ∀ name, PySem.W.lookIn name od = some (mA name) :=
  let ⟨od, ho, hl⟩ := lookIn_ns I.ns
  ⟨od, ⟨I.obj, rfl, rfl, ho⟩, hl⟩

section
variable {prog : Program} {w : World} {A : Around} {E : Value → Shared → Prop} {s : Shared} {K : PySem.W.Frag} {x dx C f : Addr} {mA : Str → Option Value} {name : Str} {v : Value}

theorem get_map {expr : Bool} {Q : Value → Shared → Prop} (X : K.In s.heap) (I : ObjM s.heap x dx C mA) (hg : PySem.W.plainGet K C name = true) (hh : PySem.W.hasDictIn K C = true)
    (ha : PySem.W.findIn K (.ref C) name = some none) (hv : mA name = some v) (hv' : PySem.W.handedIn v = true) (h : Q v { s with toks := s.toks + 1 }) :
    wpAny (model prog w) A (getAttr (.ref x) name expr) Q E s := by
  obtain ⟨od, J, hl⟩ := I.look
  exact PySem.W.get_value X J (PySem.W.plainGet_of hg).1 (PySem.W.findObj_own hh ha rfl (by rw [hl, hv])) hv' h


theorem get_meth {pl : Sem Bool} {Q : Value × List Value → Shared → Prop} (X : K.In s.heap) (I : ObjM s.heap x dx C mA) (hg : PySem.W.plainGet K C name = true)
    (hf : PySem.W.findIn K (.ref C) name = some (some (.ref f))) (ht : PySem.W.isFn K (.ref f) = true) (hv : mA name = none) (h : Q (.ref f, [.ref x]) s) :
    wpAny (model prog w) A (getMethod (.ref x) name pl) Q E s := by
  obtain ⟨od, J, hl⟩ := I.look
  exact PySem.W.method_fn X J (PySem.W.plainGet_of hg).1 (PySem.W.plainGet_of hg).2 hf (beq_iff_eq.mp ht) (by show (PySem.W.lookIn name od).map (·.isSome) = some false; rw [hl, hv]; rfl) h

theorem set_map {ns : List Str} {Q : Unit → Shared → Prop} (X : K.In s.heap) (I : ObjM s.heap x dx C mA)
    (hs : PySem.W.findIn K (.ref C) "__setattr__" = some (some (.builtin "object.__setattr__"))) (hp : PySem.W.plainOver K C = true) (ht : PySem.W.takerIn K C name = some none) (hh : PySem.W.hasDictIn K C = true)
    (hw : PySem.Within mA ns) (hsz : ns.length ≤ sizeLine)
    (h : ∀ h', ObjM h' x dx C (fun y => if y = name then some v else mA y) → Heap.SameBut dx s.heap h' → Q () { s with heap := h', toks := s.toks + 2 }) :
    wpAny (model prog w) A (setAttr (.ref x) name v) Q E s := by
  obtain ⟨od, J, hl⟩ := I.look
  refine PySem.W.set_plain X J hs (PySem.W.osa_open (s := { s with toks := s.toks + 1 }) (r := none) X J hp ht fun b => ?_)
  obtain ⟨cd, hc, hd'⟩ := PySem.W.any_some hh
  have hx : s.heap.get? x = some ⟨.ref C, some dx, .plain, #[]⟩ := I.obj
  refine wpAny_bind (wpAny_pure (wpAny_bind (wpAny_bind (wpAny_loadPart hx (wpAny_bind (PySem.W.Looks.here (s := { s with toks := s.toks + 1 }) (PySem.W.looks_clsIn X hc) ?_))))))
  rw [hd']
  refine wpAny_pure (a := some dx) (wpAny_bind (wpAny_pure (wpAny_bind ?_)))
  refine wpAny_nsSet1 (s := { s with toks := s.toks + 1 }) I.ns fun h' hn2 hs2 => ?_
  obtain ⟨oD, esD, epD, hoD, hdD, hcD⟩ := hn2.count (PySem.Within.cons name v hw)
  refine wpAny_bind (wpAny_lookBehind hoD (by rw [hdD]; exact pastItsLine_dict (Nat.le_trans hcD (by rw [List.length_cons]; omega))) ?_)
  exact wpAny_pure (h _ ⟨(hs2.2 _ (Ne.symm I.ne)).trans I.obj, hn2, I.ne⟩ hs2)

/-- C(..): the dict at the heap's end, the instance behind it; then its __init__ -/
theorem make_map {R : Result → Shared → Prop} {vs : List Value} {kw : List (Str × Value)} (X : K.In s.heap) (hm : PySem.W.makesIn K C = true)
    (hi : PySem.W.findIn K (.ref C) "__init__" = some (some (.ref f))) (hf : PySem.W.typeIn K (.ref f) = some (.type "function"))
    (h : codeAny (model prog w) (A.under (.builtin "type.__call__" ⟨.ref C :: vs, kw⟩)) (.call (.ref f) ⟨.ref (s.heap.objs.size + 1) :: vs, kw⟩) (PySem.W.InitBack (s.heap.objs.size + 1) R)
      { s with heap := (s.heap.push PySem.W.emptyDict).push (PySem.W.instObj C s.heap.objs.size) }) :
    codeAny (model prog w) A (.call (.ref C) ⟨vs, kw⟩) R s := by
  obtain ⟨hh, g, d, t, os⟩ := s
  exact PySem.W.make_core (PySem.W.makes_of X hm) (PySem.W.looks_findIn X hi) (fun self => PySem.W.bind_fn X self hf) (.inl rfl) h
end

/-! ### the attributes as a list of pairs -/
def putF (f : Str) (v : V) : List (Str × V) → List (Str × V)
  | [] => [(f, v)]
  | (g, x) :: r => if g = f then (g, v) :: r else (g, x) :: putF f v r
theorem lookup_putF (f g : Str) (v : V) : ∀ fs : List (Str × V), (putF f v fs).lookup g = if g = f then some v else fs.lookup g
  | [] => by
    show List.lookup g [(f, v)] = _
    by_cases h : g = f
    · have hb : (g == f) = true := beq_iff_eq.mpr h
      simp only [List.lookup, hb, if_pos h]
    · have hb : (g == f) = false := beq_eq_false_iff_ne.mpr h
      simp only [List.lookup, hb, if_neg h]
  | (k, x) :: r => by
    have ih := lookup_putF f g v r
    rw [show putF f v ((k, x) :: r) = (if k = f then (k, v) :: r else (k, x) :: putF f v r) from rfl]
    by_cases hk : k = f
    · rw [if_pos hk]
      by_cases h : g = k
      · have hb : (g == k) = true := beq_iff_eq.mpr h
        simp only [List.lookup, hb, if_pos (h.trans hk)]
      · have hb : (g == k) = false := beq_eq_false_iff_ne.mpr h
        simp only [List.lookup, hb, if_neg (fun e : g = f => h (e.trans hk.symm))]
    · rw [if_neg hk]
      by_cases h : g = k
      · have hb : (g == k) = true := beq_iff_eq.mpr h
        simp only [List.lookup, hb, if_neg (fun e : g = f => hk (h.symm.trans e))]
      · have hb : (g == k) = false := beq_eq_false_iff_ne.mpr h
        simp only [List.lookup, hb]
        exact ih
theorem keys_putF (f : Str) (v : V) : ∀ fs : List (Str × V), f ∈ (putF f v fs).map (·.1) ∧ ∀ g, g ∈ fs.map (·.1) → g ∈ (putF f v fs).map (·.1)
  | [] => ⟨by simp [putF], fun g h => by simp at h⟩
  | (k, x) :: r => by
    obtain ⟨i1, i2⟩ := keys_putF f v r
    rw [show putF f v ((k, x) :: r) = (if k = f then (k, v) :: r else (k, x) :: putF f v r) from rfl]
    by_cases hk : k = f
    · rw [if_pos hk]
      subst hk
      exact ⟨by simp, fun g h => by simpa using h⟩
    · rw [if_neg hk]
      refine ⟨?_, fun g h => ?_⟩
      · rw [List.map_cons]
        exact List.mem_cons_of_mem _ i1
      · rw [List.map_cons] at h ⊢
        rcases List.mem_cons.mp h with e | e
        · exact List.mem_cons.mpr (.inl e)
        · exact List.mem_cons_of_mem _ (i2 g e)
theorem length_putF (f : Str) (v : V) : ∀ fs : List (Str × V), (putF f v fs).length ≤ fs.length + 1
  | [] => by simp [putF]
  | (k, x) :: r => by
    have ih := length_putF f v r
    rw [show putF f v ((k, x) :: r) = (if k = f then (k, v) :: r else (k, x) :: putF f v r) from rfl]
    by_cases hk : k = f
    · rw [if_pos hk, List.length_cons, List.length_cons]; omega
    · rw [if_neg hk, List.length_cons, List.length_cons]; omega

theorem RelO.some_of {v : V} {o : Option Value} (r : RelO (some v) o) : ∃ u, o = some u ∧ RelV v u := by
  cases o with
  | none => exact (show False from r).elim
  | some u => exact ⟨u, rfl, r⟩
theorem RelO.none_of {o : Option Value} (r : RelO none o) : o = none := by
  cases o with
  | none => rfl
  | some u => exact (show False from r).elim
theorem handed_of {v : V} {u : Value} (r : RelV v u) : PySem.W.handedIn u = true := by
  cases v with
  | non => cases (show u = Value.none from r); rfl
  | bl b => cases (show u = Value.bool b from r); rfl
  | int i => obtain ⟨t, e⟩ := (show ∃ t, u = Value.int i t from r); cases e; rfl
  | str x => obtain ⟨t, e⟩ := (show ∃ t, u = Value.str x t from r); cases e; rfl
  | byt b => obtain ⟨t, e⟩ := (show ∃ t, u = Value.bytes b t from r); cases e; rfl
  | flt b => obtain ⟨t, e⟩ := (show ∃ t, u = Value.float b t from r); cases e; rfl
  | ref a => cases (show u = Value.ref a from r); rfl
  | ty n => cases (show u = Value.type n from r); rfl

section
variable {P : Program} {w : World} {H H' : Hp} {h h' : Heap} {a C dx : Addr} {fs fs' : List (Str × V)}
theorem ins_get (hok : HOk P w H h) (e : H a = some (.ins C dx fs)) : ∃ mA, ObjM h a dx C mA ∧ (∀ f, RelO (fs.lookup f) (mA f)) ∧ PySem.Within mA (fs.map (·.1)) ∧ fs.length ≤ 1000 ∧ H dx = some (.own a) := by
  obtain ⟨d, z, ne, ob, mA, n, r, q⟩ := (show ObjOk P w H h a (.ins C dx fs) from hok a _ e)
  exact ⟨mA, ⟨ob, n, ne⟩, r, q, z, d⟩
end

/-! ### what of the text a class must have -/
structure Cls (K : PySem.W.Frag) (C : Addr) : Prop where
  pg : PySem.W.plainGet K C Str.empty = true
  hd : PySem.W.hasDictIn K C = true
  po : PySem.W.plainOver K C = true
  sa : PySem.W.findIn K (.ref C) "__setattr__" = some (some (.builtin "object.__setattr__"))
theorem Cls.get {K : PySem.W.Frag} {C : Addr} (c : Cls K C) (f : Str) : PySem.W.plainGet K C f = true := c.pg
/-- no class of it has the name -/
def NoAttr (K : PySem.W.Frag) (C : Addr) (f : Str) : Prop := PySem.W.findIn K (.ref C) f = some none
theorem NoAttr.taker {K : PySem.W.Frag} {C : Addr} {f : Str} (n : NoAttr K C f) : PySem.W.takerIn K C f = some none := by
  unfold PySem.W.takerIn
  rw [show PySem.W.findIn K (.ref C) f = some none from n]
  rfl
/-- a method: a plain def of the class or of one above it -/
structure Meth (K : PySem.W.Frag) (C : Addr) (m : Str) (f : Addr) : Prop where
  at_ : PySem.W.findIn K (.ref C) m = some (some (.ref f))
  fn : PySem.W.isFn K (.ref f) = true
  kp : PySem.W.keepIn K (.ref f) = true

section
variable {X : Cx} {pins : List (Addr × Obj)} {σ : St} {H : Hp} {s : Shared} {a C dx : Addr} {fs : List (Str × V)} {f : Str} {v : V} {A : Around} {E : Value → Shared → Prop}

theorem getattr_ok {b : Bool} {Q : Value → Shared → Prop} (I : Inv X pins σ H s) (e : H a = some (.ins C dx fs)) (c : Cls X.K C) (n : NoAttr X.K C f) (l : fs.lookup f = some v)
    (h : ∀ u s', Inv X pins σ H s' → RelV v u → Q u s') : wpAny (model X.prog X.w) A (getAttr (.ref a) f b) Q E s := by
  obtain ⟨mA, O, r, _, _, _⟩ := ins_get I.hok e
  obtain ⟨u, hu, ru⟩ := RelO.some_of (v := v) (o := mA f) (by rw [← l]; exact r f)
  exact get_map I.kIn O (c.get f) c.hd n hu (handed_of ru) (h u _ (I.tok _) ru)


theorem getmeth_ok {m : Str} {g : Addr} {pl : Sem Bool} {Q : Value × List Value → Shared → Prop} (I : Inv X pins σ H s) (e : H a = some (.ins C dx fs)) (c : Cls X.K C) (k : Meth X.K C m g) (l : fs.lookup m = none)
    (h : Q (.ref g, [.ref a]) s) : wpAny (model X.prog X.w) A (getMethod (.ref a) m pl) Q E s := by
  obtain ⟨mA, O, r, _, _, _⟩ := ins_get I.hok e
  have hn : mA m = none := RelO.none_of (by rw [← l]; exact r m)
  exact get_meth I.kIn O (c.get m) k.at_ k.fn hn h

theorem setattr_ok {y : V} {u : Value} {Q : Unit → Shared → Prop} (I : Inv X pins σ H s) (e : H a = some (.ins C dx fs)) (c : Cls X.K C) (n : NoAttr X.K C f) (hl : fs.length < 1000) (ry : RelV y u)
    (h : ∀ s', Inv X pins σ (upd H a (.ins C dx (putF f y fs))) s' → Q () s') : wpAny (model X.prog X.w) A (setAttr (.ref a) f u) Q E s := by
  obtain ⟨mA, O, r, wi, _, ho⟩ := ins_get I.hok e
  have hz : (fs.map (·.1)).length ≤ sizeLine := by rw [List.length_map, sizeLine_eq]; omega
  refine set_map I.kIn O c.sa c.po n.taker c.hd wi hz fun h' O' sb => h _ ?_
  have hd : ∃ o, h'.get? dx = some o := let ⟨o, _, _, e', _⟩ := O'.ns; ⟨o, e'⟩
  refine I.write (x := a) (e := dx) (by rw [e]; exact True.intro) (.inr ho) (fun b q hb z => (sb.2 b hb).trans z) hd ?_
  refine ⟨by rw [upd_ne O.ne]; exact ho, ?_, O.ne, O'.obj, _, O'.ns, fun g => ?_, fun g hg => ?_⟩
  · have := length_putF f y fs; omega
  · show RelO ((putF f y fs).lookup g) (if g = f then some u else mA g)
    rw [lookup_putF]
    by_cases q : g = f
    · rw [if_pos q, if_pos q]; exact ry
    · rw [if_neg q, if_neg q]; exact r g
  · by_cases q : g = f
    · rw [q]; exact (keys_putF f y fs).1
    · refine (keys_putF f y fs).2 g (wi g fun z => hg ?_)
      show (if g = f then some u else mA g) = none
      rw [if_neg q]; exact z

/-- a new instance, tracked, without attributes -/
theorem Inv.made (I : Inv X pins σ H s) : Inv X pins σ (upd (upd H s.heap.objs.size (.own (s.heap.objs.size + 1))) (s.heap.objs.size + 1) (.ins C s.heap.objs.size []))
    { s with heap := (s.heap.push PySem.W.emptyDict).push (PySem.W.instObj C s.heap.objs.size) } := by
  have e1 : (s.heap.push PySem.W.emptyDict).get? s.heap.objs.size = some PySem.W.emptyDict := Heap.get?_push_size s.heap rfl
  have e2 : ((s.heap.push PySem.W.emptyDict).push (PySem.W.instObj C s.heap.objs.size)).get? (s.heap.objs.size + 1) = some (PySem.W.instObj C s.heap.objs.size) := by
    have := Heap.get?_push_size (s.heap.push PySem.W.emptyDict) (o := PySem.W.instObj C s.heap.objs.size) rfl
    rwa [Heap.size_push] at this
  have e3 : (s.heap.push PySem.W.emptyDict).Ns s.heap.objs.size (fun _ => none) := ⟨PySem.W.emptyDict, #[], _, e1, rfl, (fun e he => absurd he (by simp)), fun _ => rfl⟩
  have I1 := I.laid (a := s.heap.objs.size) (o := .own (s.heap.objs.size + 1)) (h' := s.heap.push PySem.W.emptyDict) (t' := s.toks) (fun b u q => Heap.get?_push_of_some _ q) (Nat.le_refl _) ⟨_, e1⟩
  refine I1.laid (a := s.heap.objs.size + 1) (o := .ins C s.heap.objs.size []) (t' := s.toks) (fun b u q => Heap.get?_push_of_some _ q) (Nat.le_of_eq (Heap.size_push _ _)) ?_
  have ne : s.heap.objs.size ≠ s.heap.objs.size + 1 := Nat.ne_of_lt (Nat.lt_succ_self _)
  refine ⟨by rw [upd_ne ne, upd_same], Nat.zero_le _, ne, e2, fun _ => none, (Heap.Ns1.of_empty e3).at fun o q => Heap.get?_push_of_some _ q, fun _ => True.intro, fun y hy => absurd rfl hy⟩

/-- e.f where nothing but the object is asked: through attributeBase (super) and the last hold -/
theorem attr_of {prog : Program} {w : World} {env : Env} {e : Expr} {f : Str} {pos : Pos} {s : Shared} {Q : Value → Shared → Prop} (hb : attributeBase e f env (eval e env) = eval e env)
    (h : wpAny (model prog w) A (eval e env) (fun o s₁ => wpAny (model prog w) A (getAttr o f true) Q E s₁) E s) : wpAny (model prog w) A (eval (.Attribute e f pos) env) Q E s :=
  Attribute_any_ h (by rw [arm_eval_Attribute, hb])
end

/-! ### readings and rules -/
/-- e.f, an attribute of the instance -/
def tFld (K : PySem.W.Frag) (ta : TE) (f : Str) : TE := fun σ H Q => ta σ H fun x H1 => ∃ a C dx fs v, x = .ref a ∧ H1 a = some (.ins C dx fs) ∧ Cls K C ∧ NoAttr K C f ∧ fs.lookup f = some v ∧ Q v H1
/-- e.f = value -/
def sFld (K : PySem.W.Frag) (ta tv : TE) (f : Str) : TS := fun D σ H => tv σ H fun y H1 => ta σ H1 fun x H2 => ∃ a C dx fs, x = .ref a ∧ H2 a = some (.ins C dx fs) ∧ Cls K C ∧ NoAttr K C f ∧ fs.length < 1000 ∧
  D.nx σ (upd H2 a (.ins C dx (putF f y fs)))

section
variable {X : Cx} {o e value : Expr} {f : Str} {pos pos' tpos : Pos} {ta tv : TE}
theorem pe_fld (he : PE X e ta) (hb : attributeBase e f X.env (eval e X.env) = eval e X.env) : PE X (.Attribute e f pos) (tFld X.K ta f) := by
  intro pins s σ H Q I h
  refine attr_of hb (thn (he pins s σ H _ I h) fun u s1 ⟨x, H1, I1, rx, a, C, dx, fs, v, ex, ea, c, n, l, q⟩ => ?_)
  subst ex
  obtain rfl : u = Value.ref a := rx
  exact getattr_ok I1 ea c n l fun u' s2 I2 ru => ⟨v, H1, I2, ru, q⟩
theorem ps_fld (ha : PE X o ta) (hv : PE X value tv) (hs : swapsWith value (some (.Attribute o f pos')) pos.line X.env = pure false) : PS X (.Assign [.Attribute o f pos'] value pos) (sFld X.K ta tv f) := by
  intro pins s σ H D I h
  refine plainObj_wpAny_Assign_Attribute (thn (hv pins s σ H _ I h) fun u s1 ⟨y, H1, I1, ry, q⟩ => thn (ha pins s1 σ H1 _ I1 q) fun ov s2 ⟨x, H2, I2, rx, a, C, dx, fs, ex, ea, c, n, l, q2⟩ => ?_) hs
  subst ex
  obtain rfl : ov = Value.ref a := rx
  exact setattr_ok I2 ea c n l ry fun s3 I3 => ⟨σ, _, I3, q2⟩

end

/-! ### isinstance -/
section
variable {X : Cx} {pins : List (Addr × Obj)} {σ : St} {H : Hp} {s : Shared} {A : Around} {E : Value → Shared → Prop} {Q : Value → Shared → Prop} {c : Value} {b : Bool}
/-- the type of a value, as the fragment's deciders take it; for an instance its class -/
inductive TyOf (K : PySem.W.Frag) (H : Hp) : V → Value → Prop where
  | non : TyOf K H .non (.type "NoneType")
  | bl (x : Bool) : TyOf K H (.bl x) (.type "bool")
  | int (i : Int) : TyOf K H (.int i) (.type "int")
  | str (x : Str) : TyOf K H (.str x) (.type "str")
  | flt (x : UInt64) : TyOf K H (.flt x) (.type "float")
  | lst {a : Addr} {xs : List V} (e : H a = some (.lst xs)) : TyOf K H (.ref a) (.type "list")
  | frz {a : Addr} {o : Obj} {xs : List V} (e : H a = some (.frz o (.lst xs))) : TyOf K H (.ref a) (.type "list")
  | tup {a : Addr} {xs : List V} (e : H a = some (.tup xs)) : TyOf K H (.ref a) (.type "tuple")
  | dK {a : Addr} {kvs : List (Key × V)} (e : H a = some (.dK kvs)) : TyOf K H (.ref a) (.type "dict")
  | dT {a : Addr} {kvs : List (List Key × V)} (e : H a = some (.dT kvs)) : TyOf K H (.ref a) (.type "dict")
  | ins {a C dx : Addr} {fs : List (Str × V)} (e : H a = some (.ins C dx fs)) (cl : Cls K C) (ha : PySem.W.findIn K (.ref C) "__class__" = some (some (.builtin "object.__class__")))
      (hn : PySem.W.specialIn K (.builtin "object.__class__") "__get__" = some (some (.builtin "getset_descriptor.__get__"))) (htk : PySem.W.takesIn K (.builtin "object.__class__") = some true)
      (hm : PySem.W.mroIn K C (.type "object") = some true) : TyOf K H (.ref a) (.ref C)
/-- isinstance(x, c) for one class c, a built-in or an own one: kitOne's answer -/
theorem isinst_ok {x : V} {u t : Value} (I : Inv X pins σ H s) (rx : RelV x u) (ty : TyOf X.K H x t) (e : PySem.W.kitOne X.K t c = some b) (h : ∀ tk, Q (.bool b) { s with toks := tk }) :
    wpAny (model X.prog X.w) A (call (.builtin "isinstance") [u, c]) Q E s := by
  cases ty with
  | non => cases (show u = Value.none from rx); exact PySem.W.kia_one PySem.W.kitx_none I.kIn True.intro e (fun z => nomatch z) h
  | bl y => cases (show u = Value.bool y from rx); exact PySem.W.kia_one PySem.W.kitx_bool I.kIn True.intro e (fun z => nomatch z) h
  | int i => obtain ⟨t, q⟩ := (show ∃ t, u = Value.int i t from rx); cases q; exact PySem.W.kia_one PySem.W.kitx_int I.kIn True.intro e (fun z => nomatch z) h
  | str y => obtain ⟨t, q⟩ := (show ∃ t, u = Value.str y t from rx); cases q; exact PySem.W.kia_one PySem.W.kitx_str I.kIn True.intro e (fun z => nomatch z) h
  | flt y => obtain ⟨t, q⟩ := (show ∃ t, u = Value.float y t from rx); cases q; exact PySem.W.kia_one PySem.W.kitx_float I.kIn True.intro e (fun z => nomatch z) h
  | @lst a xs ea =>
    cases (show u = Value.ref a from rx)
    obtain ⟨_, _, n, _, h1⟩ := (show ObjOk X.prog X.w H s.heap a (.lst xs) from I.hok a _ ea)
    exact PySem.W.kia_one PySem.W.kitx_list I.kIn ⟨_, h1, rfl⟩ e (fun z => nomatch z) h
  | @frz a ob xs ea =>
    cases (show u = Value.ref a from rx)
    obtain ⟨_, _, _, n, _, h1⟩ := (show ObjOk X.prog X.w H s.heap a (.frz ob (.lst xs)) from I.hok a _ ea)
    exact PySem.W.kia_one PySem.W.kitx_list I.kIn ⟨_, h1, rfl⟩ e (fun z => nomatch z) h
  | @tup a xs ea =>
    cases (show u = Value.ref a from rx)
    obtain ⟨_, _, _, p⟩ := (show ObjOk X.prog X.w H s.heap a (.tup xs) from I.hok a _ ea)
    obtain ⟨o, h1, h2, _⟩ := p
    exact PySem.W.kia_one PySem.W.kitx_tuple I.kIn ⟨o, h1, h2⟩ e (fun z => nomatch z) h
  | @dK a kvs ea =>
    cases (show u = Value.ref a from rx)
    obtain ⟨_, _, vs, _, p⟩ := (show ObjOk X.prog X.w H s.heap a (.dK kvs) from I.hok a _ ea)
    obtain ⟨o, es, ep, h1, h2, _⟩ := p
    exact PySem.W.kia_one PySem.W.kitx_dict I.kIn ⟨o, h1, h2.1⟩ e (fun z => nomatch z) h
  | @dT a kvs ea =>
    cases (show u = Value.ref a from rx)
    obtain ⟨_, _, xs, _, o, es, ep, h1, h2, _⟩ := (show ObjOk X.prog X.w H s.heap a (.dT kvs) from I.hok a _ ea)
    exact PySem.W.kia_one PySem.W.kitx_dict I.kIn ⟨o, h1, h2.1⟩ e (fun z => nomatch z) h
  | @ins a C dx fs ea cl ha hn htk hm =>
    cases (show u = Value.ref a from rx)
    obtain ⟨mA, O, _⟩ := ins_get I.hok ea
    obtain ⟨od, J, _⟩ := O.look
    exact PySem.W.kia_one (PySem.W.kitx_own (cl.get _) cl.hd ha hn htk hm) I.kIn J e (fun z => nomatch z) h
end
end L2

namespace L2
open PySem PySem.Spec PyProof.Rows

/-! ### room -/
structure Room (k : Nat) (A : Around) : Prop where
  hd : A.handled = none
  dp : A.depth + 3 * k + 5 < recursionLimit
  un : A.units + 16 * k + 200 < cLine
theorem Room.mono {j k : Nat} {A : Around} (r : Room k A) (h : j ≤ k) : Room j A := ⟨r.hd, by have := r.dp; omega, by have := r.un; omega⟩
theorem Room.deeper {k : Nat} {A : Around} (r : Room (k + 1) A) (env : Env) : Room k (A.deeper env) :=
  ⟨r.hd, by have := r.dp; show A.depth + 1 + 3 * k + 5 < _; omega, by have := r.un; show A.units + 3 + 16 * k + 200 < _; omega⟩
theorem make_depth {A : Around} {C : Addr} {us : List Value} {kw : List (Str × Value)} : (A.under (.builtin "type.__call__" ⟨.ref C :: us, kw⟩)).depth = A.depth + 1 := by
  first | rfl | simp [Around.under, Code.weight, Code.isCreation, Code.isGuard, Code.isCaller, Code.frames, Code.isFrame, guardIds]
theorem make_units {A : Around} {C : Addr} {us : List Value} {kw : List (Str × Value)} : (A.under (.builtin "type.__call__" ⟨.ref C :: us, kw⟩)).units = A.units + 1 := by
  first | rfl | simp [Around.under, Code.cUnits, Code.frames, Code.isFrame]
theorem Room.make {k : Nat} {A : Around} (r : Room (k + 1) A) (C : Addr) (us : List Value) (kw : List (Str × Value)) : Room k (A.under (.builtin "type.__call__" ⟨.ref C :: us, kw⟩)) :=
  ⟨r.hd, by have := r.dp; rw [make_depth]; omega, by have := r.un; rw [make_units]; omega⟩
theorem Room.depth {k : Nat} {A : Around} (r : Room k A) : A.depth < recursionLimit := by have := r.dp; omega

/-! ### argument lists and displays -/
def tNil : TA := fun _ H Q => Q [] H
def tCons (ta : TE) (tr : TA) : TA := fun σ H Q => ta σ H fun x H1 => tr σ H1 fun xs H2 => Q (x :: xs) H2
section
variable {X : Cx} {e : Expr} {es : List Expr} {te : TE} {t : TA} {pos : Pos}
theorem pa_nil : PA X [] tNil := fun _ _ _ _ H Q I h => Calls.spliced_nil ⟨[], H, I, .nil, h⟩
theorem pa_cons (ha : PE X e te) (hr : PA X es t) (hs : starEach (e :: es) X.env = (false, eval e X.env) :: starEach es X.env := by rfl) : PA X (e :: es) (tCons te t) := by
  intro pos pins s σ H Q I h
  rw [hs]
  show wpAny _ _ (spliced ((false, eval e X.env) :: backTo pos (starEach es X.env))) _ _ s
  refine Calls.spliced_cons (thn (ha pins s σ H _ I h) fun u s1 ⟨x, H1, I1, r1, q1⟩ => ?_)
  exact thn (hr pos pins s1 σ H1 _ I1 q1) fun us s2 ⟨xs, H2, I2, r2, q2⟩ => ⟨x :: xs, H2, I2, .cons r1 r2, q2⟩

/-- a tuple, a list of written items -/
def tTup (t : TA) : TE := fun σ H Q => t σ H fun xs H1 => xs.length ≤ sizeLine ∧ ∀ p, H1 p = none → Q (.ref p) (upd H1 p (.tup xs))
def tLst (t : TA) : TE := fun σ H Q => t σ H fun xs H1 => xs.length ≤ sizeLine ∧ ∀ p, H1 p = none → Q (.ref p) (upd H1 p (.lst xs))
theorem pe_tup {x1} (h : PA X es t) : PE X (.Tuple es x1 pos) (tTup t) := by
  intro pins s σ H Q I hq
  refine wpAny_Tuple_spliced (thn (h pos pins s σ H _ I hq) fun us s1 ⟨xs, H1, I1, r, z, q⟩ => ⟨by rw [← r.length]; exact z, ?_⟩)
  have hf : H1 s1.heap.objs.size = none := I1.hok.fresh (Nat.le_refl _)
  refine ⟨.ref s1.heap.objs.size, upd H1 s1.heap.objs.size (.tup xs), I1.laid (t' := s1.toks) (fun b u e => Heap.get?_push_of_some _ e) (Nat.le_refl _) ?_, rfl, q _ hf⟩
  exact ⟨z, us, r, ⟨_, Heap.get?_push_size _ rfl, rfl, _, rfl⟩⟩
theorem pe_lst (h : PA X es t) : PE X (.List es pos) (tLst t) := by
  intro pins s σ H Q I hq
  refine wpAny_List_spliced (thn (h pos pins s σ H _ I hq) fun us s1 ⟨xs, H1, I1, r, z, q⟩ => ⟨by rw [← r.length]; exact z, ?_⟩)
  have hf : H1 s1.heap.objs.size = none := I1.hok.fresh (Nat.le_refl _)
  refine ⟨.ref s1.heap.objs.size, upd H1 s1.heap.objs.size (.lst xs), I1.laid (t' := s1.toks) (fun b u e => Heap.get?_push_of_some _ e) (Nat.le_refl _) ?_, rfl, q _ hf⟩
  exact ⟨z, us, 0, r, Heap.get?_push_size _ rfl⟩
end

/-! ### what a def promises -/
/-- a def's promise: the bound arguments in the parameters' order, the heap, the wanted end, the wanted exception -/
abbrev Sp := List V → Hp → VK → XK → Prop
/-- how an exception lies behind a call (file 08 gives it): the callers' frames, abstract heap and state ahead of the call, the wish, the exception, the state -/
abbrev CXT := List Env → Hp → Shared → XK → Value → Shared → Prop

/-- the state at a call -/
structure Env0 (P : Program) (w : World) (K : PySem.W.Frag) (mg : Str → Option Value) (base : Heap) (A : Around) (outer : List Env) (s : Shared) (H : Hp) : Prop where
  frames : A.frames = some outer
  mod : Mod K mg base
  bs : ∀ b o, base.get? b = some o → s.heap.get? b = some o ∧ H b = none
  bsz : base.objs.size ≤ s.heap.objs.size
  funs : s.heap.FunFrames base outer
  frf : ∀ b ∈ frs outer, H b = none
  hok : HOk P w H s.heap
  bare : AllBare s.gens
/-- a call's end -/
def CE (outer : List Env) (P : Program) (w : World) (H : Hp) (s : Shared) (Q : VK) (u : Value) (s' : Shared) : Prop :=
  ∃ v H', s'.os = s.os ∧ AllBare s'.gens ∧ Un (frs outer) [] H H' s.heap s'.heap ∧ HOk P w H' s'.heap ∧ RelV v u ∧ Q v H'
def CR (CX : CXT) (outer : List Env) (P : Program) (w : World) (H : Hp) (s : Shared) (Q : VK) (E : XK) (r : Result) (s' : Shared) : Prop :=
  match r with
  | .ok (.ret u) => CE outer P w H s Q u s'
  | .ok _ => False
  | .error e => CX outer H s E e s'
structure FnOk (P : Program) (w : World) (K : PySem.W.Frag) (mg : Str → Option Value) (base : Heap) (CX : CXT) (k : Nat) (f : Addr) (fd : FuncData) (ps : List Str) (sp : Sp) : Prop where
  len : ∀ vs H Q E, sp vs H Q E → vs.length = ps.length
  run : ∀ (A : Around) (outer : List Env) (s : Shared) (H : Hp) (args : Args) (us : List Value) (vs : List V) (Q : VK) (E : XK), Room k A → Env0 P w K mg base A outer s H → BindsTo s fd args (ps.zip us) → Vals vs us → sp vs H Q E →
    codeAny (model P w) A (.call (.ref f) args) (CR CX outer P w H s Q E) s
theorem FnOk.mono {P : Program} {w : World} {K : PySem.W.Frag} {mg : Str → Option Value} {base : Heap} {CX : CXT} {j k : Nat} {f : Addr} {fd : FuncData} {ps : List Str} {sp : Sp} (F : FnOk P w K mg base CX j f fd ps sp) (h : j ≤ k) :
    FnOk P w K mg base CX k f fd ps sp := ⟨F.len, fun A outer s H args us vs Q E hr => F.run A outer s H args us vs Q E (hr.mono h)⟩

theorem Env0.make {P : Program} {w : World} {K : PySem.W.Frag} {mg : Str → Option Value} {base : Heap} {A : Around} {outer : List Env} {s : Shared} {H : Hp} (e : Env0 P w K mg base A outer s H) (C : Addr) (us : List Value) (kw : List (Str × Value)) :
    Env0 P w K mg base (A.under (.builtin "type.__call__" ⟨.ref C :: us, kw⟩)) outer s H := ⟨by first | exact e.frames | (simpa [Around.under, Code.envs, Code.isFrame, pushEnvs] using e.frames), e.mod, e.bs, e.bsz, e.funs, e.frf, e.hok, e.bare⟩

section
variable {X : Cx} {pins : List (Addr × Obj)} {σ : St} {H : Hp} {s s' : Shared}
/-- from a body: what a callee wants -/
theorem Inv.env0 (I : Inv X pins σ H s) : Env0 X.prog X.w X.K X.mg X.base X.A X.stack s H :=
  ⟨I.ok.frames, I.ok.mod, I.bs, Nat.le_trans I.ok.bsz I.sz, I.stack, I.stkFree, I.hok, I.bare⟩
/-- behind a call -/
theorem Inv.after {Q : VK} {u : Value} (I : Inv X pins σ H s) (h : CE X.stack X.prog X.w H s Q u s') : EP X pins σ Q u s' := by
  obtain ⟨v, H', os, bare, un, hok, r, q⟩ := h
  obtain ⟨hh, g, d, t, os'⟩ := s'
  obtain rfl : os' = s.os := os
  exact ⟨v, H', I.call (h' := hh) (g' := g) (d' := d) (t' := t) (ch := []) un hok bare (fun b z => absurd z (by simp)), r, q⟩
end

/-! ### calls -/
/-- C(..): a new instance and its dict, then __init__ -/
def tMake (C : Addr) (sp : Sp) (dvs : List V) (E : XK) (t : TA) : TE := fun σ H Q => t σ H fun vs H1 => ∀ x dx, H1 x = none → H1 dx = none → dx ≠ x →
  sp (.ref x :: (vs ++ dvs)) (upd (upd H1 dx (.own x)) x (.ins C dx [])) (fun v H2 => v = .non ∧ Q (.ref x) H2) E

/-- how the parameters are bound: us the positional arguments, kw the keywords' values by name, ds the defaults that fill up -/
def Binds (K : PySem.W.Frag) (fd : FuncData) (ps : List Str) (ds : List Value) : Prop :=
  ∀ (s : Shared) (us : List Value), K.In s.heap → (us ++ ds).length = ps.length → BindsTo s fd ⟨us, []⟩ (ps.zip (us ++ ds))
/-- every parameter is given -/
theorem Binds.all {K : PySem.W.Frag} {fd : FuncData} {ps : List Str} (h : ∀ us : List Value, us.length = ps.length → bindArgs fd ⟨us, []⟩ = pure (ps.zip us)) : Binds K fd ps [] := fun s us _ hl => by
  rw [List.append_nil] at hl ⊢
  exact .of_eq (h us hl)

/-- an exception of a callee reaches what this body wants of exceptions -/
def Passes (CX : CXT) (X : Cx) (E : XK) : Prop := ∀ (pins : List (Addr × Obj)) (σ : St) (H : Hp) (s : Shared) (e : Value) (s' : Shared), Inv X pins σ H s → CX X.stack H s E e s' → X.xe e s'

section
variable {X : Cx} {CX : CXT} {k : Nat} {f C : Addr} {fd : FuncData} {ps : List Str} {sp : Sp} {dvs : List V} {ds : List Value} {E : XK} {x m : Str} {p pos apos : Pos} {e o : Expr} {es : List Expr} {ta : TE} {t : TA}




/-- what a class must have to be made -/
structure Mk (K : PySem.W.Frag) (C f : Addr) : Prop where
  makes : PySem.W.makesIn K C = true
  init : PySem.W.findIn K (.ref C) "__init__" = some (some (.ref f))
  fn : PySem.W.isFn K (.ref f) = true
  kp : PySem.W.keepIn K (.ref C) = true

theorem run_make {pins : List (Addr × Obj)} {σ : St} {H : Hp} {s : Shared} {Q : VK} {us : List Value} {vs : List V} (M : Mk X.K C f) (F : FnOk X.prog X.w X.K X.mg X.base CX k f fd ps sp) (hr : Room (k + 1) X.A) (hb : Binds X.K fd ps ds) (hd : Vals dvs ds)
    (hx : Passes CX X E) (I : Inv X pins σ H s) (r : Vals vs us)
    (h : ∀ x dx, H x = none → H dx = none → dx ≠ x → sp (.ref x :: (vs ++ dvs)) (upd (upd H dx (.own x)) x (.ins C dx [])) (fun v H2 => v = .non ∧ Q (.ref x) H2) E) :
    wpAny (model X.prog X.w) X.A (call (.ref C) us) (EP X pins σ Q) X.xe s := by
  have hq := h (s.heap.objs.size + 1) s.heap.objs.size (I.hok.fresh (Nat.le_succ _)) (I.hok.fresh (Nat.le_refl _)) (Nat.ne_of_lt (Nat.lt_succ_self _))
  have I2 := Inv.made (C := C) I
  have r2 : Vals (V.ref (s.heap.objs.size + 1) :: (vs ++ dvs)) (Value.ref (s.heap.objs.size + 1) :: (us ++ ds)) := .cons rfl (r.append hd)
  have hl : (Value.ref (s.heap.objs.size + 1) :: us ++ ds).length = ps.length := by
    have e := r2.length
    rw [F.len _ _ _ _ hq] at e
    exact e.symm
  refine wpAny_call (make_map (f := f) I.kIn M.makes M.init (beq_iff_eq.mp M.fn) (codeAny_mono (F.run _ X.stack _ _ ⟨Value.ref (s.heap.objs.size + 1) :: us, []⟩ (Value.ref (s.heap.objs.size + 1) :: (us ++ ds)) _ _ E (hr.make C us [])
    (I2.env0.make C us []) (hb _ (Value.ref (s.heap.objs.size + 1) :: us) I2.kIn hl) r2 hq) fun r s' hq' => ?_))
  cases r with
  | error e => exact hx pins σ _ _ e s' I2 hq'
  | ok fl =>
    cases fl with
    | ret u =>
      obtain ⟨v, H', I3, rv, ev, q3⟩ := I2.after hq'
      subst ev
      exact ⟨rv, ⟨V.ref (s.heap.objs.size + 1), H', I3, rfl, q3⟩⟩
    | next => exact False.elim hq'
    | brk => exact False.elim hq'
    | cont => exact False.elim hq'
theorem pe_make (M : Mk X.K C f) (F : FnOk X.prog X.w X.K X.mg X.base CX k f fd ps sp) (hr : Room (k + 1) X.A) (hg : Gl X x) (hm : X.mg x = some (.ref C)) (hb : Binds X.K fd ps ds) (hd : Vals dvs ds) (hx : Passes CX X E)
    (ha : PA X (e :: es) t) (hdb : (x == ("__debug__" : Str)) = false := by decide) (he : starEach (e :: es) X.env = (false, eval e X.env) :: starEach es X.env := by rfl) (hpl : (backTo pos (starEach es X.env)).any (·.1) = false := by rfl) :
    PE X (.Call (.Name x p) (e :: es) [] pos) (tMake C sp dvs E t) := by
  intro pins s σ H Q I h
  refine wpAny_Call_Name_kw (ld_glob I hg hm ?_ hdb)
  refine PySem.W.callWith_K (h₀ := X.base) I.ok.mod.kin M.kp (thn (ha pos pins s σ H _ I h) fun us s1 ⟨vs, H1, I1, r, q⟩ => ⟨I1.kIn, ?_⟩) he hpl
  exact run_make M F hr hb hd hx I1 r q
end

/-! ### keywords -/
section
variable {X : Cx} {CX : CXT} {k : Nat} {f C : Addr} {fd : FuncData} {ps ks : List Str} {sp : Sp} {E : XK} {x m : Str} {p pos apos kpos : Pos} {e o : Expr} {es : List Expr} {kws : List Keyword} {te ta : TE} {t tk : TA} {nm : Option Str}

variable {g : List Value → List Value → List Value} {gV : List V → List V → List V}
end

/-! ### a def's body keeps its promise -/
/-- names: the parameters first -/
structure FnScope (N P : List Str) (sc : Scope) : Prop where
  kind : sc.kind = .function
  co : sc.isCoroutine = false
  gen : sc.isGenerator = false
  nd : N.Nodup
  pre : N.take P.length = P
  par : ∀ x ∈ P, sc.names.lookup x = some .local ∨ sc.names.lookup x = some .cell
  nofree : ∀ y ∈ sc.names, y.2 ≠ .free

theorem bindL_out {kindOf : Str → Option NameKind} {x : Str} : ∀ {binds : List (Str × Value)} {m : Str → Option Value}, (∀ v, (x, v) ∉ binds) → bindL kindOf binds m x = m x
  | [], _, _ => rfl
  | (n, v) :: r, m, h => by
    unfold bindL
    rw [bindL_out fun w hw => h w (List.mem_cons_of_mem _ hw)]
    split
    · have : x ≠ n := by rintro rfl; exact h v List.mem_cons_self
      simp [this]
    · rfl
theorem bindC_out {kindOf : Str → Option NameKind} {x : Str} : ∀ {binds : List (Str × Value)} {m : Str → Option Value}, (∀ v, (x, v) ∉ binds) → bindC kindOf binds m x = m x
  | [], _, _ => rfl
  | (n, v) :: r, m, h => by
    unfold bindC
    rw [bindC_out fun w hw => h w (List.mem_cons_of_mem _ hw)]
    split
    · rfl
    · have : x ≠ n := by rintro rfl; exact h v List.mem_cons_self
      simp [this]
theorem bindL_get {kindOf : Str → Option NameKind} {x : Str} {v : Value} : ∀ {P : List Str} {vs : List Value} {i : Nat} {m : Str → Option Value}, P.Nodup → P[i]? = some x → vs[i]? = some v → kindOf x = some .local →
    bindL kindOf (P.zip vs) m x = some v
  | [], _, _, _, _, h, _, _ => by simp at h
  | _ :: _, [], _, _, _, _, h, _ => by simp at h
  | p :: P, w :: vs, 0, m, nd, h1, h2, hk => by
    simp at h1 h2; subst h1; subst h2
    show bindL kindOf ((p, w) :: P.zip vs) m p = _
    unfold bindL
    rw [bindL_out fun v hv => (List.nodup_cons.mp nd).1 (List.of_mem_zip hv).1, if_pos hk]
    simp
  | p :: P, w :: vs, i + 1, m, nd, h1, h2, hk => by
    show bindL kindOf ((p, w) :: P.zip vs) m x = _
    unfold bindL
    exact bindL_get (i := i) (List.nodup_cons.mp nd).2 (by simpa using h1) (by simpa using h2) hk
theorem bindC_get {kindOf : Str → Option NameKind} {x : Str} {v : Value} : ∀ {P : List Str} {vs : List Value} {i : Nat} {m : Str → Option Value}, P.Nodup → P[i]? = some x → vs[i]? = some v → kindOf x ≠ some .local →
    bindC kindOf (P.zip vs) m x = some v
  | [], _, _, _, _, h, _, _ => by simp at h
  | _ :: _, [], _, _, _, _, h, _ => by simp at h
  | p :: P, w :: vs, 0, m, nd, h1, h2, hk => by
    simp at h1 h2; subst h1; subst h2
    show bindC kindOf ((p, w) :: P.zip vs) m p = _
    unfold bindC
    rw [bindC_out fun v hv => (List.nodup_cons.mp nd).1 (List.of_mem_zip hv).1, if_neg hk]
    simp
  | p :: P, w :: vs, i + 1, m, nd, h1, h2, hk => by
    show bindC kindOf ((p, w) :: P.zip vs) m x = _
    unfold bindC
    exact bindC_get (i := i) (List.nodup_cons.mp nd).2 (by simpa using h1) (by simpa using h2) hk

/-- the names' values at the entry -/
def start (N : List Str) (vs : List V) : St := vs.map some ++ List.replicate (N.length - vs.length) none

/-- the context of a def's body, at its entry; an exception leaves the frame, then lies as CX says -/
def cxOf (CX : CXT) (P : Program) (w : World) (K : PySem.W.Frag) (mg : Str → Option Value) (base : Heap) (N : List Str) (qual : Str) (scope : Scope) (f : Addr) (cd : Value) (A : Around) (outer : List Env) (s : Shared) (H : Hp) (E : XK) : Cx where
  prog := P
  w := w
  K := K
  mg := mg
  base := base
  A := A.deeper (envOfC qual scope s.heap.objs.size f cd)
  N := N
  s₀ := s
  H₀ := H
  env := envOfC qual scope s.heap.objs.size f cd
  outer := outer
  stack := envOfC qual scope s.heap.objs.size f cd :: outer
  ex := []
  calm := true
  fn := fun _ => true
  pn := []
  xe := fun e s' => wpAny (model P w) (A.deeper (envOfC qual scope s.heap.objs.size f cd)) (leaving (envOfC qual scope s.heap.objs.size f cd) e) (fun _ s'' => CX outer H s E e s'') (fun e' s'' => CX outer H s E e' s'') s'

theorem cell_has {sc : Scope} {n : Nat} {x : Str} (h : sc.names.lookup x = some .cell) : ∃ c, (cellsFrom n sc.names []).lookup x = some c := by
  have q := PySem.W.cellsFrom_some sc.names n [] (.inl h)
  exact Option.isSome_iff_exists.mp q

theorem inv_start {CX : CXT} {P : Program} {w : World} {K : PySem.W.Frag} {mg : Str → Option Value} {base : Heap} {N ps : List Str} {qual : Str} {scope : Scope} {f : Addr} {cd : Value} {A : Around} {outer : List Env} {s s1 : Shared} {H : Hp} {E : XK} {us : List Value} {vs : List V}
    (S : FnScope N ps scope) (hd : A.handled = none) (e0 : Env0 P w K mg base A outer s H) (hl : vs.length = ps.length) (r : Vals vs us)
    (x : InCallC s s.heap.objs.size (bindL (envOfC qual scope s.heap.objs.size f cd).kindOf (ps.zip us) fun _ => none) (cellsFrom (s.heap.objs.size + 1) scope.names []) (bindC (envOfC qual scope s.heap.objs.size f cd).kindOf (ps.zip us) fun _ => none) s1) :
    Inv (cxOf CX P w K mg base N qual scope f cd A outer s H E) [] (start N vs) H s1 := by
  have hpl : ps.length ≤ N.length := by have := congrArg List.length S.pre; rw [List.length_take] at this; omega
  obtain ⟨h1, tk, rfl, hk⟩ := x.done
  have noA : ∀ b : Addr, b ∉ (cxOf CX P w K mg base N qual scope f cd A outer s H E).ex := fun b z => absurd (show b ∈ ([] : List Addr) from z) (by simp)
  refine ⟨⟨e0.mod, S.kind, rfl, rfl, Nat.le_refl _, fun y z c h1 h2 => ?_, fun y hy => ?_, fun y c _ h => ?_, fun _ => hd, Around.frames_deeper e0.frames, .inr ⟨rfl, rfl⟩, fun b z => absurd z (noA b), e0.bs, e0.bsz, fun b _ _ => noA b, fun b z => absurd z (noA b), e0.funs, e0.frf⟩,
    rfl, e0.bare, Un.kept hk, ⟨_, x.toInCall.ns, fun i y v h1 h2 h3 => ?_⟩, fun y c h => ⟨_, x.cell y c h⟩, e0.hok.fresh (Nat.le_refl _), fun y c h => ?_, fun p hp => absurd (show p ∈ ([] : List (Addr × Obj)) from hp) (by simp), e0.hok.kept hk, ?_⟩
  · exact name_of_addr x.apart (PySem.mem_of_lookup h1) (PySem.mem_of_lookup h2)
  · have hy : scope.names.lookup y = some .cell ∨ scope.names.lookup y = some .free := hy
    rcases hy with hy | hy
    · exact cell_has hy
    · exact absurd rfl (S.nofree _ (PySem.mem_of_lookup hy))
  · exact Nat.le_of_lt (x.above y c (PySem.mem_of_lookup h))
  · have hi : i < vs.length := by
      unfold start at h2
      by_cases hi : i < vs.length
      · exact hi
      · rw [List.getElem?_append_right (by simpa using hi)] at h2
        rw [List.getElem?_replicate] at h2
        split at h2 <;> cases h2
    have ha : vs[i]? = some v := by
      unfold start at h2
      rw [List.getElem?_append_left (by simpa using hi), List.getElem?_map] at h2
      cases e : vs[i]? with
      | none => rw [e] at h2; cases h2
      | some a => rw [e] at h2; cases h2; rfl
    obtain ⟨u, hu, rv⟩ := r.get ha
    have hp : ps[i]? = some y := by
      rw [← S.pre, List.getElem?_take_of_lt (by omega)]; exact h1
    have ndP : ps.Nodup := by rw [← S.pre]; exact S.nd.sublist (List.take_sublist _ _)
    refine ⟨u, rv, ?_⟩
    rcases S.par y (List.mem_of_getElem? hp) with k | k
    · exact .inl ⟨k, bindL_get ndP hp hu k⟩
    · obtain ⟨c, e⟩ := cell_has (n := s.heap.objs.size + 1) k
      refine .inr ⟨.inl k, c, e, ?_⟩
      have q := x.cell y c e
      rw [bindC_get ndP hp hu (by show scope.names.lookup y ≠ _; rw [k]; decide)] at q
      exact q
  · exact e0.hok.fresh (Nat.le_of_lt (x.above y c (PySem.mem_of_lookup h)))
  · unfold start
    show _ = N.length
    rw [List.length_append, List.length_map, List.length_replicate]
    omega

/-- THE RULE: a def (or a method) of the text, by its body. The body's reading t is chosen for each entry; it is run at the parameters' values -/
theorem fn_of {CX : CXT} {P : Program} {w : World} {K : PySem.W.Frag} {mg : Str → Option Value} {base : Heap} {k : Nat} {f : Addr} {name qual : Str} {params : Arguments} {body : List Stmt} {scope : Scope} {dV kV doc pm cdv ct oc : Value} {an od : Option Addr}
    {osl : Array (Option Value)} {N ps : List Str} {sp : Sp} (lk : K.lookup f = some ⟨oc, od, .func (PySem.W.fnOf name qual params body scope dV kV doc pm an cdv ct), osl⟩) (hcd : PySem.W.codeIn K cdv qual = true) (S : FnScope N ps scope)
    (len : ∀ vs H Q E, sp vs H Q E → vs.length = ps.length)
    (hbody : ∀ (A : Around) (outer : List Env) (s : Shared) (H : Hp) (vs : List V) (Q : VK) (E : XK), Room k (A.deeper (envOfC qual scope s.heap.objs.size f cdv)) → sp vs H Q E →
      ∃ t, PSs (cxOf CX P w K mg base N qual scope f cdv A outer s H E) body t ∧ t { nx := fun _ H' => Q .non H', rt := Q } (start N vs) H) :
    FnOk P w K mg base CX (k + 1) f (PySem.W.fnOf name qual params body scope dV kV doc pm an cdv ct) ps sp := by
  refine ⟨len, fun A outer s H args us vs Q E hr e0 hb r hsp => ?_⟩
  have hl := len _ _ _ _ hsp
  have KX : K.In s.heap := e0.mod.kin.keeps fun b o e => (e0.bs b o e).1
  have lim : s.heap.NoLimit := e0.mod.nolimit.keeps fun b o e => (e0.bs b o e).1
  have hkind : ∀ y ∈ ps.zip us, scope.names.lookup y.1 = some .local ∨ (scope.names.lookup y.1 = some .cell ∧ ((cellsFrom (s.heap.objs.size + 1) scope.names []).lookup y.1).isSome = true) := fun ⟨n, v⟩ hy => by
    rcases S.par n (List.of_mem_zip hy).1 with q | q
    · exact .inl q
    · exact .inr ⟨q, PySem.W.cellsFrom_some _ _ _ (.inl q)⟩
  refine codeAny_call_function hr.depth (KX _ _ lk) rfl S.co S.gen rfl (PySem.W.codeRec_of KX hcd) (hb _ _ _ _ ?_)
  refine wpAny_newFunctionEnv_cells S.kind hkind fun env he s1 x => ?_
  subst he
  refine ⟨lim.keeps x.toInCall.keep, codeAny_func ?_⟩
  obtain ⟨t, ht, hq⟩ := hbody A outer s H vs Q E (hr.deeper _) hsp
  have I : Inv (cxOf CX P w K mg base N qual scope f cdv A outer s H E) [] (start N vs) H s1 := inv_start S hr.hd e0 hl r x
  refine wpAny_mono (ht [] s1 (start N vs) H _ I hq) (fun fl s' hs => ?_) fun e s' hs => hs
  have fin : ∀ {σ' : St} {H' : Hp} {v : V} {u : Value}, Inv (cxOf CX P w K mg base N qual scope f cdv A outer s H E) [] σ' H' s' → RelV v u → Q v H' → CE outer P w H s Q u s' :=
    fun {σ' H' v u} J rv q => ⟨v, H', J.os, J.bare, J.base, J.hok, rv, q⟩
  cases fl with
  | ret u =>
    obtain ⟨v, σ', H', J, rv, q⟩ := hs
    exact fin J rv q
  | next =>
    obtain ⟨σ', H', J, q⟩ := hs
    exact fin (v := V.non) (u := Value.none) J rfl q
  | brk =>
    obtain ⟨_, _, _, q⟩ := hs
    exact False.elim q
  | cont =>
    obtain ⟨_, _, _, q⟩ := hs
    exact False.elim q
end L2

namespace L2
open PySem PySem.Spec PyProof.Rows
section
variable {X : Cx} {x : Str} {p pos : Pos} {e : Expr} {es : List Expr} {t : TA} {id T : String} {r : List V → Hp → VK → Prop}

def tCB (r : List V → Hp → VK → Prop) (t : TA) : TE := fun σ H Q => t σ H fun vs H1 => r vs H1 Q
/-- f(e, ..), f a built-in function -/
theorem pe_callB (hc : CallR X (.builtin id) r) (hg : Gl X x) (hm : X.mg x = none) (hv : bootBuiltins x = some (.builtin id)) (ha : PA X (e :: es) t) (hn : x ≠ "__name__" := by decide) (hdb : (x == ("__debug__" : Str)) = false := by decide)
    (he : starEach (e :: es) X.env = (false, eval e X.env) :: starEach es X.env := by rfl) (hpl : (backTo pos (starEach es X.env)).any (·.1) = false := by rfl) : PE X (.Call (.Name x p) (e :: es) [] pos) (tCB r t) := by
  intro pins s σ H Q I h
  refine wpAny_Call_Name_kw (ld_blt I hg hm hv ?_ hn hdb)
  exact PyProof.Rows.callWith_builtin1 (thn (ha pos pins s σ H _ I h) fun us s1 ⟨vs, H1, I1, r1, q1⟩ => hc pins s1 σ H1 vs us Q I1 r1 q1) he hpl
/-- T(e, ..), T a built-in type -/
theorem pe_callTy (hc : CallR X (.type T) r) (hg : Gl X x) (hm : X.mg x = none) (hv : bootBuiltins x = some (.type T)) (ha : PA X (e :: es) t) (hn : x ≠ "__name__" := by decide) (hdb : (x == ("__debug__" : Str)) = false := by decide)
    (he : starEach (e :: es) X.env = (false, eval e X.env) :: starEach es X.env := by rfl) (hpl : (backTo pos (starEach es X.env)).any (·.1) = false := by rfl) : PE X (.Call (.Name x p) (e :: es) [] pos) (tCB r t) := by
  intro pins s σ H Q I h
  refine wpAny_Call_Name_kw (ld_blt I hg hm hv ?_ hn hdb)
  exact PyProof.Rows.callWith_type1 (thn (ha pos pins s σ H _ I h) fun us s1 ⟨vs, H1, I1, r1, q1⟩ => hc pins s1 σ H1 vs us Q I1 r1 q1) he hpl
end
end L2

namespace HT
open PySem PyProof.Rows



section
open PySem.SeqAt
open PySem.AutoSeq1 (wpAny_loadPart')
open PySem.MeetsSeq PySem.MeetsSeq2 PySem.MeetsSeq3

end

section
variable {prog : Program} {w : World} {A : Around} {E : Value → Shared → Prop} {s : Shared}



/-! ### t[a:b], not the whole -/
/-- a slice's bound as a place among n (d where it is left out) -/
def sIx (n d : Nat) : Option Int → Nat
  | none => d
  | some v => if v < 0 then (v + (n : Int)).toNat else min v.toNat n

end
end HT

namespace L2
open PySem PySem.Spec PyProof.Rows

/-! ### the parts of a slice -/
abbrev TO := St → Hp → (Option Int → Hp → Prop) → Prop
/-- a slice's part (left out, or an int) -/
def PO (X : Cx) (e : Option Expr) (t : TO) : Prop :=
  ∀ (pins : List (Addr × Obj)) (s : Shared) (σ : St) (H : Hp) (Q : Option Int → Hp → Prop), Inv X pins σ H s → t σ H Q →
    wpAny (model X.prog X.w) X.A (evalPart e X.env) (fun u s' => ∃ o H', Inv X pins σ H' s' ∧ IsPart u o ∧ Q o H') X.xe s
def tNoPart : TO := fun _ H Q => Q none H
def tPart (t : TE) : TO := fun σ H Q => t σ H fun x H1 => ∃ i, x = .int i ∧ Q (some i) H1


section
variable {X : Cx} {e : Expr} {te : TE} {lo hi : Option Expr} {tl th : TO} {pos p2 : Pos}

theorem po_none : PO X none tNoPart := by
  intro pins s σ H Q I h
  rw [evalPart_none]
  exact wpAny_pure ⟨none, H, I, .none, h⟩
theorem po_some (h : PE X e te) : PO X (some e) (tPart te) := by
  intro pins s σ H Q I hw
  rw [evalPart_some]
  refine thn (h pins s σ H _ I hw) fun u s1 ⟨x, H1, I1, r1, q1⟩ => ?_
  obtain ⟨i, rfl, q⟩ := q1
  obtain ⟨t, rfl⟩ := r1
  exact ⟨some i, H1, I1, .int i t, q⟩

/-- what a slice of a value is, by values: the slice object stands at sl -/
def SlR (X : Cx) (r : V → Option Int → Option Int → Hp → VK → Prop) : Prop :=
  ∀ (pins : List (Addr × Obj)) (s : Shared) (σ : St) (H : Hp) (x : V) (v vl vu : Value) (lo hi : Option Int) (sl : Addr) (Q : VK), Inv X pins σ H s → RelV x v → s.heap.IsSliceOf sl vl vu .none → IsPart vl lo → IsPart vu hi → r x lo hi H Q →
    ∃ T id, typeLookup (.type T) "__getitem__" = pure (some (.builtin id)) ∧ s.TypeIs v T ∧ wpAny (model X.prog X.w) X.A (getItem v (.ref sl)) (EP X pins σ Q) X.xe s
def tSl (r : V → Option Int → Option Int → Hp → VK → Prop) (te : TE) (tl th : TO) : TE := fun σ H Q => te σ H fun x H1 => tl σ H1 fun l H2 => th σ H2 fun u H3 => r x l u H3 Q
/-- a[lo:hi], any a -/
theorem pe_slice {r : V → Option Int → Option Int → Hp → VK → Prop} (hr : SlR X r) (he : PE X e te) (hl : PO X lo tl) (hu : PO X hi th) : PE X (.Subscript e (.Slice lo hi none p2) pos) (tSl r te tl th) := by
  intro pins s σ H Q I h
  refine Subscript_ (thn (he pins s σ H _ I h) fun v s1 ⟨x, H1, I1, r1, q1⟩ => ?_)
  refine wpAny_Slice (thn (hl pins s1 σ H1 _ I1 q1) fun vl s2 ⟨l, H2, I2, pl, q2⟩ => thn (hu pins s2 σ H2 _ I2 q2) fun vu s3 ⟨u, H3, I3, pu, q3⟩ => ?_)
  rw [evalPart_none]
  refine wpAny_pure ?_
  have I4 : Inv X pins σ H3 { s3 with heap := s3.heap.push { cls := .type "slice", data := .fields #[vl, vu, .none] } } := I3.kept (t' := s3.toks) fun b ob q => Heap.get?_push_of_some _ q
  obtain ⟨T, id, hT, ht, hg⟩ := hr pins { s3 with heap := s3.heap.push { cls := .type "slice", data := .fields #[vl, vu, .none] } } σ H3 x v vl vu l u s3.heap.objs.size Q I4 r1 (Heap.IsSliceOf.new ..) pl pu q3
  show wpAny (model X.prog X.w) X.A (subscriptTail e (.Slice lo hi none p2) v (.ref s3.heap.objs.size)) (EP X pins σ Q) X.xe { s3 with heap := s3.heap.push { cls := .type "slice", data := .fields #[vl, vu, .none] } }
  exact tail_any (ops := [.ref s3.heap.objs.size, v]) ht hT hg (by with_unfolding_all rfl)

/-- the items of xs[lo:hi] -/
def cutV (xs : List V) (lo hi : Option Int) : List V := (xs.drop (HT.sIx xs.length 0 lo)).take (HT.sIx xs.length xs.length hi - HT.sIx xs.length 0 lo)
theorem cutV_length (xs : List V) (lo hi : Option Int) : (cutV xs lo hi).length ≤ xs.length := by
  unfold cutV
  rw [List.length_take, List.length_drop]
  omega

/-! ### t < u, t + u -/
end
end L2

namespace L2
open PySem PySem.Spec PyProof.Rows

/-! ### places -/
/-- the place that an index of any sign means -/
def ixN (n : Nat) (i : Int) : Option Nat := if 0 ≤ i then (if i < n then some i.toNat else none) else if -(n : Int) ≤ i then some (i + n).toNat else none
def atI {α : Type} (xs : List α) (i : Int) : Option α := (ixN xs.length i).bind fun j => xs[j]?
theorem ixN_seq {n : Nat} {i : Int} {j : Nat} (h : ixN n i = some j) : seqIndex? i n = some j ∧ j < n ∧ -(n : Int) ≤ i ∧ i < n := by
  unfold ixN at h
  by_cases h0 : 0 ≤ i
  · rw [if_pos h0] at h
    by_cases h1 : i < n
    · rw [if_pos h1] at h
      have e : i.toNat = j := Option.some.inj h
      exact ⟨by rw [seqIndex_of h0 h1, e], by omega, by omega, h1⟩
    · rw [if_neg h1] at h; cases h
  · rw [if_neg h0] at h
    by_cases h1 : -(n : Int) ≤ i
    · rw [if_pos h1] at h
      have e : (i + n).toNat = j := Option.some.inj h
      exact ⟨by rw [seqIndex_neg (by omega) h1, e], by omega, h1, by omega⟩
    · rw [if_neg h1] at h; cases h
theorem atI_get {α : Type} {xs : List α} {i : Int} {v : α} (h : atI xs i = some v) : ∃ j, seqIndex? i xs.length = some j ∧ xs[j]? = some v ∧ j < xs.length ∧ -(xs.length : Int) ≤ i ∧ i < xs.length := by
  unfold atI at h
  cases e : ixN xs.length i with
  | none => rw [e] at h; cases h
  | some j =>
    rw [e] at h
    obtain ⟨h1, h2, h3, h4⟩ := ixN_seq e
    exact ⟨j, h1, h, h2, h3, h4⟩
theorem atI_nat {α : Type} {xs : List α} {j : Nat} {v : α} (h : xs[j]? = some v) : atI xs (j : Int) = some v := by
  have hj : j < xs.length := (List.getElem?_eq_some_iff.mp h).1
  have e : ixN xs.length (j : Int) = some j := by
    unfold ixN
    rw [if_pos (by omega), if_pos (by omega)]; simp
  unfold atI; rw [e]; exact h

/-! ### what may be subscripted -/
/-- what stands as an index of a plain subscript -/
def PlainIx (b : Expr) : Prop := ∀ o i, subscripted b false o i = operate [o, i] (getItem o i)
/-- a subscript by values -/
def IxR (X : Cx) (r : R2) : Prop :=
  ∀ (value slice : Expr) (pins : List (Addr × Obj)) (s : Shared) (σ : St) (H : Hp) (x y : V) (v u : Value) (Q : VK), Inv X pins σ H s → RelV x v → RelV y u → r x y H Q →
    subscripted slice false v u = operate [v, u] (getItem v u) → wpAny (model X.prog X.w) X.A (subscriptTail value slice v u) (EP X pins σ Q) X.xe s
/-- a call of a builtin's method by values: the receiver, the arguments -/
def MtR (X : Cx) (id : String) (r : V → List V → Hp → VK → Prop) : Prop :=
  ∀ (pins : List (Addr × Obj)) (s : Shared) (σ : St) (H : Hp) (x : V) (xs : List V) (v : Value) (us : List Value) (Q : VK), Inv X pins σ H s → RelV x v → Vals xs us → r x xs H Q →
    wpAny (model X.prog X.w) X.A (call (.builtin id) (v :: us)) (EP X pins σ Q) X.xe s
section
variable {X : Cx} {a b : Expr} {ta tb : TE} {pos : Pos}
theorem IxR.or {r r' : R2} (h : IxR X r) (h' : IxR X r') : IxR X (fun x y H Q => r x y H Q ∨ r' x y H Q) := by
  intro value slice pins s σ H x y v u Q I rx ry q hs
  rcases q with q | q
  · exact h value slice pins s σ H x y v u Q I rx ry q hs
  · exact h' value slice pins s σ H x y v u Q I rx ry q hs
/-- a[b] -/
theorem pe_ix {r : R2} (hr : IxR X r) (ha : PE X a ta) (hb : PE X b tb) (hs : PlainIx b) : PE X (.Subscript a b pos) (tOp r ta tb) := by
  intro pins s σ H Q I h
  exact Subscript_ (binT ha hb I h fun v u s2 x y H2 I2 rx ry q => hr a b pins s2 σ H2 x y v u Q I2 rx ry q (hs _ _))

def rIxL (K : PySem.W.Frag) : R2 := fun x y H Q => ∃ p xs i v, x = .ref p ∧ y = .int i ∧ SqL K H p xs ∧ atI xs i = some v ∧ Q v H
def rIxT (K : PySem.W.Frag) : R2 := fun x y H Q => ∃ p xs i v, x = .ref p ∧ y = .int i ∧ SqT K H p xs ∧ atI xs i = some v ∧ Q v H
def rIxS : R2 := fun x y H Q => ∃ z i c, x = .str z ∧ y = .int i ∧ z.length ≤ sizeLine ∧ atI z.cps.toList i = some c ∧ Q (.str ⟨#[c]⟩) H
theorem ix_list : IxR X (rIxL X.K) := by
  intro value slice pins s σ H x y v u Q I rx ry h hs
  obtain ⟨p, xs, i, z, rfl, rfl, hq, he, q⟩ := h
  cases rx
  obtain ⟨t, rfl⟩ := ry
  obtain ⟨its, r, pl, hz⟩ := I.list hq
  obtain ⟨j, h1, h2, h3, h4, h5⟩ := atI_get he
  obtain ⟨w, ew, rw'⟩ := r.get h2
  have hl := r.length
  have hn := line63
  have fin : EP X pins σ Q w s := ⟨z, H, I, rw', q⟩
  by_cases h0 : 0 ≤ i
  · have hj : i.toNat = j := by
      rw [seqIndex_of h0 h5] at h1
      exact Option.some.inj h1
    exact item_listR pl.isList h0 (by omega) (by rw [hj]; simpa using ew) fin hs
  · have hj : (i + (its.toArray.size : Int)).toNat = j := by
      rw [seqIndex_neg (by omega) h4] at h1
      rw [List.size_toArray, ← hl]
      exact Option.some.inj h1
    exact subscriptTail_builtinR (x := w) pl.isList.typeIs slot_list_getitem.lookup
      (wpAny_getItem_list_neg (Q := fun r s' => r = w ∧ EP X pins σ Q r s') pl.isList (by omega) (by rw [List.size_toArray] <;> omega) (by omega) (by rw [hj]; simpa using ew) ⟨rfl, fin⟩) hs
theorem ix_tup : IxR X (rIxT X.K) := by
  intro value slice pins s σ H x y v u Q I rx ry h hs
  obtain ⟨p, xs, i, z, rfl, rfl, hq, he, q⟩ := h
  cases rx
  obtain ⟨t, rfl⟩ := ry
  obtain ⟨its, r, pl, hz⟩ := I.tuple hq
  obtain ⟨j, h1, h2, h3, h4, h5⟩ := atI_get he
  obtain ⟨w, ew, rw'⟩ := r.get h2
  have hl := r.length
  have hn := line63
  have fin : EP X pins σ Q w s := ⟨z, H, I, rw', q⟩
  exact subscriptTail_builtinR (x := w) pl.typeIs slot_tuple_getitem.lookup
    (getItem_tuple (j := j) (Q := fun r s' => r = w ∧ EP X pins σ Q r s') pl (by omega) (by omega) (by rw [List.size_toArray, ← hl]; exact h1) (by simpa using ew) ⟨rfl, fin⟩) hs
theorem ix_str : IxR X rIxS := by
  intro value slice pins s σ H x y v u Q I rx ry h hs
  obtain ⟨z, i, c, rfl, rfl, hz, he, q⟩ := h
  obtain ⟨t, rfl⟩ := rx
  obtain ⟨t', rfl⟩ := ry
  obtain ⟨j, h1, h2, h3, h4, h5⟩ := atI_get he
  have hl : z.cps.toList.length = z.length := by simp [Str.length]
  rw [hl] at h1 h4 h5
  have hn := line63
  exact tail_any (typeIs_str s z t) slot_str_getitem.lookup (getItem_str (c := c) (by
    have e1 : decide (i < -(2 ^ 63 : Int)) = false := decide_eq_false (by omega)
    have e2 : decide (i ≥ 2 ^ 63) = false := decide_eq_false (by omega)
    rw [e1, e2, Bool.or_false]) (by rw [h1]; simpa using h2) ⟨.str ⟨#[c]⟩, H, I.tok _, ⟨_, rfl⟩, q⟩) hs
/-- list, tuple or str -/
def rIx (K : PySem.W.Frag) : R2 := fun x y H Q => rIxL K x y H Q ∨ rIxT K x y H Q ∨ rIxS x y H Q
theorem ix_seq : IxR X (rIx X.K) := ix_list.or (ix_tup.or ix_str)

/-! ### xs[i] = v, any sign -/
/-- the list's object behind a store -/
theorem mapSeq_set (its : List Value) (n j : Nat) (u : Value) : Obj.mapSeq (·.setIfInBounds j u) { cls := .type "list", data := .seq its.toArray n } = { cls := .type "list", data := .seq (its.set j u).toArray n } := by
  simp [Obj.mapSeq]
theorem Inv.lst {pins : List (Addr × Obj)} {σ : St} {H : Hp} {s : Shared} {p : Addr} {xs : List V} (I : Inv X pins σ H s) (h : H p = some (.lst xs)) :
    ∃ (its : List Value) (n : Nat), Vals xs its ∧ s.heap.get? p = some { cls := .type "list", data := .seq its.toArray n } ∧ xs.length ≤ sizeLine := by
  obtain ⟨z, its, n, r, e⟩ := I.hok p _ h
  exact ⟨its, n, r, e, z⟩
/-- the list at p is written by an update of its object -/
theorem Inv.lstUpd {pins : List (Addr × Obj)} {σ : St} {H : Hp} {s : Shared} {p : Addr} {xs ys : List V} {its its' : List Value} {n n' : Nat} {f : Obj → Obj} (I : Inv X pins σ H s) (h : H p = some (.lst xs))
    (ho : s.heap.get? p = some { cls := .type "list", data := .seq its.toArray n }) (hf : f { cls := .type "list", data := .seq its.toArray n } = { cls := .type "list", data := .seq its'.toArray n' }) (r : Vals ys its') (hz : ys.length ≤ sizeLine) (t : Nat) :
    Inv X pins σ (upd H p (.lst ys)) { s with heap := s.heap.update p f, toks := t } := by
  have e : (s.heap.update p f).get? p = some { cls := .type "list", data := .seq its'.toArray n' } := by
    rw [Heap.get?_update_self f ho (by rw [hf] <;> rfl), hf]
  refine I.write (x := p) (e := p) (by rw [h]; trivial) (.inl rfl) (fun b u hb q => (Heap.get?_update_other _ _ (Ne.symm hb)).trans q) ⟨_, e⟩ ?_
  exact ⟨hz, its', n', r, e⟩
def rSetL : V → V → V → Hp → (Hp → Prop) → Prop := fun o i v H Q => ∃ p xs k j, o = .ref p ∧ i = .int k ∧ H p = some (.lst xs) ∧ ixN xs.length k = some j ∧ Q (upd H p (.lst (xs.set j v)))
theorem set_list : PSet X rSetL := by
  intro pins s σ H o i v ov iv u Q I ro ri rv h
  obtain ⟨p, xs, k, j, rfl, rfl, hp, hj, q⟩ := h
  cases ro
  obtain ⟨t, rfl⟩ := ri
  obtain ⟨its, n, r, ho, hz⟩ := I.lst hp
  obtain ⟨h1, h2, h3, h4⟩ := ixN_seq hj
  have hl := r.length
  have hn := line63
  have I' : Inv X pins σ (upd H p (.lst (xs.set j v))) { s with heap := s.heap.update p (Obj.mapSeq (·.setIfInBounds j u)) } :=
    I.lstUpd hp ho (mapSeq_set its n j u) (r.set rv j) (by rw [List.length_set]; exact hz) s.toks
  by_cases h0 : 0 ≤ k
  · have hk : k.toNat = j := by
      rw [seqIndex_of h0 h4] at h1
      exact Option.some.inj h1
    exact PySem.W.ki_setAt ho h0 (by omega) (by rw [List.size_toArray, ← hl]; exact h4) (by rw [hk]; exact ⟨_, I', q⟩)
  · have hk : (k + (its.toArray.size : Int)).toNat = j := by
      rw [seqIndex_neg (by omega) h3] at h1
      rw [List.size_toArray, ← hl]
      exact Option.some.inj h1
    exact PySem.W.ki_setBack ho (by omega) (by rw [List.size_toArray, ← hl]; exact h3) (by omega) (by rw [hk]; exact ⟨_, I', q⟩)

/-! ### slices -/
theorem slice_bounds (lo hi : Option Int) (n : Nat) : (sliceBounds lo hi none n).1 = ((HT.sIx n 0 lo : Nat) : Int) ∧ (sliceBounds lo hi none n).2.1 = ((HT.sIx n n hi : Nat) : Int) ∧ (sliceBounds lo hi none n).2.2 = 1 := by
  refine ⟨?_, ?_, rfl⟩
  · cases lo with
    | none => simp [sliceBounds, HT.sIx]
    | some i =>
      simp only [sliceBounds, HT.sIx, Option.getD_none, show (1 : Int) > 0 by decide, if_true]
      by_cases h : i < 0
      · simp only [h, if_true] <;> omega
      · simp only [h, if_false] <;> omega
  · cases hi with
    | none => simp [sliceBounds, HT.sIx]
    | some i =>
      simp only [sliceBounds, HT.sIx, Option.getD_none, show (1 : Int) > 0 by decide, if_true]
      by_cases h : i < 0
      · simp only [h, if_true] <;> omega
      · simp only [h, if_false] <;> omega
theorem slicePick_cut (its : List Value) (lo hi : Option Int) : slicePick its.toArray lo hi none = ((its.drop (HT.sIx its.length 0 lo)).take (HT.sIx its.length its.length hi - HT.sIx its.length 0 lo)).toArray := by
  obtain ⟨h1, h2, h3⟩ := slice_bounds lo hi its.toArray.size
  unfold slicePick
  rw [h1, h2, h3]
  simp only [sliceRange_one, pick_run, List.size_toArray] <;> rfl
/-- xs[lo:hi] of a list: a new list -/
def rSlL (K : PySem.W.Frag) : V → Option Int → Option Int → Hp → VK → Prop := fun x lo hi H Q => ∃ a xs, x = .ref a ∧ SqL K H a xs ∧ ∀ p, H p = none → Q (.ref p) (upd H p (.lst (cutV xs lo hi)))
theorem sl_list : SlR X (rSlL X.K) := by
  intro pins s σ H x v vl vu lo hi sl Q I rx hs pl pu h
  obtain ⟨a, xs, rfl, hx, q⟩ := h
  cases rx
  obtain ⟨its, r, ht, hz⟩ := I.list hx
  have hlen := r.length
  refine ⟨"list", _, slot_list_getitem.lookup, ht.isList.typeIs, ?_⟩
  refine wpAny_getItem_list_slice ht.isList hs pl pu .none (by simp) ?_ (by rw [List.size_toArray] <;> omega)
  rw [slicePick_cut, ← hlen]
  refine ⟨.ref s.heap.objs.size, _, I.laid (t' := s.toks) (o := .lst (cutV xs lo hi)) (fun b ob q => Heap.get?_push_of_some _ q) (Nat.le_refl _) ?_, rfl, q _ (I.hok.fresh (Nat.le_refl _))⟩
  exact ⟨Nat.le_trans (cutV_length xs lo hi) hz, _, 0, (r.drop (HT.sIx xs.length 0 lo)).take (HT.sIx xs.length xs.length hi - HT.sIx xs.length 0 lo), Heap.get?_push_size _ rfl⟩

/-! ### in, not in: flat items -/
def flatV : V → Bool
  | .non => true
  | .bl _ => true
  | .int _ => true
  | .str _ => true
  | _ => false
/-- == of flat values -/
def eqV : V → V → Bool
  | .non, .non => true
  | .bl a, .bl b => a == b
  | .bl a, .int b => (if a then 1 else 0) == b
  | .int a, .bl b => a == (if b then 1 else 0)
  | .int a, .int b => a == b
  | .str a, .str b => a == b
  | _, _ => false
theorem eqAt_V {A : Around} {s : Shared} {y x : V} {u v : Value} (ry : RelV y u) (rx : RelV x v) (fy : flatV y = true) (fx : flatV x = true) : SeqAt.EqAt A s u v (eqV y x) := by
  cases y with
  | non =>
    cases ry
    cases x with
    | non => cases rx; exact SeqAt.EqAt.same _
    | bl b => cases rx; exact SeqAt.EqAt.none_bool b
    | int b => obtain ⟨t, rfl⟩ := rx; exact SeqAt.EqAt.none_int b t
    | str b => obtain ⟨t, rfl⟩ := rx; exact SeqAt.EqAt.none_str b t
    | _ => exact absurd (show false = true from fx) Bool.false_ne_true
  | bl a =>
    cases ry
    cases x with
    | non => cases rx; exact SeqAt.EqAt.bool_none a
    | bl b => cases rx; exact SeqAt.EqAt.bool_bool a b
    | int b => obtain ⟨t, rfl⟩ := rx; exact SeqAt.EqAt.bool_int a b t
    | str b => obtain ⟨t, rfl⟩ := rx; exact SeqAt.EqAt.bool_str a b t
    | _ => exact absurd (show false = true from fx) Bool.false_ne_true
  | int a =>
    obtain ⟨t', rfl⟩ := ry
    cases x with
    | non => cases rx; exact SeqAt.EqAt.int_none a t'
    | bl b => cases rx; exact SeqAt.EqAt.int_bool a t' b
    | int b => obtain ⟨t, rfl⟩ := rx; exact SeqAt.EqAt.int_int a t' b t
    | str b => obtain ⟨t, rfl⟩ := rx; exact SeqAt.EqAt.int_str a t' b t
    | _ => exact absurd (show false = true from fx) Bool.false_ne_true
  | str a =>
    obtain ⟨t', rfl⟩ := ry
    cases x with
    | non => cases rx; exact SeqAt.EqAt.str_none a t'
    | bl b => cases rx; exact SeqAt.EqAt.str_bool a t' b
    | int b => obtain ⟨t, rfl⟩ := rx; exact SeqAt.EqAt.str_int a t' b t
    | str b => obtain ⟨t, rfl⟩ := rx; exact SeqAt.EqAt.str_str a t' b t
    | _ => exact absurd (show false = true from fx) Bool.false_ne_true
  | _ => exact absurd (show false = true from fy) Bool.false_ne_true
/-- the items' answers, read off the values (a value's own answer does not lean on its token) -/
def eqU (x : V) (u : Value) : Bool := match u with
  | .none => eqV .non x
  | .bool b => eqV (.bl b) x
  | .int i _ => eqV (.int i) x
  | .str z _ => eqV (.str z) x
  | _ => false
theorem eqU_of {x y : V} {u : Value} (r : RelV y u) (f : flatV y = true) : eqU x u = eqV y x := by
  cases y with
  | non => cases r; rfl
  | bl b => cases r; rfl
  | int i => obtain ⟨t, rfl⟩ := r; rfl
  | str z => obtain ⟨t, rfl⟩ := r; rfl
  | _ => exact absurd (show false = true from f) Bool.false_ne_true
theorem any_eqU {x : V} : ∀ {xs : List V} {us : List Value}, Vals xs us → xs.all flatV = true → us.any (eqU x) = xs.any fun y => eqV y x
  | _, _, .nil, _ => rfl
  | y :: xs, u :: us, .cons r t, f => by
    rw [List.all_cons, Bool.and_eq_true] at f
    rw [List.any_cons, List.any_cons, eqU_of r f.1, any_eqU t f.2]
theorem mem_eqAt {A : Around} {s : Shared} {x : V} {v : Value} (rx : RelV x v) (fx : flatV x = true) : ∀ {xs : List V} {us : List Value}, Vals xs us → xs.all flatV = true → ∀ u ∈ us, SeqAt.EqAt A s u v (eqU x u)
  | _, _, .nil, _ => fun u hu => by cases hu
  | y :: xs, u :: us, .cons r t, f => fun u' hu => by
    rw [List.all_cons, Bool.and_eq_true] at f
    rcases List.mem_cons.mp hu with rfl | hu
    · rw [eqU_of r f.1]; exact eqAt_V r rx f.1 fx
    · exact mem_eqAt rx fx t f.2 u' hu
def inV (x : V) (xs : List V) : Bool := xs.any fun y => eqV y x
/-- x in a list or tuple of flat items -/
def rIn (K : PySem.W.Frag) (neg : Bool) : R2 := fun x y H Q => ∃ p xs, y = .ref p ∧ (SqL K H p xs ∨ SqT K H p xs) ∧ flatV x = true ∧ xs.all flatV = true ∧ Q (.bl (if neg then !inV x xs else inV x xs)) H
theorem op_in_seq : OpR X (compareOp .In) (rIn X.K false) := by
  intro pins s σ H x y v u Q I rx ry h
  obtain ⟨p, xs, rfl, hq, fx, fs, q⟩ := h
  cases ry
  rcases hq with hq | hq
  · obtain ⟨its, r, pl, hz⟩ := I.list hq
    refine SeqAt.in_listAt (eqU x) pl.isList (fun w hw => mem_eqAt rx fx r fs w (by simpa using hw)) ⟨.bl _, H, I, rfl, ?_⟩
    rw [show its.toArray.any (eqU x) = its.any (eqU x) by simp, any_eqU r fs]
    exact q
  · obtain ⟨its, r, pl, hz⟩ := I.tuple hq
    refine SeqAt.in_tupleAt (eqU x) pl (fun w hw => mem_eqAt rx fx r fs w (by simpa using hw)) ⟨.bl _, H, I, rfl, ?_⟩
    rw [show its.toArray.any (eqU x) = its.any (eqU x) by simp, any_eqU r fs]
    exact q
theorem op_notIn_seq : OpR X (compareOp .NotIn) (rIn X.K true) := by
  intro pins s σ H x y v u Q I rx ry h
  obtain ⟨p, xs, rfl, hq, fx, fs, q⟩ := h
  cases ry
  rcases hq with hq | hq
  · obtain ⟨its, r, pl, hz⟩ := I.list hq
    refine SeqAt.notIn_listAt (eqU x) pl.isList (fun w hw => mem_eqAt rx fx r fs w (by simpa using hw)) ⟨.bl _, H, I, rfl, ?_⟩
    rw [show its.toArray.any (eqU x) = its.any (eqU x) by simp, any_eqU r fs]
    exact q
  · obtain ⟨its, r, pl, hz⟩ := I.tuple hq
    refine SeqAt.notIn_tupleAt (eqU x) pl (fun w hw => mem_eqAt rx fx r fs w (by simpa using hw)) ⟨.bl _, H, I, rfl, ?_⟩
    rw [show its.toArray.any (eqU x) = its.any (eqU x) by simp, any_eqU r fs]
    exact q

/-! ### len, list(x), tuple(x) of any list or tuple that is read -/
theorem call_len_seq : CallR X (.builtin "len") (fun xs H Q => ∃ p ys, xs = [.ref p] ∧ (SqL X.K H p ys ∨ SqT X.K H p ys) ∧ Q (.int ys.length) H) := by
  intro pins s σ H xs us Q I r h
  obtain ⟨p, ys, rfl, hq, q⟩ := h
  obtain ⟨u, rfl, rx⟩ := vals1 r
  cases rx
  have hn := line63
  rcases hq with hq | hq
  · obtain ⟨its, r', pl, hz⟩ := I.list hq
    have hlen := r'.length
    exact Calls.call_len_list pl.isList (by simp only [List.size_toArray] <;> omega) ⟨.int ys.length, H, I.tok _, ⟨s.toks + 1, by rw [List.size_toArray, hlen]⟩, q⟩
  · obtain ⟨its, r', pl, hz⟩ := I.tuple hq
    have hlen := r'.length
    exact len_tuple pl (by simp only [List.size_toArray] <;> omega) ⟨.int ys.length, H, I.tok _, ⟨s.toks + 1, by rw [List.size_toArray, hlen]⟩, q⟩
theorem call_list_of : CallR X (.type "list") (fun xs H Q => ∃ p ys, xs = [.ref p] ∧ (SqL X.K H p ys ∨ SqT X.K H p ys) ∧ ∀ l, H l = none → Q (.ref l) (upd H l (.lst ys))) := by
  intro pins s σ H xs us Q I r h
  obtain ⟨p, ys, rfl, hq, q⟩ := h
  obtain ⟨u, rfl, rx⟩ := vals1 r
  cases rx
  have fin : ∀ (its : List Value), Vals ys its → ys.length ≤ sizeLine → ∀ (h' : Heap) (c' : Nat), (∀ b o', s.heap.get? b = some o' → h'.get? b = some o') →
      h'.get? s.heap.objs.size = some { cls := .type "list", dict := none, data := .seq its.toArray c', slots := #[] } → EP X pins σ Q (.ref s.heap.objs.size) { s with heap := h' } := fun its r' hz h' c' kp e =>
    ⟨.ref s.heap.objs.size, _, I.laid (t' := s.toks) kp (Nat.le_refl _) (show ObjOk X.prog X.w _ h' _ (.lst ys) from ⟨hz, its, c', r', e⟩), rfl, q _ (I.hok.fresh (Nat.le_refl _))⟩
  rcases hq with hq | hq
  · obtain ⟨its, r', pl, hz⟩ := I.list hq
    have hlen := r'.length
    obtain ⟨o, ho, hc, n, hd⟩ := pl.isList
    exact call_list_seq p (.inl rfl) ho hc hd (fun h' c' kp e => fin its r' hz h' c' kp e) (by simp only [List.size_toArray] <;> omega)
  · obtain ⟨its, r', pl, hz⟩ := I.tuple hq
    have hlen := r'.length
    obtain ⟨o, ho, hc, n, hd⟩ := pl
    exact call_list_seq p (.inr rfl) ho hc hd (fun h' c' kp e => fin its r' hz h' c' kp e) (by simp only [List.size_toArray] <;> omega)

/-! ### the call of a builtin's method: o.m(..) -/
/-- the value is of that builtin type -/
def tyV (K : PySem.W.Frag) (T : String) (x : V) (H : Hp) : Prop := match x with
  | .str _ => T = "str"
  | .int _ => T = "int"
  | .ref p => (T = "list" ∧ ∃ xs, SqL K H p xs) ∨ (T = "tuple" ∧ ∃ o, K.lookup p = some o ∧ o.cls = .type "tuple" ∧ o.dict = none) ∨
      (T = "dict" ∧ ((∃ kvs, H p = some (.dK kvs)) ∨ ∃ kvs, H p = some (.dT kvs))) ∨ (T = "set" ∧ ∃ S n, H p = some (.set S n))
  | _ => False
theorem tyV_is {pins : List (Addr × Obj)} {σ : St} {H : Hp} {s : Shared} {T : String} {x : V} {v : Value} (I : Inv X pins σ H s) (r : RelV x v) (ty : tyV X.K T x H) :
    s.TypeIs v T ∧ ∀ a, v = .ref a → ∃ ob, s.heap.get? a = some ob ∧ ob.dict = none := by
  cases x with
  | str z =>
    obtain ⟨t, rfl⟩ := r
    cases (show T = "str" from ty)
    exact ⟨typeIs_str s z t, fun _ e => nomatch e⟩
  | int i =>
    obtain ⟨t, rfl⟩ := r
    cases (show T = "int" from ty)
    exact ⟨typeIs_int s i t, fun _ e => nomatch e⟩
  | ref p =>
    cases r
    rcases ty with ⟨rfl, xs, hq⟩ | ⟨rfl, o, hk, hc, hd⟩ | ⟨rfl, hk⟩ | ⟨rfl, S, n, hk⟩
    · obtain ⟨its, _, pl, _⟩ := I.list hq
      refine ⟨pl.isList.typeIs, fun a e => ?_⟩
      cases e
      obtain ⟨o, n, e, c, hd, _⟩ := pl
      exact ⟨o, e, hd⟩
    · refine ⟨⟨o, I.kIn p o hk, hc⟩, fun a e => ?_⟩
      cases e
      exact ⟨o, I.kIn _ o hk, hd⟩
    · have z : ∃ o, s.heap.get? p = some o ∧ o.ExactDict := by
        rcases hk with ⟨kvs, hk⟩ | ⟨kvs, hk⟩
        · obtain ⟨_, _, _, _, o, _, _, e, ex, _⟩ := I.hok p _ hk
          exact ⟨o, e, ex⟩
        · obtain ⟨_, _, _, _, o, _, _, e, ex, _⟩ := I.hok p _ hk
          exact ⟨o, e, ex⟩
      obtain ⟨o, e, ex⟩ := z
      refine ⟨⟨o, e, ex.1⟩, fun a e2 => ?_⟩
      cases e2
      exact ⟨o, e, ex.2.1⟩
    · obtain ⟨o, _, _, _, e, ex, _⟩ := I.hok p _ hk
      refine ⟨⟨o, e, ex.1⟩, fun a e2 => ?_⟩
      cases e2
      exact ⟨o, e, ex.2.1⟩
  | _ => exact False.elim ty
def tBM (K : PySem.W.Frag) (T : String) (r : V → List V → Hp → VK → Prop) (to : TE) (t : TA) : TE := fun σ H Q => to σ H fun x H1 => tyV K T x H1 ∧ t σ H1 fun xs H2 => r x xs H2 Q
variable {o e : Expr} {es : List Expr} {to : TE} {t : TA} {name : Str} {apos cpos : Pos} {T id : String} {r : V → List V → Hp → VK → Prop}
theorem pe_bm (pa : PlainAttrs T) (slot : Slot T name id) (hty : typeOf (.builtin id) = pure (.type "method_descriptor")) (hm : MtR X id r) (ho : PE X o to) (ha : PA X (e :: es) t)
    (hbase : attributeBase o name X.env (eval o X.env) = eval o X.env := by rfl)
    (hfew : ((backTo cpos (starEach (e :: es) X.env)).all (fun x => !x.1) && (backToKw cpos (keywordEach [] X.env)).all (fun x => x.1.isSome)
      && decide ((e :: es).length + ([] : List Keyword).length + (if ([] : List Keyword).isEmpty then 0 else 1) < 30)) = true := by rfl)
    (hline : (apos.endLine == cpos.line) = true := by rfl) (hs : starEach (e :: es) X.env = (false, eval e X.env) :: starEach es X.env := by rfl) (hplain : (backTo cpos (starEach es X.env)).any (·.1) = false := by rfl) :
    PE X (.Call (.Attribute o name apos) (e :: es) [] cpos) (tBM X.K T r to t) := by
  intro pins s σ H Q I h
  refine wpAny_Call_method_late hbase hfew hline rfl (thn (ho pins s σ H _ I h) fun v s1 ⟨x, H1, I1, r1, ty, q1⟩ => ?_)
  obtain ⟨h1, h2⟩ := tyV_is I1 r1 ty
  refine ⟨T, id, pa, slot, hty, h1, h2, ?_⟩
  have hA := ha cpos pins s1 σ H1 _ I1 q1
  rw [hs] at hA ⊢
  refine Calls.callWith_builtin (by show (false || (backTo cpos (starEach es X.env)).any (·.1)) = false; rw [hplain] <;> rfl) (Calls.evalArgs_plain ?_)
  exact thn hA fun us s2 ⟨vs, H2, I2, r2, q2⟩ => hm pins s2 σ H2 x vs v us Q I2 r1 r2 q2
/- xs.append(e), list.index on a module's tuple .. are MtR facts of 06m -/
end
end L2

namespace L2
open PySem PySem.Spec PyProof.Rows

def MtM (X : Cx) (id : String) (r : V → List V → Hp → VK → Prop) : Prop :=
  ∀ (pins : List (Addr × Obj)) (s : Shared) (σ : St) (H : Hp) (x : V) (xs : List V) (v : Value) (us : List Value) (Q : VK), Inv X pins σ H s → RelV x v → Vals xs us → r x xs H Q →
    wpAny (model X.prog X.w) X.A (call (.builtin id) (v :: us)) (EP X pins σ Q) X.xe s

/-! ### lists of values -/
theorem Vals.one : ∀ {x : V} {us : List Value}, Vals [x] us → ∃ u, us = [u] ∧ RelV x u
  | _, _, .cons r .nil => ⟨_, rfl, r⟩
theorem Vals.rep {xs : List V} {us : List Value} (h : Vals xs us) : ∀ k : Nat, Vals (List.replicate k xs).flatten (List.replicate k us).flatten
  | 0 => .nil
  | k + 1 => by
    rw [List.replicate_succ, List.replicate_succ, List.flatten_cons, List.flatten_cons]
    exact Vals.append h (Vals.rep h k)
theorem foldl_rep (its : List Value) : ∀ (k : Nat) (acc : List Value),
    List.foldl (fun x1 x2 => x1 ++ x2) acc.toArray (List.replicate k its.toArray) = (acc ++ (List.replicate k its).flatten).toArray
  | 0, acc => by simp
  | k + 1, acc => by
    have e : acc.toArray ++ its.toArray = (acc ++ its).toArray := by simp
    have e2 : (acc ++ its) ++ (List.replicate k its).flatten = acc ++ (List.replicate (k + 1) its).flatten := by
      rw [List.replicate_succ, List.flatten_cons, List.append_assoc]
    rw [← e2, ← foldl_rep its k (acc ++ its), ← e, List.replicate_succ, List.foldl_cons]

section
variable {X : Cx} {pins : List (Addr × Obj)} {σ : St} {H : Hp} {s : Shared} {l b : Addr} {xs ys zs : List V}

/-! ### the two steps: a tracked list is rewritten, a new list is laid -/
theorem Inv.lset {its its' : List Value} {n : Nat} {f : Array Value → Array Value} {t' : Nat} (I : Inv X pins σ H s) (hH : H l = some (.lst xs))
    (e : s.heap.get? l = some { cls := .type "list", data := .seq its.toArray n }) (hf : f its.toArray = its'.toArray) (hv : Vals ys its') (hz : ys.length ≤ sizeLine) :
    Inv X pins σ (upd H l (.lst ys)) { s with heap := s.heap.update l (Obj.mapSeq f), toks := t' } := by
  have q := PySem.IsL.update e f
  rw [hf] at q
  refine I.write (x := l) (e := l) (by rw [hH]; exact trivial) (.inl rfl) (fun b' u hb hu => (Heap.get?_update_other s.heap (Obj.mapSeq f) (Ne.symm hb)).trans hu) ⟨_, q⟩ ?_
  exact ⟨hz, its', _, hv, q⟩
theorem Inv.lnew {its : List Value} {t' : Nat} (I : Inv X pins σ H s) (hv : Vals ys its) (hz : ys.length ≤ sizeLine) :
    Inv X pins σ (upd H s.heap.objs.size (.lst ys)) { s with heap := s.heap.push { cls := .type "list", data := .seq its.toArray }, toks := t' } :=
  I.laid (fun _ _ q => Heap.get?_push_of_some _ q) (Nat.le_refl _) ⟨hz, its, 0, hv, Heap.get?_push_size _ rfl⟩
theorem Inv.fresh (I : Inv X pins σ H s) : H s.heap.objs.size = none := I.hok.fresh (Nat.le_refl _)
theorem Inv.lstM (I : Inv X pins σ H s) (hH : H l = some (.lst xs)) : xs.length ≤ sizeLine ∧ ∃ (its : List Value) (n : Nat), Vals xs its ∧ xs.length = its.length ∧ s.heap.get? l = some { cls := .type "list", data := .seq its.toArray n } := by
  obtain ⟨z, its, n, r, e⟩ := I.hok l _ hH
  exact ⟨z, its, n, r, r.length, e⟩

theorem notLongL {n : Nat} (h : n ≤ sizeLine) : Builtin.List.listTooLong n = false := by
  unfold Builtin.List.listTooLong
  exact decide_eq_false (by omega)
end

section
variable {X : Cx}

/-! ### methods -/
def rAppend : V → List V → Hp → VK → Prop := fun x vs H Q => ∃ l xs y, x = .ref l ∧ vs = [y] ∧ H l = some (.lst xs) ∧ xs.length < sizeLine ∧ Q .non (upd H l (.lst (xs ++ [y])))
theorem mt_append : MtM X "list.append" rAppend := by
  intro pins s σ H x vs v us Q I rx rv h
  obtain ⟨l, xs, y, rfl, rfl, hH, hz, q⟩ := h
  cases rx
  obtain ⟨u, rfl, ru⟩ := rv.one
  obtain ⟨z, its, n, r, hl, e⟩ := I.lstM hH
  refine call_meets F.slot_list_append ⟨_, e, rfl⟩ F.entry_list_append (F.args_list_append_2 _ _) (PySem.list_append l its.toArray n u (by rw [List.size_toArray]; omega)) ⟨e, ?_⟩
  refine ⟨.non, _, I.lset (its' := its ++ [u]) hH e (by simp) (r.append (.cons ru .nil)) ?_, rfl, q⟩
  rw [List.length_append, List.length_singleton]
  omega






/-! ### list + list, list += list, list * int -/
/-- a list times an int (a negative one is nothing) -/
def rRep : R2 := fun x y H Q => ∃ l k xs, x = .ref l ∧ y = .int k ∧ H l = some (.lst xs) ∧ -(2 ^ 63) ≤ k ∧ k < 2 ^ 63 ∧ xs.length * k.toNat ≤ sizeLine ∧
  ∀ p, H p = none → Q (.ref p) (upd H p (.lst (List.replicate k.toNat xs).flatten))
theorem len_rep {α : Type} (xs : List α) (k : Nat) : (List.replicate k xs).flatten.length = k * xs.length := by
  induction k with
  | zero => simp
  | succ k ih => rw [List.replicate_succ, List.flatten_cons, List.length_append, ih, Nat.succ_mul, Nat.add_comm]
theorem op_rep : OpR X (binaryOp .Mult) rRep := by
  intro pins s σ H x y v u Q I rx ry h
  obtain ⟨l, k, xs, rfl, rfl, hH, h1, h2, hz, q⟩ := h
  cases rx
  obtain ⟨t, rfl⟩ := ry
  obtain ⟨z, its, n, r, hl, e⟩ := I.lstM hH
  have hlen : its.toArray.size * k.toNat ≤ sizeLine := by rw [List.size_toArray, ← hl]; exact hz
  have hcap : ¬ its.toArray.size * k.toNat > (2 ^ 63 - 1) / 8 := by
    have : (sizeLine : Nat) ≤ (2 ^ 63 - 1) / 8 := by decide
    omega
  have hfit : ¬ (!Builtin.List.listFitsIndex k) = true := by
    rw [fitsIndex_both h1 h2]
    exact Bool.false_ne_true
  have hlong : ¬ Builtin.List.listTooLong (its.toArray.size * k.toNat) = true := by
    rw [notLongL hlen]
    exact Bool.false_ne_true
  have hnew : List.foldl (fun x1 x2 => x1 ++ x2) #[] (List.replicate (if its.toArray.isEmpty = true then 0 else k.toNat) its.toArray) = (List.replicate k.toNat its).flatten.toArray := by
    have f0 : ∀ m : Nat, List.foldl (fun x1 x2 => x1 ++ x2) #[] (List.replicate m its.toArray) = (List.replicate m its).flatten.toArray := fun m => by
      have := foldl_rep its m []
      rw [List.nil_append] at this
      exact this
    rw [f0]
    cases its with
    | nil => simp
    | cons a r' => rw [if_neg (by simp)]
  refine wpAny_binaryOp_repeat_ref (T := "list") (U := "int") (by decide) ⟨_, e, rfl⟩ (fun s' => typeIs_int s' k t) noFill_list_mul F.fills_int_mul F.slot_int_rmul repeat_list F.slot_int_index.lookup
    (call_meets F.slot_int_rmul (typeIs_int s k t) F.entry_int_rmul (F.args_int_rmul_2 _ _) (int___rmul___int_list k t l its.toArray n)
      ⟨e, rfl, ⟨_, e, rfl⟩, call_meets F.slot_list_mul ⟨_, e, rfl⟩ F.entry_list_mul (F.args_list_mul_2 _ _) (AutoListH.list___mul___list_int_3 l its.toArray n k t hfit hcap hlong) ⟨e, ?_⟩⟩)
  rw [hnew]
  exact ⟨.ref _, _, I.lnew (t' := s.toks) (r.rep k.toNat) (by rw [len_rep, Nat.mul_comm]; exact hz), rfl, q _ I.fresh⟩

/-! ### del xs[i] -/
end

/-! ### xs[a:b] = ys -/
section
variable {prog : Program} {w : World} {A : Around} {E : Value → Shared → Prop} {s : Shared}
end

section
variable {X : Cx}
end
end L2

namespace Att
open PySem PySem.W PySem.Calls PyProof.Rows

/-! ### the script -/
theorem ints_of_wellAll {P : Params} {h : Heap} : ∀ (ns : List Int) (vs : List Value), WellAll P h vs (ns.map WData.int) → IntsAre vs ns := by
  intro ns
  induction ns with
  | nil =>
    intro vs w
    rw [List.map_nil] at w
    cases w
    exact .nil
  | cons n ns ih =>
    intro vs w
    rw [List.map_cons] at w
    cases w with
    | cons a b =>
      cases a
      exact .cons _ _ (ih _ b)

theorem script_of {l : OpenLaw} {n : Nat} (hn : l.most = some n) {P : Params} {h : Heap} {args : List WData} {vals : List Value}
    (hpre : l.row.toRowW.claim.pre args = true) (hwl : WellAll P h vals args) :
    ∃ a vs ns, vals = [Value.ref a] ∧ args = [WData.list (ns.map WData.int)] ∧ h.get? a = some { cls := .type "list", data := .seq vs.toArray } ∧ IntsAre vs ns ∧ ns.length ≤ n := by
  have hsh : WShape.hasAll [] args [.list .int] = true := (pre_splitW hpre).1
  have hc : l.pre.holds [] { args := args } = true := (pre_splitW hpre).2
  obtain ⟨d, r, rfl, h1, h2⟩ := hasAllW_cons hsh
  obtain rfl := hasAllW_nil h2
  obtain ⟨xs, rfl, h3⟩ := hasW_list h1
  obtain ⟨ns, rfl⟩ := items_int h3
  have hlen : ns.length ≤ n := by
    unfold OpenLaw.pre at hc
    have h4 : (WTm.not (.lt (.lit (.int (n : Int))) (.len (.arg 0)))).holds [] { args := [.list (ns.map .int)] } = true := by
      have h4 := (holds_andW hc).1
      rw [hn] at h4
      exact h4
    have h5 := condW_of h4 (w_not (w_lt w_lit (w_len_list (w_arg rfl))))
    rw [List.length_map] at h5
    refine Nat.le_of_not_lt fun q => ?_
    have q' : (n : Int) < ((ns.length : Nat) : Int) := by omega
    first
      | (rw [decide_eq_true q'] at h5; exact absurd h5 (by decide))
      | (simp at h5; omega)
  cases hwl with
  | cons w1 w2 =>
    cases w2
    cases w1 with
    | list ho hall => exact ⟨_, _, ns, rfl, rfl, ho, ints_of_wellAll ns _ hall, hlen⟩

theorem post_true (l : OpenLaw) (args : List WData) : l.row.toRowW.claim.post args (.bool true) args = true :=
  postW_of (r := l.row.toRowW) (X := (true == true))
    (show WShape.has [] (.bool true) .bool = true by first | rfl | decide | simp [WShape.has, WShape.arms, WShape.armsAll])
    (show (WTm.eq .res (.lit (.bool true))).value [] { args := args, res := some (.bool true), after := args } = some (.bool (true == true)) from w_eq_bool (w_res rfl) w_lit) rfl

/-! ### the attachment: holds_open's last premise (the goal 'hc' behind k_head) from a wpAny of the law's body -/

/-- the same from a codeAny of the CALL (for a layer whose function contracts speak of calls) -/
theorem attach_call {l : OpenLaw} {n : Nat} {q : Program} {loose : List Str} {XP : (Str → Option Value) → Heap → Prop} {YP : World → Heap → Prop} {d : DefRec}
    (hn : l.most = some n) (hdf : d.params.defaults = [])
    (call : ∀ (w : World) (s₀ s₁ : Shared) (mg mb : Str → Option Value) (fa : Addr) (o : Obj) (pm cd doc : Value) (a : Addr) (vs : List Value) (ns : List Int),
      Ground q loose [] XP w s₀ mg mb s₁.heap → YP w s₁.heap →
      s₁.heap.get? fa = some o → o.data = .func (docDef d.name d.params d.body d.scope pm cd doc) → s₁.heap.CodeRec cd d.name → mg d.name = some (.ref fa) →
      s₁.heap.get? a = some { cls := .type "list", data := .seq vs.toArray } → IntsAre vs ns → ns.length ≤ n → s₁.gens = #[] →
      codeAny (model l.prog w) callerA (.call (.ref fa) ⟨[.ref a], []⟩) (fun r s' => r = .ok (.ret (.bool true)) ∧ OldK s₁.heap s'.heap ∧ s'.os = s₁.os ∧ AllBare s'.gens) s₁) :
    WalkO q loose XP YP l.row.toRowW d [] (fun f vs => PySem.call f vs) := by
  intro w s₀ s₁ mg mb G Y fa o pm cd doc dV kV ho hd hcd hD hmg hg args vals as hpre hlay hrd hwl hlo
  obtain rfl : dV = .none := Dflts.none hD hdf
  obtain rfl : kV = .none := Dflts.noKw hD
  obtain ⟨a, vs, ns, rfl, rfl, hobj, hints, hlen⟩ := script_of hn hpre hwl
  refine enter_call (codeAny_mono (call w s₀ s₁ mg mb fa o pm cd doc a vs ns G Y ho (fd_plain hd) hcd hmg hobj hints hlen hg) fun r s' hq => ?_)
  obtain ⟨rfl, h2, h3, h4⟩ := hq
  exact ⟨.inl ⟨.bool true, .bool true, [], rfl, fun _ => rfl, .bool true, post_true l _, fun _ => ⟨List.Pairwise.nil, fun _ hm => (nomatch hm)⟩⟩, h2, h3, h4⟩


/-! ### rules over ANY heap (no ledger) from facts about the written part K: the library's own take a ledger (News) for what they write -/
section
variable {prog : Program} {w : World} {A : Around} {E : Value → Shared → Prop} {s : Shared} {K : Frag}





/-! the whole heap as the ledger: makes every rule that writes through a ledger a rule over any heap -/

end
end Att

namespace L2
open PySem PySem.Spec PyProof.Rows

theorem vals_ints : ∀ {vs : List Value} {ns : List Int}, IntsAre vs ns → Vals (ns.map V.int) vs
  | _, _, .nil => .nil
  | _, _, .cons n t h => .cons ⟨t, rfl⟩ (vals_ints h)

/-- nothing is tracked but the script, known to the object (or it is an object of the module) -/
def Only (H : Hp) : Prop := ∀ b, H b = none ∨ ∃ o xs, H b = some (.frz o (.lst xs))

/-- THE HEAD: the law's promise, at the heap behind the top. F, the promise of the law's def, may use that base is part of the heap (so K.In base, base.Ns mainGlobals mg stand in Mod) -/
theorem law_call {P : Program} {w : World} {K : PySem.W.Frag} {mg mb : Str → Option Value} {CX : CXT} {k : Nat} {fa a : Addr} {fd : FuncData} {x : Str} {sp : Sp} {s₁ : Shared} {vs : List Value} {ns : List Int}
    (KX : K.In s₁.heap) (hns : s₁.heap.Ns mainGlobals mg) (hb : s₁.heap.Ns builtinsNs mb) (hbb : ∀ x : Str, x ≠ "__name__" → mb x = bootBuiltins x) (hlim : s₁.heap.NoLimit) (hg : s₁.gens = #[])
    (ha : s₁.heap.get? a = some { cls := .type "list", data := .seq vs.toArray }) (hi : IntsAre vs ns) (hl : ns.length ≤ sizeLine) (hr : Room k callerA)
    (F : ∀ base : Heap, K.In base → base.Ns mainGlobals mg → FnOk P w K mg base CX k fa fd [x] sp) (hbind : ∀ (s : Shared) (u : Value), BindsTo s fd ⟨[u], []⟩ [(x, u)])
    (hsp : ∀ H : Hp, Only H → SqL K H a (ns.map V.int) → sp [.ref a] H (fun v _ => v = .bl true) fun _ _ _ => False)
    (hCX : ∀ H e s', CX [] H s₁ (fun _ _ _ => False) e s' → False) :
    codeAny (model P w) callerA (.call (.ref fa) ⟨[.ref a], []⟩) (fun r s' => r = .ok (.ret (.bool true)) ∧ OldK s₁.heap s'.heap ∧ s'.os = s₁.os ∧ AllBare s'.gens) s₁ := by
  have rv := vals_ints hi
  have lenV := hi.length
  -- from an abstract heap in which nothing but the script may be tracked
  have core : ∀ H : Hp, Only H → SqL K H a (ns.map V.int) → HOk P w H s₁.heap → (∀ b, H b ≠ none → b = a) → (H a ≠ none → K.lookup a = none) →
      codeAny (model P w) callerA (.call (.ref fa) ⟨[.ref a], []⟩) (fun r s' => r = .ok (.ret (.bool true)) ∧ OldK s₁.heap s'.heap ∧ s'.os = s₁.os ∧ AllBare s'.gens) s₁ := by
    intro H hO hS hok hA hK
    have base_of : ∀ {b : Addr} {o : Obj}, s₁.heap.get? b = some o → H b = none → (hidT s₁.heap H).get? b = some o := fun e n => hidT_get e n
    have noA : ∀ {b : Addr} {o : Obj} {es : Array DictEntry} {ep : Nat}, s₁.heap.get? b = some o → o.data = .dict es ep → H b = none := fun {b o es ep} e d => by
      cases q : H b with
      | none => rfl
      | some u =>
        have e' : b = a := hA b (by rw [q]; simp)
        subst e'
        rw [ha] at e; cases e
        have d' : Data.seq vs.toArray _ = Data.dict es ep := d
        cases d'
    have nsK : ∀ {b : Addr} {m : Str → Option Value}, s₁.heap.Ns b m → (hidT s₁.heap H).Ns b m := fun {b m} ⟨o, es, ep, e, d, r⟩ => ⟨o, es, ep, base_of e (noA e d), d, r⟩
    have hKb : K.In (hidT s₁.heap H) := fun b o e => base_of (KX b o e) (by
      cases q : H b with
      | none => rfl
      | some u =>
        have e' : b = a := hA b (by rw [q]; simp)
        subst e'
        rw [hK (by rw [q]; simp)] at e; cases e)
    have hM : Mod K mg (hidT s₁.heap H) := ⟨hKb, nsK hns, ⟨mb, nsK hb, hbb⟩, let ⟨mc, h1, h2⟩ := hlim; ⟨mc, nsK h1, h2⟩⟩
    have e0 : Env0 P w K mg (hidT s₁.heap H) callerA [] s₁ H := ⟨rfl, hM, fun b o e => of_hidT e, Nat.le_of_eq (hidT_size _ _), trivial, fun b hb => absurd (show b ∈ ([] : List Addr) from hb) (by simp), hok, .of_eq hg⟩
    refine codeAny_mono ((F _ hKb (nsK hns)).run callerA [] s₁ H ⟨[.ref a], []⟩ [.ref a] [.ref a] _ _ hr e0 (hbind s₁ (.ref a)) (.cons rfl .nil) (hsp H hO hS)) fun r s' h => ?_
    cases r with
    | error e => exact (hCX H e s' h).elim
    | ok fl =>
      cases fl with
      | next => exact False.elim h
      | brk => exact False.elim h
      | cont => exact False.elim h
      | ret u =>
        obtain ⟨v, H', os, bare, un, hok', r', q⟩ := h
        have q' : v = .bl true := q
        subst q'
        obtain rfl : u = Value.bool true := r'
        refine ⟨rfl, OldK.of_keep fun b o e => ?_, os, bare⟩
        cases q : H b with
        | none => exact un.keep b o e q (by intro z; exact absurd (show b ∈ ([] : List Addr) from z) (by simp)) (by simp)
        | some u =>
          rcases hO b with z | ⟨ob, xs, z⟩
          · rw [q] at z; cases z
          · have z2 := un.frzs b ob _ z
            obtain ⟨e1, _⟩ := hok b _ z
            obtain ⟨e2, _⟩ := hok' b _ z2
            rw [e] at e1; cases e1
            exact e2
  cases hk : K.lookup a with
  | some o =>
    -- the script is one of the module's own objects
    have e := KX a o hk
    rw [ha] at e
    cases e
    refine core (fun _ => none) (fun _ => .inl rfl) (.inr ⟨_, vs.toArray, _, hk, rfl, rfl, rfl, by rw [List.size_toArray, lenV]; exact hl, by simpa using rv⟩) (fun b u z => by have z' : (none : Option HO) = some u := z; cases z') (fun b z => absurd rfl z) fun z => absurd rfl z
  | none =>
    refine core (fun b => if b = a then some (.frz { cls := .type "list", data := .seq vs.toArray } (.lst (ns.map V.int))) else none) (fun b => ?_) (.inl (.inr ⟨{ cls := .type "list", data := .seq vs.toArray }, if_pos rfl⟩)) (fun b u z => ?_) (fun b z => ?_) fun _ => hk
    · by_cases hb : b = a
      · exact .inr ⟨_, _, if_pos hb⟩
      · exact .inl (if_neg hb)
    · by_cases hb : b = a
      · have z' := (if_pos hb).symm.trans z
        cases z'
        subst hb
        exact ⟨ha, by rw [List.length_map]; exact hl, vs, _, rv, ha⟩
      · have z' := (if_neg hb).symm.trans z
        cases z'
    · by_cases hb : b = a
      · exact hb
      · exact absurd (if_neg hb) z
end L2

namespace L2
open PySem PySem.Spec PyProof.Rows


/-- the goal that k_head leaves (case hc), from the law's promise. F gives the function object fd (K's own) once, then the promise over every base -/
theorem walk_of {l : PySem.W.OpenLaw} {n k : Nat} {q : Program} {loose : List Str} {XP : (Str → Option Value) → Heap → Prop} {YP : World → Heap → Prop} {d : DefRec} {K : Params → PySem.W.Frag} {CX : World → CXT} {sp : World → Sp} {x : Str}
    (hn : l.most = some n) (hn2 : n ≤ sizeLine) (hdf : d.params.defaults = []) (hr : Room k callerA)
    (hY : ∀ (w : World) (h : Heap), YP w h → (K w.params).In h)
    (F : ∀ (w : World) (mg : Str → Option Value) (fa : Addr) (h : Heap), (K w.params).In h → h.Ns mainGlobals mg → mg d.name = some (.ref fa) →
      ∃ fd : FuncData, (∀ (s : Shared) (u : Value), BindsTo s fd ⟨[u], []⟩ [(x, u)]) ∧
        ∀ base : Heap, (K w.params).In base → base.Ns mainGlobals mg → FnOk l.prog w (K w.params) mg base (CX w) k fa fd [x] (sp w))
    (hsp : ∀ (w : World) (H : Hp) (a : Addr) (ns : List Int), ns.length ≤ n → Only H → SqL (K w.params) H a (ns.map V.int) → sp w [.ref a] H (fun v _ => v = .bl true) fun _ _ _ => False)
    (hCX : ∀ (w : World) (H : Hp) (s : Shared) (e : Value) (s' : Shared), CX w [] H s (fun _ _ _ => False) e s' → False) :
    PySem.W.WalkO q loose XP YP l.row.toRowW d [] (fun f vs => PySem.call f vs) := by
  refine Att.attach_call hn hdf fun w s₀ s₁ mg mb fa o pm cd doc a vs ns G Y ho hd hcd hmg hobj hints hlen hg => ?_
  have KX := hY w _ Y
  obtain ⟨fd, hb, hF⟩ := F w mg fa _ KX G.T.g hmg
  exact law_call KX G.T.g G.T.b G.T.builtins G.T.nolimit hg hobj hints (Nat.le_trans hlen hn2) hr hF hb (fun H hO hS => hsp w H a ns hlen hO hS) fun H e s' => hCX w H s₁ e s'
end L2

/- THE LAST THEOREM (shape; LID, My.* are yours):
   My.Adr: a structure of the addresses that your layer names (classes, functions); My.Txt K t: a structure (Prop) of the equations over K;
   My.txt_mk : {K} {implicit addresses ..} (e1 : nsIn K mainGlobals "law" = some (some (.ref f))) (e2 : K.lookup f = some ⟨oc, od, .func (fnOf "law" "law" params body scope dV kV doc pm an cdv ct), sl⟩) (e3 : codeIn K cdv "law" = true) .. : ∃ t, My.Txt K t

set_option maxRecDepth 100000 in
set_option maxHeartbeats 0 in
theorem PySem.Challenge.cw_LID_holds : PySem.Challenge.rw_LID.Holds := by
  w_on; o_law; k_head; (case hw => w_witness2)
  k_fill
  refine L2.walk_of (l := PySem.Challenge.rw_LID) (n := 63) (k := 40) (x := "script") (CX := fun w => ..) (sp := fun _ => My.sp_law) rfl (by decide) rfl ⟨rfl, by decide, by decide⟩ (fun w h Y => PySem.W.kIn_of Y) ?F ?S ?C
  case F =>
    intro w mg fa h KX G hmg
    have T : ∃ t, My.Txt (L2.KOf KX) t := by
      dsimp only [L2.KOf]                          -- K must stand as «<heap const> w.params» for k_is
      refine' My.txt_mk ?e1 ?e2 ?e3 ..
      (case e1 => PySem.W.k_is)                    -- in the order: a name -> its address -> its object -> its parts
      (case e2 => PySem.W.k_is)
      ..
    obtain ⟨t, T⟩ := T
    have e0 := hmg.symm.trans (PySem.W.mg_of KX G T.law)
    cases e0                                       -- fa is the law's own address
    exact ⟨_, fun s u => .of_eq rfl, fun base kb nb => My.law_fn T kb nb⟩     -- if «.of_eq rfl» comes too early: refine' ⟨_, ?b, fun base kb nb => My.law_fn T kb nb⟩; exact fun s u => .of_eq rfl
  case S => exact fun w H a ns hl hO hS => ..
  case C => exact ..
(the tactic k_is has no namespace: write k_is) -/

/-! SHORT WORDS over the layer: a def of the text, its body, what a loop and a test want. -/
namespace L2
open PySem PySem.Spec PyProof.Rows

/-! ### the text by places -/
/-- the j-th statement of a class's body -/
def inClass (s : Stmt) (j : Nat) : Stmt := match s with
  | .ClassDef _ _ _ body _ _ _ _ _ _ _ => body.getD j (.Pass ⟨0, 0, 0, 0⟩)
  | _ => .Pass ⟨0, 0, 0, 0⟩
def defArgs (s : Stmt) : Arguments := match s with
  | .FunctionDef _ a _ _ _ _ _ _ _ _ => a
  | _ => { posonlyargs := [], args := [], vararg := none, kwonlyargs := [], kw_defaults := [], kwarg := none, defaults := [] }
def defBody (s : Stmt) : List Stmt := match s with
  | .FunctionDef _ _ b _ _ _ _ _ _ _ => b
  | _ => []
def defScope (s : Stmt) : Scope := match s with
  | .FunctionDef _ _ _ _ _ _ sc _ _ _ => sc
  | _ => { kind := .function, names := [], isGenerator := false, isCoroutine := false }

/-! ### no exception leaves a def -/

/-! ### a def (or method) of the text as it stands behind the top -/
structure Fun (K : PySem.W.Frag) (x qual : Str) (st : Stmt) (f : Addr) (fd : FuncData) : Prop where
  ex : ∃ (oc : Value) (od : Option Addr) (kV doc pm : Value) (an : Option Addr) (cdv ct : Value) (osl : Array (Option Value)),
    fd = PySem.W.fnOf x qual (defArgs st) (defBody st) (defScope st) .none kV doc pm an cdv ct ∧ K.lookup f = some ⟨oc, od, .func fd, osl⟩ ∧ PySem.W.codeIn K cdv qual = true
  kp : PySem.W.keepIn K (.ref f) = true
section
variable {P : Program} {w : World} {K : PySem.W.Frag} {mg : Str → Option Value} {base : Heap}
/-- how its arguments bind (no defaults): h is «fun _ _ _ _ _ _ us hl => match us, hl with | [_, _], _ => rfl», one _ a parameter -/
theorem Fun.binds {x qual : Str} {st : Stmt} {f : Addr} {fd : FuncData} {ps : List Str} (F : Fun K x qual st f fd)
    (h : ∀ (kV doc pm : Value) (an : Option Addr) (cdv ct : Value) (us : List Value), us.length = ps.length → bindArgs (PySem.W.fnOf x qual (defArgs st) (defBody st) (defScope st) .none kV doc pm an cdv ct) ⟨us, []⟩ = pure (ps.zip us)) : Binds K fd ps [] := by
  obtain ⟨oc, od, kV, doc, pm, an, cdv, ct, osl, rfl, lk, hcd⟩ := F.ex
  exact .all (h kV doc pm an cdv ct)
theorem fun_mk {x qual : Str} {st : Stmt} {f : Addr} {oc : Value} {od an : Option Addr} {osl : Array (Option Value)} {kV doc pm cdv ct : Value} (l : K.lookup f = some ⟨oc, od, .func (PySem.W.fnOf x qual (defArgs st) (defBody st) (defScope st) .none kV doc pm an cdv ct), osl⟩)
    (c : PySem.W.codeIn K cdv qual = true) (k : PySem.W.keepIn K (.ref f) = true) : Fun K x qual st f (PySem.W.fnOf x qual (defArgs st) (defBody st) (defScope st) .none kV doc pm an cdv ct) := ⟨⟨oc, od, kV, doc, pm, an, cdv, ct, osl, rfl, l, c⟩, k⟩
end

/-! ### expressions in short: the name that stands in the i-th slot -/
section
variable {X : Cx}
theorem pv (i : Nat) {x : Str} {pos : Pos} (hN : X.N[i]? = some x := by rfl) (hv : Vis X.env.scope x := by first | exact Or.inl rfl | exact Or.inr (Or.inl rfl) | exact Or.inr (Or.inr rfl)) (hd : (x == ("__debug__" : Str)) = false := by decide)
    (hcd : (x == ("__classdict__" : Str)) = false := by decide) : PE X (.Name x pos) (tVar i) := pe_var hN hv hd hcd
end

/-! ### tests -/
theorem iteF {A B : Prop} (h : B) : if false = true then A else B := by
  rw [if_neg Bool.false_ne_true]
  exact h
theorem iteT {A B : Prop} (h : A) : if true = true then A else B := by
  rw [if_pos rfl]
  exact h
theorem ite2 {c A B : Prop} [Decidable c] (h1 : c → A) (h2 : ¬ c → B) : if c then A else B := by
  by_cases h : c
  · rw [if_pos h]
    exact h1 h
  · rw [if_neg h]
    exact h2 h
theorem iteNS {c A B : Prop} [Decidable c] (hc : c) (h : B) : if (!decide c) = true then A else B := by
  rw [decide_eq_true hc]
  exact iteF h

/-! ### heaps -/
/-- all that was tracked is as it was -/
def Same (H H' : Hp) : Prop := ∀ b o, H b = some o → H' b = some o
theorem Same.refl (H : Hp) : Same H H := fun _ _ h => h
theorem Same.trans {H H1 H2 : Hp} (a : Same H H1) (b : Same H1 H2) : Same H H2 := fun c o h => b c o (a c o h)
theorem Same.free {H H' : Hp} (e : Same H H') {l : Addr} (h : H' l = Option.none) : H l = Option.none := by
  cases q : H l with
  | none => rfl
  | some o =>
    rw [e l o q] at h
    cases h
theorem Same.seq {K : PySem.W.Frag} {H H' : Hp} {a : Addr} {xs : List V} (e : Same H H') (h : SqL K H a xs) : SqL K H' a xs := by
  rcases h with (h | ⟨o, h⟩) | h
  · exact .inl (.inl (e _ _ h))
  · exact .inl (.inr ⟨o, e _ _ h⟩)
  · exact .inr h

end L2
end
section
set_option Elab.async false
set_option linter.all false
set_option maxRecDepth 100000
namespace L2
open PySem PySem.Spec PyProof.Rows

/-! ### lists of pairs as tables -/
section
variable {κ : Type} [DecidableEq κ]



end


/-! ### a tracked dict, its keys ints and texts or tuples of these -/


section
variable {P : Program} {w : World} {H : Hp} {h : Heap} {a : Addr}
end



section
variable {X : Cx} {pins : List (Addr × Obj)} {σ : St} {H : Hp} {s : Shared} {a : Addr} {y v : V} {u r : Value} {o : Option V} {A : Around} {E : Value → Shared → Prop}


end

section
variable {X : Cx} {pins : List (Addr × Obj)} {σ : St} {H : Hp} {s : Shared} {a : Addr} {kvs : List (Key × V)} {k : Key} {u : Value} {A : Around} {E : Value → Shared → Prop}
end


/-! ### readings and rules -/



section
variable {X : Cx} {o i e value : Expr} {pos pos' tpos : Pos} {td ty tv : TE}
end


/-! ### displays -/
section
variable {X : Cx} {pos : Pos}
end




/-! ### methods -/


section
variable {X : Cx} {pins : List (Addr × Obj)} {σ : St} {H : Hp} {s : Shared} {a : Addr} {y d : V} {u r : Value} {o : Option V} {A : Around} {E : Value → Shared → Prop}
end

section
variable {X : Cx} {o e f : Expr} {apos cpos : Pos} {td ty tx : TE}
end

/-! ### dict(d): a copy -/
section
variable {X : Cx} {pins : List (Addr × Obj)} {σ : St} {H : Hp} {s : Shared} {a : Addr} {kvs : List (Key × V)} {A : Around} {E : Value → Shared → Prop}
end


section
variable {X : Cx} {pins : List (Addr × Obj)} {σ : St} {H : Hp} {s : Shared} {a : Addr} {y : V} {u : Value} {A : Around} {E : Value → Shared → Prop}
end
end L2
namespace L2
open PySem PySem.Spec PyProof.Rows
section
variable {X : Cx}
end
end L2
end
section
set_option maxRecDepth 100000
set_option maxHeartbeats 4000000
namespace LX
open PySem PySem.W

/-- an exception's object, as it stands: class, attributes' dict, its fields -/
def excRec (c : Value) (od : Option Addr) (fs : Array Value) (sl : Array (Option Value)) : Obj := { cls := c, dict := od, data := .fields fs, slots := sl }
/-- the object of a class of errors -/
def clsRec (dd : Option Addr) (cd : ClassData) (k0 k1 k2 k3 k5 : Option Value) : Obj := { cls := .type "type", dict := dd, data := .cls cd, slots := #[k0, k1, k2, k3, some (.builtin "ValueError.__new__"), k5] }

/-- a class of errors of the text's own, under ValueError -/
structure XCls (K : Frag) (C : Addr) (cd : ClassData) : Prop where
  ob : ∃ dd k0 k1 k2 k3 k5, K.lookup C = some (clsRec dd cd k0 k1 k2 k3 k5)
  del : cd.hasDel = false
  line : ∃ r, cd.mro = .ref C :: r
  val : cd.mro.contains (.type "ValueError") = true
  bas : cd.mro.contains (.type "BaseException") = true
  obj : cd.mro.contains (.type "object") = true
  atr : cd.mro.contains (.type "AttributeError") = false
  nam : cd.mro.contains (.type "NameError") = false

/-- the same as a test -/
def xclsIn (K : Frag) (C : Addr) : Bool := match K.lookup C with
  | some ⟨.type "type", _, .cls cd, sl⟩ => (match cd.mro, sl.toList with
    | .ref D :: _, [_, _, _, _, some (.builtin n), _] => D == C && n == "ValueError.__new__" && !cd.hasDel && cd.mro.contains (.type "ValueError") && cd.mro.contains (.type "BaseException") &&
        cd.mro.contains (.type "object") && !cd.mro.contains (.type "AttributeError") && !cd.mro.contains (.type "NameError")
    | _, _ => false)
  | _ => false
theorem xcls_of {K : Frag} {C : Addr} (e : xclsIn K C = true) : ∃ cd, clsIn K C = some cd ∧ XCls K C cd := by
  unfold xclsIn at e
  split at e
  · rename_i dd cd sl ho
    split at e
    · rename_i D r k0 k1 k2 k3 n k5 hm hs
      simp only [Bool.and_eq_true, beq_iff_eq, Bool.not_eq_true'] at e
      obtain ⟨⟨⟨⟨⟨⟨⟨rfl, rfl⟩, e1⟩, e2⟩, e3⟩, e4⟩, e5⟩, e6⟩ := e
      obtain ⟨sl⟩ := sl
      simp only at hs
      subst hs
      exact ⟨cd, by unfold clsIn; rw [ho], ⟨dd, k0, k1, k2, k3, k5, ho⟩, e1, ⟨r, hm⟩, e2, e3, e4, e5, e6⟩
    · cases e
  · cases e

section
variable {K : Frag} {C : Addr} {cd : ClassData} {M : Model} {h : Heap}
theorem XCls.cls (x : XCls K C cd) : clsIn K C = some cd := by
  obtain ⟨dd, k0, k1, k2, k3, k5, e⟩ := x.ob
  unfold clsIn
  rw [e]
  rfl
theorem XCls.notEmpty (x : XCls K C cd) : cd.mro.isEmpty = false := by
  obtain ⟨r, e⟩ := x.line
  rw [e]
  rfl
theorem XCls.sub (x : XCls K C cd) (X : K.In h) (v : Value) : Looks M h (isSubtype (.ref C) v) (cd.mro.contains v) :=
  looks_mroIn X (by unfold mroIn; rw [x.cls, Option.bind_some, if_neg (by rw [x.notEmpty]; decide)])
theorem XCls.mro (x : XCls K C cd) (X : K.In h) : Looks M h (mroOf (.ref C)) cd.mro := (looks_clsIn X x.cls).andThen .now
theorem XCls.typ (x : XCls K C cd) (X : K.In h) : Looks M h (typeOf (.ref C)) (.type "type") := by
  obtain ⟨dd, k0, k1, k2, k3, k5, e⟩ := x.ob
  exact (Looks.ld (X _ _ e)).andThen .now
theorem XCls.isTy (x : XCls K C cd) (X : K.In h) : Looks M h (isType (.ref C)) true := by
  obtain ⟨dd, k0, k1, k2, k3, k5, e⟩ := x.ob
  intro A Q E s k q
  unfold isType loadHead
  exact wpAny_bind (wpAny_loadPart (k _ _ (X _ _ e)) (wpAny_pure q))
theorem XCls.madeBy (x : XCls K C cd) (X : K.In h) : Looks M h (Bind.madeBy (.ref C)) (some "ValueError.__new__") := by
  obtain ⟨dd, k0, k1, k2, k3, k5, e⟩ := x.ob
  obtain ⟨r, hr⟩ := x.line
  intro A Q E s k q
  unfold Bind.madeBy
  refine wpAny_bind (x.mro X A _ E s k ?_)
  rw [hr, List.forIn_cons]
  refine wpAny_bind (wpAny_bind (wpAny_bind (wpAny_bind (wpAny_loadPart (k _ _ (X _ _ e)) (wpAny_pure ?_)))))
  exact wpAny_pure (wpAny_pure (wpAny_pure q))
theorem XCls.static (x : XCls K C cd) (X : K.In h) : Looks M h (Bind.staticBase (.ref C)) (.ref C) := by
  obtain ⟨r, hr⟩ := x.line
  intro A Q E s k q
  unfold Bind.staticBase
  refine wpAny_bind (x.mro X A _ E s k ?_)
  rw [hr, List.forIn_cons]
  exact wpAny_bind (wpAny_bind (wpAny_bind (x.madeBy X A _ E s k (wpAny_pure (wpAny_pure (wpAny_pure q))))))
theorem canonVE : Manifest.canonical "ValueError.__new__" = Manifest.canonical "BaseException.__new__" := PySem.F.excBase_ValueError.canon
theorem XCls.here (x : XCls K C cd) (X : K.In h) : Looks M h (Bind.madeHere "BaseException.__new__" (.ref C)) () :=
  (x.static X).andThen ((x.madeBy X).andThen (Looks.of_pure (by simp only [Option.map_some, canonVE, bne_self_eq_false, Bool.false_eq_true, if_false])))
end

/-- behind __init__ -/
def Back (x : Addr) (R : Result → Shared → Prop) (r : Result) (s' : Shared) : Prop := match r with
  | .ok (.ret v) => v = .none ∧ R (.ok (.ret (.ref x))) s'
  | .ok _ => False
  | .error e => R (.error e) s'
/-- a new exception's record -/
abbrev newRec (C t : Addr) : Obj := excRec (.ref C) none #[.ref t, .none, .none, .none, .bool false, .none] #[]
abbrev tupRec (vs : List Value) : Obj := { cls := .type "tuple", data := .seq vs.toArray }
/-- the heap with a new exception -/
abbrev withNew (h : Heap) (C : Addr) (vs : List Value) : Heap := (h.push (tupRec vs)).push (newRec C h.objs.size)

section
variable {prog : Program} {w : World} {A : Around} {R : Result → Shared → Prop} {h : Heap} {g : Array GenState} {d : Drawn} {t : Nat} {os : OsState} {K : Frag} {C : Addr} {cd : ClassData} {vs : List Value}

theorem made_new (x : XCls K C cd) (X : K.In h) (hv : vs.length ≤ sizeLine) (k : R (.ok (.ret (.ref (h.objs.size + 1)))) ⟨withNew h C vs, g, d, t, os⟩) :
    codeAny (model prog w) A (.call (.builtin "ValueError.__new__") ⟨.ref C :: vs, []⟩) R ⟨h, g, d, t, os⟩ := by
  have F := PySem.F.excBase_ValueError
  have st := x.static (M := model prog w) X
  have ty := x.isTy (M := model prog w) X
  have mb := x.madeBy (M := model prog w) X
  have hh := x.here (M := model prog w) X
  have s1 := x.sub (M := model prog w) X (.type "ValueError")
  rw [x.val] at s1
  have s2 := x.sub (M := model prog w) X (.type "AttributeError")
  rw [x.atr] at s2
  have s3 := x.sub (M := model prog w) X (.type "NameError")
  rw [x.nam] at s3
  refine codeAny_call_builtin_code (Code.quiet_builtin _ F.quiet) ?_
  have star := F.noStar
  simp only [checkBuiltinCall, F.newKind, F.newSplit, F.newRow]
  repeat (first | simp only [bne_self_eq_false, Bool.false_eq_true, if_false, Bool.not_true] | lk)
  refine codeAny_builtinAt F.entry ?_
  unfold Builtin.«BaseException.__new__»
  refine wpAt_bind ?_
  show wpAt _ _ _ (stack >>= _) _ _ _
  refine wpAt_bind (wpAt_stack fun p below => wpAt_of_wpAny ?_)
  have hends := F.ends
  wp_walk
  refine wpAt_of_wpAny ?_
  rw [F.owner]
  repeat (first | simp only [bne_self_eq_false, Bool.false_eq_true, if_false, Bool.not_true] | lk)
  rw [if_neg (by rw [List.size_toArray]; omega)]
  obtain ⟨dd, k0, k1, k2, k3, k5, ho⟩ := x.ob
  repeat lk
  refine nd_load (Heap.get?_push_of_some _ (Heap.get?_push_of_some _ (X _ _ ho))) (wpAny_pure (wpAny_pure ?_))
  rw [x.del, if_neg Bool.false_ne_true]
  refine wpAny_pure (wpAny_pure ?_)
  show R _ _
  rw [Heap.size_push]
  exact k

/-- C(..) of an error class of the text's own whose __init__ is a def of the text -/
theorem exc_made {f : Addr} (x : XCls K C cd) (X : K.In h) (hi : findIn K (.ref C) "__init__" = some (some (.ref f))) (hf : typeIn K (.ref f) = some (.type "function")) (hv : vs.length ≤ sizeLine)
    (k : codeAny (model prog w) (A.under (.builtin "type.__call__" ⟨.ref C :: vs, []⟩)) (.call (.ref f) ⟨.ref (h.objs.size + 1) :: vs, []⟩) (Back (h.objs.size + 1) R) ⟨withNew h C vs, g, d, t, os⟩) :
    codeAny (model prog w) A (.call (.ref C) ⟨vs, []⟩) R ⟨h, g, d, t, os⟩ := by
  obtain ⟨dd, k0, k1, k2, k3, k5, ho⟩ := x.ob
  have hC := X _ _ ho
  have ht := x.typ (M := model prog w) X
  refine codeAny_of_tree ?_
  show wpAny _ _ (callAny (.ref C) _) _ _ _
  refine nd_load hC ?_
  show wpAny _ _ (callAny.viaDunder (.ref C) _) _ _ _
  unfold callAny.viaDunder
  have sp : Looks (model prog w) h (specialOf (.ref C) "__call__") (some (.builtin "type.__call__")) := ht.andThen (Looks.of_pure tc_lookup)
  refine wpAny_bind (sp.at ?_)
  dsimp only
  rw [tc_bind]
  refine wpAny_bind (wpAny_pure (wpAny_bind (wpAny_pure ?_)))
  refine wpAny_pure (a := Fin.again (.call (.builtin "type.__call__") ⟨.ref C :: vs, []⟩)) (And.intro rfl ?_)
  refine codeAny_call_builtin_at (Code.quiet_builtin _ (by decide +kernel)) entry_typeCall (check_slot tc_kind tc_split (ht.andThen (Looks.of_pure tc_sub)) (tc_args _ _ _) ?_)
  unfold Builtin.«type.__call__»
  have hm := x.mro (M := model prog w) X
  have em := x.notEmpty
  have mb := x.madeBy (M := model prog w) X
  repeat (first | simp only [em, Bool.false_eq_true, if_false] | with_reducible refine wpAny_call ?_ | lk)
  refine made_new x X hv ?_
  have kp : ∀ b o, h.get? b = some o → (withNew h C vs).get? b = some o := fun b o e => Heap.get?_push_of_some _ (Heap.get?_push_of_some _ e)
  have X1 : K.In (withNew h C vs) := X.keeps kp
  have hx : (withNew h C vs).get? (h.objs.size + 1) = some (newRec C h.objs.size) := by heap_get
  have t1 : Looks (model prog w) (withNew h C vs) (typeOf (.ref (h.objs.size + 1))) (.ref C) := (Looks.ld hx).andThen .now
  have s1 := x.sub (M := model prog w) X1 (.ref C)
  obtain ⟨r, hr⟩ := x.line
  rw [show cd.mro.contains (.ref C) = true by rw [hr]; simp] at s1
  have i1 := looks_findIn (M := model prog w) X1 hi
  have b1 := bind_fn (M := model prog w) X1 (.ref (h.objs.size + 1)) hf
  unfold isInstance callSpecial? specialOf
  repeat (first | with_reducible refine wpAny_call ?_ | lk)
  refine codeAny_mono k fun r s' z => ?_
  rcases r with e | (v | _ | _ | _) <;> first | exact z | exact z.elim | skip
  obtain ⟨rfl, z⟩ := z
  exact wpAny_pure (wpAny_pure z)
end
end LX
end
section
set_option maxRecDepth 100000
set_option maxHeartbeats 4000000
namespace LX
open PySem PySem.W
section
variable {prog : Program} {w : World} {A : Around} {E : Value → Shared → Prop} {h : Heap} {g : Array GenState} {d : Drawn} {t : Nat} {os : OsState} {K : Frag} {C e t0 : Addr} {cd : ClassData} {vs : List Value} {od : Option Addr} {fs : Array Value} {sl : Array (Option Value)}

theorem rec_type {M : Model} (he : h.get? e = some (excRec (.ref C) od fs sl)) : Looks M h (typeOf (.ref e)) (.ref C) := (Looks.ld he).andThen .now

/-- ValueError.__init__(e, ..): the arguments are kept anew -/
theorem init_called {Q : Value → Shared → Prop} (x : XCls K C cd) (X : K.In h) (he : h.get? e = some (excRec (.ref C) od fs sl)) (h0 : fs[0]? = some (.ref t0)) (hv : vs.length ≤ sizeLine)
    (k : Q .none ⟨(h.push (tupRec vs)).update e (Obj.mapFields (·.setIfInBounds 0 (.ref h.objs.size))), g, d, t, os⟩) :
    wpAny (model prog w) A (call (.builtin "ValueError.__init__") (.ref e :: vs)) Q E ⟨h, g, d, t, os⟩ := by
  have F := PySem.F.excBase_ValueError
  have ty := rec_type (M := model prog w) he
  have s1 := x.sub (M := model prog w) X (.type "ValueError")
  rw [x.val] at s1
  obtain ⟨dd, k0, k1, k2, k3, k5, ho⟩ := x.ob
  have hC : h.get? C = some ⟨.type "type", dd, .cls cd, #[k0, k1, k2, k3, some (.builtin "ValueError.__new__"), k5]⟩ := X _ _ ho
  have star := F.noStar
  refine wpAny_call (codeAny_call_builtin F.init.plain F.initEntry ?_)
  simp only [checkBuiltinCall, F.initKind, F.initSplit, F.initRow]
  unfold isInstance Bind.checkArgs
  refine wpAny_bind (wpAny_bind (ty.at (s1.at ?_)))
  simp only [Bool.false_eq_true, if_false, Bool.not_true]
  refine wpAny_bind (m := Bind.printed "*" true _ _) ?_
  unfold Bind.printed Bind.receiverType typeNameWhole
  rw [if_neg (by decide)]
  dsimp only
  rw [if_neg (by decide)]
  refine wpAny_bind (ty.at ?_)
  refine wpAny_bind (wpAny_bind ((looks_clsIn X x.cls).at (wpAny_pure (wpAny_pure ?_))))
  refine wpAny_bind (m := if ("ValueError" != "*") = true then pure "ValueError" else _) ?_
  rw [if_pos star]
  refine wpAny_pure (wpAny_onRaise ?_)
  show wpAny _ _ (Bind.check _ _ _ _ []) _ _ _
  rw [PyProof.Rows.check_varPos]
  refine wpAny_pure ?_
  unfold Builtin.«BaseException.__init__»
  dsimp only
  rw [if_neg (by simp)]
  unfold newTuple Builtin.BaseException.bexcPut
  have hsz : 0 < fs.size := (Array.getElem?_eq_some_iff.mp h0).1
  have e1 := Heap.get?_push_of_some (h := h) (tupRec vs) he
  refine wpAny_bind (wpAny_newObj_type ?_ (by show vs.toArray.size ≤ sizeLine; rw [List.size_toArray]; exact hv))
  refine wpAny_bind (wpAny_bind (wpAny_field (s := ⟨h.push (tupRec vs), g, d, t, os⟩) e1 rfl h0 ?_))
  refine wpAny_bind (wpAny_setField (s := ⟨h.push (tupRec vs), g, d, t, os⟩) e1 rfl hsz ?_)
  exact wpAny_letGo (wpAny_pure k)
end
end LX
end
section
set_option maxRecDepth 100000
set_option maxHeartbeats 4000000
namespace LX
open PySem PySem.W
section
variable {prog : Program} {w : World} {A : Around} {E : Value → Shared → Prop} {s : Shared} {K : Frag}
theorem ve_find : findCls K (.type "ValueError") (.type "type") "__init__" = some (.val (.builtin "ValueError.__init__")) := by kernel_rfl
theorem ve_ga : findIn K (.type "type") "__getattribute__" = some (some (.builtin "type.__getattribute__")) := by kernel_rfl
theorem ve_typ {M : Model} {h : Heap} : Looks M h (typeOf (.type "ValueError")) (.type "type") := Looks.of_pure (by kernel_rfl)
theorem ve_sub : subIn K (.type "type") (.type "type") = some true := by kernel_rfl
theorem ve_opq {M : Model} {h : Heap} : Looks M h (opaqueClassAbove (.type "ValueError")) none := Looks.of_pure (by kernel_rfl)
/-- ValueError.__init__, as it is called -/
theorem ve_init {pl : Sem Bool} {Q : Value × List Value → Shared → Prop} (X : K.In s.heap) (k : Q (.builtin "ValueError.__init__", []) { s with toks := s.toks + 1 }) :
    wpAny (model prog w) A (getMethod (.type "ValueError") "__init__" pl) Q E s := by
  have sp : Looks (model prog w) s.heap (specialOf (.type "ValueError") "__getattribute__") (some (.builtin "type.__getattribute__")) := ve_typ.andThen (looks_findIn X ve_ga)
  unfold getMethod
  refine wpAny_bind (sp.here ?_)
  dsimp only
  rw [if_pos canon_tga]
  refine wpAny_bind (cls_open (hook := none) X ve_opq ve_typ ve_ga (Looks.of_pure (by kernel_rfl)) ve_sub ve_find ?_)
  refine wpAny_pure ?_
  show wpAny _ _ (handedOut _) _ _ _
  rw [handedOut_of (by kernel_rfl)]
  exact wpAny_pure (wpAny_pure k)
end
end LX
end
section
set_option maxRecDepth 100000
set_option maxHeartbeats 4000000
namespace LX
open PySem PySem.W
section
variable {prog : Program} {w : World} {A : Around} {E : Value → Shared → Prop} {s : Shared} {K : Frag} {env : Env}
/-- what is raised: an exception of a class of the text's own, not raised yet -/
def RaisableX (K : Frag) (E : Value → Shared → Prop) (v : Value) (s1 : Shared) : Prop :=
  ∃ (ea C : Addr) (cd : ClassData) (od : Option Addr) (fs : Array Value) (sl : Array (Option Value)), v = .ref ea ∧ s1.heap.get? ea = some (excRec (.ref C) od fs sl) ∧ fs[1]? = some .none ∧ XCls K C cd ∧ K.In s1.heap ∧ E (.ref ea) s1
theorem raise_own {e : Expr} {pos : Pos} {Q : Flow → Shared → Prop} (hh : A.handled = none) (k : wpAny (model prog w) A (eval e env) (RaisableX K E) E s) :
    wpAny (model prog w) A (exec (.Raise (some e) none pos) env) Q E s := by
  show wpAny (model prog w) A (do standAt pos; raiseStmt env (some (do let v ← eval e env; standAt pos; pure v)) none) Q E s
  refine wpAny_bind (wpAny_standAt ?_)
  unfold raiseStmt
  dsimp only
  refine wpAny_bind (wpAny_bind (wpAny_mono k (fun v s1 q => wpAny_bind (wpAny_standAt (wpAny_pure ?_))) fun _ _ z => z))
  obtain ⟨ea, C, cd, od, fs, sl, rfl, he, h1, x, X, hE⟩ := q
  obtain ⟨hp, g, d, tk, os⟩ := s1
  have ty := rec_type (M := model prog w) he
  have nt : Looks (model prog w) hp (isType (.ref ea)) false := by
    intro A' Q' E' s' kk q
    unfold isType loadHead
    exact wpAny_bind (wpAny_loadPart (kk _ _ he) (wpAny_pure q))
  have sb := x.sub (M := model prog w) X (.type "BaseException")
  rw [x.bas] at sb
  have ct := x.typ (M := model prog w) X
  have f1 : Looks (model prog w) hp (field (.ref ea) 1) .none := looks_field he 1 h1
  refine wpAny_bind (wpAny_pure ?_)
  dsimp only
  refine wpAny_bind (wpAny_holding ?_)
  unfold excFromValue isExcClass isInstance
  repeat (first | simp only [Bool.false_eq_true, if_false, if_true] | lk)
  show wpAny _ _ handled _ _ _
  refine wpAny_handled ?_
  rw [hh]
  exact wpAny_throw hE
/-- does an exception of one class of ours match another one -/
theorem matches_own {ea C D : Addr} {cd cd' : ClassData} {od : Option Addr} {fs : Array Value} {sl : Array (Option Value)} {h : Heap} {g : Array GenState} {d : Drawn} {t : Nat} {os : OsState} {Q : Bool → Shared → Prop} {M : Model} (x : XCls K C cd) (y : XCls K D cd') (X : K.In h)
    (he : h.get? ea = some (excRec (.ref C) od fs sl)) (q : Q (cd.mro.contains (.ref D)) ⟨h, g, d, t, os⟩) : wpAny M A (excMatches (.ref ea) (.ref D)) Q E ⟨h, g, d, t, os⟩ := by
  have ty := rec_type (M := M) he
  have td := y.typ (M := M) X
  have ti := y.isTy (M := M) X
  have tn : Looks M h (isSubtype (.type "type") (.type "tuple")) false := Looks.of_pure tc_notTuple
  have yb := y.sub (M := M) X (.type "BaseException")
  rw [y.bas] at yb
  have xs := x.sub (M := M) X (.ref D)
  unfold excMatches isInstance isExcClass
  repeat (first | simp only [Bool.false_eq_true, if_false, if_true, Bool.not_true] | lk)
  cases hb : cd.mro.contains (.ref D) with
  | true =>
    rw [hb] at q
    simp only [if_true]
    repeat lk
    exact q
  | false =>
    rw [hb] at q
    simp only [Bool.false_eq_true, if_false]
    repeat lk
    exact q

/-- an exception as an instance of its class -/
theorem inst_none {ea C : Addr} {fs : Array Value} {sl : Array (Option Value)} {h : Heap} (he : h.get? ea = some (excRec (.ref C) none fs sl)) : InstAt h ea (excRec (.ref C) none fs sl) C none := ⟨he, rfl, rfl, True.intro⟩
theorem inst_some {ea C dx : Addr} {o : Obj} {fs : Array Value} {sl : Array (Option Value)} {h : Heap} (he : h.get? ea = some (excRec (.ref C) (some dx) fs sl)) (hd : h.get? dx = some o) : InstAt h ea (excRec (.ref C) (some dx) fs sl) C (some o) := ⟨he, rfl, rfl, hd⟩
end
end LX
end
section
set_option maxRecDepth 100000
set_option maxHeartbeats 4000000
namespace LX
open PySem PySem.W
/-- what attributes of an exception's class ask -/
structure XGet (K : Frag) (C : Addr) : Prop where
  ga : findIn K (.ref C) "__getattribute__" = some (some (.builtin "BaseException.__getattribute__"))
  gt : findIn K (.ref C) "__getattr__" = some none
section
variable {prog : Program} {w : World} {A : Around} {E : Value → Shared → Prop} {h : Heap} {g : Array GenState} {d : Drawn} {t : Nat} {os : OsState} {K : Frag} {C ea : Addr} {cd : ClassData} {ox : Obj} {od : Option Obj} {name : Str}
/-- e.name, whatever is found -/
theorem getby_exc {tk : Tok} {fill expr : Bool} {r : Builtin.ObjectAttr.Found} {Q : Value → Shared → Prop} (x : XCls K C cd) (G : XGet K C) (X : K.In h) (I : InstAt h ea ox C od) (hf : findObj K C od name = some r)
    (k : match r with
      | .value v => handedIn v = true ∧ Q v ⟨h, g, d, t, os⟩
      | .bind gg a => wpAny (model prog w) A.in1 (call gg [a, .ref ea, .ref C]) (fun v s' => handedIn v = true ∧ Q v s') (fun _ _ => False) ⟨h, g, d, t, os⟩
      | .missing => False) :
    wpAny (model prog w) A (getAttrBy (.ref ea) (.str name tk) fill expr) Q E ⟨h, g, d, t, os⟩ := by
  have ty := I.type (M := model prog w)
  have l1 := looks_findIn (M := model prog w) X G.ga
  have l2 := looks_findIn (M := model prog w) X G.gt
  have l3 := looks_find (M := model prog w) X I hf
  have sb := x.sub (M := model prog w) X (.type "BaseException")
  rw [x.bas] at sb
  have S := PySem.F.excAttr_ValueError.ga
  unfold getAttrBy
  refine wpAny_holding (wpAny_bind (ty.at (wpAny_bind (l1.at ?_))))
  dsimp only
  rw [show (onTheHeap (Value.ref C) && Value.builtin "BaseException.__getattribute__" == Value.builtin "object.__getattribute__") = false by rw [show (Value.builtin "BaseException.__getattribute__" == Value.builtin "object.__getattribute__") = false by decide +kernel, Bool.and_false], if_neg Bool.false_ne_true]
  unfold getAttrByItsOwn
  have hb : Looks (model prog w) h (hookBefore (.ref C)) none := looks_hook X (by rw [if_pos (by rfl)]; exact G.gt)
  refine wpAny_bind (hb.at (wpAny_bind (wpAny_attempt (wpAny_holding ?_))))
  unfold callGetattribute
  rw [show (expr && onTheHeap (Value.builtin "BaseException.__getattribute__")) = false from Bool.and_false _, if_neg Bool.false_ne_true]
  unfold boundAndCalled
  rw [S.bind]
  refine wpAny_bind (wpAny_pure ?_)
  show wpAny _ _ (call (.builtin "BaseException.__getattribute__") [.ref ea, .str name tk]) _ _ _
  refine wpAny_call (codeAny_call_builtin S.plain PySem.F.entry_bexc_ga ?_)
  refine @check_slot (model prog w) _ _ ⟨h, g, d, t, os⟩ "BaseException.__getattribute__" "BaseException" "__getattribute__" (.ref ea) [.str name tk] [] _ (by decide +kernel) (by decide +kernel) (ty.andThen sb) (PySem.F.args_bexc_ga (.ref ea) (.str name tk)) ?_
  unfold Builtin.«object.__getattribute__»
  refine wpAny_bind (wpAny_pure (wpAny_bind (wpAny_pure (wpAny_bind (ty.at (wpAny_bind (l3.at ?_)))))))
  cases r with
  | value v =>
    refine wpAny_pure ?_
    show wpAny _ _ (handedOut v) _ _ _
    rw [handedOut_of k.1]
    exact wpAny_pure k.2
  | bind gg a =>
    refine wpAny_bind (wpAny_holding (wpAny_mono k (fun v s' z => wpAny_pure ?_) fun _ _ z => z.elim))
    show wpAny _ _ (handedOut v) _ _ _
    rw [handedOut_of z.1]
    exact wpAny_pure z.2
  | missing => exact k.elim
/-- e.__class__ as isinstance asks it -/
theorem class_exc {Q : Option Value → Shared → Prop} (x : XCls K C cd) (G : XGet K C) (X : K.In h) (I : InstAt h ea ox C od) (hc : findIn K (.ref C) "__class__" = some (some (.builtin "object.__class__")))
    (k : Q (some (.ref C)) ⟨h, g, d, t + 1, os⟩) : wpAny (model prog w) A (getAttr? (.ref ea) "__class__") Q E ⟨h, g, d, t, os⟩ := by
  have hn : specialIn K (.builtin "object.__class__") "__get__" = some (some (.builtin "getset_descriptor.__get__")) := by kernel_rfl
  have ht : takesIn K (.builtin "object.__class__") = some true := by kernel_rfl
  have hf : findObj K C od "__class__" = some (.bind (.builtin "getset_descriptor.__get__") (.builtin "object.__class__")) := by
    unfold findObj
    rw [x.cls, Option.bind_some, hc, Option.bind_some]
    dsimp only
    rw [hn, Option.bind_some]
    dsimp only
    rw [ht]
    rfl
  have mo : mroIn K C (.type "object") = some true := by
    unfold mroIn
    rw [x.cls, Option.bind_some, if_neg (by rw [x.notEmpty]; decide), x.obj]
  unfold getAttr? getAttrBy?
  refine wpAny_bind (wpAny_mkText (wpAny_bind (wpAny_attempt ?_)))
  refine getby_exc (t := t + 1) x G X I hf ?_
  refine wpAny_call ?_
  refine class_get (s := ⟨h, g, d, t + 1, os⟩) (ox := ox) (od := od) X I mo ⟨rfl, ?_⟩
  exact wpAny_pure k
/-- isinstance's ways with an exception -/
theorem kit_exc (x : XCls K C cd) (G : XGet K C) (hc : findIn K (.ref C) "__class__" = some (some (.builtin "object.__class__"))) : KitX K (.ref ea) (.ref C) (fun h => ∃ ox od, InstAt h ea ox C od) where
  ty := fun _ _ _ ⟨_, _, I⟩ => I.type
  it := fun _ _ X _ => x.isTy X
  ne := fun h tp dd its n sl X htp => by
    obtain ⟨d2, k0, k1, k2, k3, k5, e⟩ := x.ob
    refine Bool.eq_false_iff.mpr fun q => ?_
    have e2 : C = tp := Value.ref.inj (beq_iff_eq.mp q)
    subst e2
    have z := congrArg (fun o : Option Obj => o.map (·.data)) ((X _ _ e).symm.trans htp)
    simp [clsRec] at z
  ca := fun {_ _ _ _ _ s} X ⟨_, _, I⟩ k => by
    obtain ⟨hh, gg, dd, tt, oo⟩ := s
    exact class_exc x G X I hc k
end
end LX
end
section
set_option maxRecDepth 100000
set_option maxHeartbeats 4000000
namespace LX
open PySem PySem.W
section
variable {prog : Program} {w : World} {A : Around} {E : Value → Shared → Prop} {h : Heap} {g : Array GenState} {d : Drawn} {t : Nat} {os : OsState} {K : Frag} {C CH ea : Addr} {cd : ClassData} {fs : Array Value} {sl : Array (Option Value)} {name : Str} {v : Value}

end
end LX
end
section
set_option maxRecDepth 100000
set_option maxHeartbeats 4000000
namespace LX
open PySem

/-- of a heap all is kept but the records at xs; the frames at fr keep all but their slots -/
structure Kept (fr xs : List Addr) (h k : Heap) : Prop where
  plain : ∀ b o, h.get? b = some o → b ∉ fr → b ∉ xs → k.get? b = some o
  frame : ∀ b o, h.get? b = some o → b ∈ fr → b ∉ xs → ∃ sl, k.get? b = some { o with slots := sl }
theorem Kept.trans {fr xs ys : List Addr} {h k m : Heap} (x : Kept fr xs h k) (y : Kept fr ys k m) : Kept fr (xs ++ ys) h m where
  plain := fun b o e hb hx => y.plain b o (x.plain b o e hb fun z => hx (List.mem_append_left _ z)) hb fun z => hx (List.mem_append_right _ z)
  frame := fun b o e hb hx => by
    obtain ⟨sl, e1⟩ := x.frame b o e hb fun z => hx (List.mem_append_left _ z)
    obtain ⟨sm, e2⟩ := y.frame b _ e1 hb fun z => hx (List.mem_append_right _ z)
    exact ⟨sm, e2⟩
theorem Kept.weak {fr xs ys : List Addr} {h k : Heap} (x : Kept fr xs h k) (s : ∀ b o, h.get? b = some o → b ∈ xs → b ∈ ys) : Kept fr ys h k :=
  ⟨fun b o e hb hy => x.plain b o e hb fun z => hy (s b o e z), fun b o e hb hy => x.frame b o e hb fun z => hy (s b o e z)⟩

abbrev framesOf (l : List Env) : List Addr := l.filterMap (·.frame)

section
variable {M : Model} {A : Around} {E : Value → Shared → Prop} {s : Shared} {base : Heap} {env : Env} {outer : List Env} {L e : Addr} {c : Value} {od : Option Addr} {fs : Array Value} {sl : Array (Option Value)}

/-- a frame is no record of fields -/
theorem frame_ne {l : List Env} (F : s.heap.FunFrames base l) (he : s.heap.get? e = some (excRec c od fs sl)) : e ∉ framesOf l := fun z => by
  obtain ⟨_, o, ho, hn⟩ := F.mem z
  rw [he] at ho
  cases ho
  exact hn fs rfl

theorem upd_rec {h : Heap} {a : Addr} {i : Nat} {x : Value} (ha : h.get? a = some (excRec c od fs sl)) :
    (h.update a (Obj.mapFields (·.setIfInBounds i x))).get? a = some (excRec c od (fs.setIfInBounds i x) sl) := Heap.get?_update_self _ ha rfl

/-- the entry of a traceback is laid and hung at the exception -/
theorem entry_laid {head : Value} {had : Bool} {Q : Unit → Shared → Prop} (hA : A.frames = some (env :: outer)) (F : s.heap.FunFrames base (env :: outer)) (hL : env.frame = some L)
    (he : s.heap.get? e = some (excRec c od fs sl)) (h1 : 1 < fs.size)
    (k : ∀ m T oc ts, s.heap.objs.size ≤ T → Kept (framesOf (env :: outer)) [e] s.heap m → m.get? e = some (excRec c od (fs.setIfInBounds 1 (.ref T)) sl) → m.get? T = some (excRec oc none ts #[]) → ts[3]? = some (rawInt L) → Q () { s with heap := m }) :
    wpAny M A (do let a ← frameOf env; let pl ← entryPlaceOf L had; let b ← EntryCells.newEntry head a .none (rawInt L) .none pl; setField (.ref e) 1 b) Q E s := by
  have ne := frame_ne F he
  refine wpAny_bind (wpAny_frameOf_fun hA F hL fun g hg => ?_)
  obtain ⟨g0, g1, g2⟩ := hg
  refine wpAny_bind (wpAny_entryPlaceOf fun pl hp => ?_)
  unfold EntryCells.newEntry newFields
  refine wpAny_bind (wpAny_newObj_type ?_ (hp.sizeOk5 _ _ _ _ _))
  have e1 : g.get? e = some (excRec c od fs sl) := (g1 e ne).trans he
  have e2 := Heap.get?_push_of_some (h := g) { cls := .type "traceback", dict := none, data := .fields ([head, .ref L, .none, rawInt L, .none] ++ (if pl.isEmpty then List.replicate 6 Value.none else pl)).toArray } e1
  refine wpAny_setField e2 rfl h1 ?_
  have Te : g.objs.size ≠ e := Nat.ne_of_gt (Heap.lt_size e1)
  refine k _ g.objs.size (.type "traceback") ([head, .ref L, .none, rawInt L, .none] ++ (if pl.isEmpty then List.replicate 6 Value.none else pl)).toArray (Nat.le_of_eq g0.symm) ⟨fun b o q hb hx => ?_, fun b o q hb hx => ?_⟩ (upd_rec e2) ?_ ?_
  · have be : b ≠ e := fun z => hx (by rw [z]; exact List.mem_singleton.mpr rfl)
    rw [Heap.get?_update_other _ _ (Ne.symm be)]
    exact Heap.get?_push_of_some _ ((g1 b hb).trans q)
  · have be : b ≠ e := fun z => hx (by rw [z]; exact List.mem_singleton.mpr rfl)
    obtain ⟨sm, q2⟩ := g2 b o q
    refine ⟨sm, ?_⟩
    rw [Heap.get?_update_other _ _ (Ne.symm be)]
    exact Heap.get?_push_of_some _ q2
  · rw [Heap.get?_update_other _ _ (Ne.symm Te)]
    exact Heap.get?_push_size g rfl
  · first | (simp; done) | (rcases hp with rfl | ⟨_, _, _, _, _, _, _, rfl⟩ <;> simp)

/-- how an exception's traceback lies: none, or an entry that no frame holds -/
inductive Trail (h : Heap) (e : Addr) (fs : Array Value) : Option Addr → Prop where
  | none (h1 : fs[1]? = some .none) : Trail h e fs none
  | some {T : Addr} {oc : Value} {ts : Array Value} {d : Option Addr} {sl : Array (Option Value)} (h1 : fs[1]? = some (.ref T)) (ne : T ≠ e) (hT : h.get? T = some (excRec oc d ts sl)) (h3 : ts[3]? = some .none) : Trail h e fs (some T)
theorem Trail.size {h : Heap} {fs : Array Value} {T : Option Addr} (t : Trail h e fs T) : 1 < fs.size := by
  cases t with
  | none h1 => exact (Array.getElem?_eq_some_iff.mp h1).1
  | some h1 => exact (Array.getElem?_eq_some_iff.mp h1).1

/-- noteFrame at a frame that the exception has not been noted at -/
theorem note_on {T0 : Option Addr} {Q : Unit → Shared → Prop} (hA : A.frames = some (env :: outer)) (F : s.heap.FunFrames base (env :: outer)) (hL : env.frame = some L) (he : s.heap.get? e = some (excRec c od fs sl)) (t : Trail s.heap e fs T0)
    (k : ∀ m T oc ts, s.heap.objs.size ≤ T → Kept (framesOf (env :: outer)) (e :: T0.toList) s.heap m → m.get? e = some (excRec c od (fs.setIfInBounds 1 (.ref T)) sl) → m.get? T = some (excRec oc none ts #[]) → ts[3]? = some (rawInt L) → Q () { s with heap := m }) :
    wpAny M A (noteFrame (.ref e) env) Q E s := by
  unfold noteFrame
  simp only [hL]
  have h1s := t.size
  cases t with
  | none h1 =>
    refine wpAny_bind (wpAny_field he rfl h1 ?_)
    rw [if_neg (by decide)]
    exact entry_laid hA F hL he h1s k
  | @some T oc ts d sm h1 ne hT h3 =>
    refine wpAny_bind (wpAny_field he rfl h1 ?_)
    rw [if_pos (show (Value.ref T != Value.none) = true by simp)]
    refine wpAny_bind (wpAny_field hT rfl h3 ?_)
    rw [if_neg (show ¬ ((Value.none == rawInt L) = true) by simp [rawInt])]
    have h3s : 3 < ts.size := (Array.getElem?_eq_some_iff.mp h3).1
    refine wpAny_bind (wpAny_setField hT rfl h3s ?_)
    have oth : ∀ b, b ≠ T → (s.heap.update T (Obj.mapFields (·.setIfInBounds 3 Value.none))).get? b = s.heap.get? b := fun b hb => Heap.get?_update_other _ _ (Ne.symm hb)
    have nT := frame_ne F hT
    have F1 : (s.heap.update T (Obj.mapFields (·.setIfInBounds 3 Value.none))).FunFrames base (env :: outer) := F.of_keeps fun b o hb hn => ⟨o, (oth b fun z => by rw [z, hT] at hb; cases hb; exact hn ts rfl).trans hb, rfl⟩
    refine entry_laid (s := { s with heap := s.heap.update T (Obj.mapFields (·.setIfInBounds 3 Value.none)) }) hA F1 hL ((oth e (Ne.symm ne)).trans he) h1s fun m T' oc' ts' z1 z2 z3 z4 z5 => k m T' oc' ts' ?_ ?_ z3 z4 z5
    · have zz : (s.heap.update T (Obj.mapFields (·.setIfInBounds 3 Value.none))).objs.size = s.heap.objs.size := (Heap.SameBut.update (h := s.heap) (a := T) (f := Obj.mapFields (·.setIfInBounds 3 Value.none))).1
      rw [← zz]; exact z1
    · have kk : Kept (framesOf (env :: outer)) [T] s.heap (s.heap.update T (Obj.mapFields (·.setIfInBounds 3 Value.none))) :=
        ⟨fun b o q _ hx => (oth b fun z => hx (by rw [z]; exact List.mem_singleton.mpr rfl)).trans q, fun b o q _ hx => ⟨o.slots, (oth b fun z => hx (by rw [z]; exact List.mem_singleton.mpr rfl)).trans q⟩⟩
      refine (kk.trans z2).weak fun b o _ q => ?_
      simp only [List.mem_append, List.mem_singleton] at q
      simp only [Option.toList_some, List.mem_cons, List.not_mem_nil, or_false]
      exact q.symm

/-- setFlight none at an exception whose entry stands -/
theorem flight_off {T : Addr} {oc : Value} {ts : Array Value} {d : Option Addr} {sm : Array (Option Value)} {Q : Unit → Shared → Prop} (he : s.heap.get? e = some (excRec c od fs sl)) (h1 : fs[1]? = some (.ref T)) (ne : T ≠ e)
    (hT : s.heap.get? T = some (excRec oc d ts sm)) (h3 : 3 < ts.size)
    (k : ∀ m, (∀ b o, b ≠ T → s.heap.get? b = some o → m.get? b = some o) → Trail m e fs (some T) → m.get? e = some (excRec c od fs sl) → Q () { s with heap := m }) : wpAny M A (setFlight (.ref e) none) Q E s := by
  unfold setFlight
  refine wpAny_bind (wpAny_field he rfl h1 ?_)
  rw [if_pos (show (Value.ref T != Value.none) = true by simp)]
  have oth : ∀ b o, b ≠ T → s.heap.get? b = some o → (s.heap.update T (Obj.mapFields (·.setIfInBounds 3 Value.none))).get? b = some o := fun b o hb q => (Heap.get?_update_other _ _ (Ne.symm hb)).trans q
  exact wpAny_setField hT rfl h3 (k _ oth (.some h1 ne (upd_rec hT) (by simp [h3])) (oth e _ (Ne.symm ne) he))

/-- an exception leaves a frame -/
theorem leaves {T0 : Option Addr} {Q : Unit → Shared → Prop} (hA : A.frames = some (env :: outer)) (F : s.heap.FunFrames base (env :: outer)) (hL : env.frame = some L) (he : s.heap.get? e = some (excRec c od fs sl)) (t : Trail s.heap e fs T0)
    (k : ∀ m T fs', s.heap.objs.size ≤ T → Kept (framesOf (env :: outer)) (e :: T0.toList) s.heap m → m.get? e = some (excRec c od fs' sl) → fs'[0]? = fs[0]? → Trail m e fs' (some T) → Q () { s with heap := m }) :
    wpAny M A (leaving env (.ref e)) Q E s := by
  unfold leaving
  refine wpAny_bind (note_on hA F hL he t fun m T oc ts z1 z2 z3 z4 z5 => ?_)
  have Te : T ≠ e := Nat.ne_of_gt (Nat.lt_of_lt_of_le (Heap.lt_size he) z1)
  have f1 : (fs.setIfInBounds 1 (Value.ref T))[1]? = some (.ref T) := by
    have := t.size
    simp [this]
  refine flight_off (s := { s with heap := m }) z3 f1 Te z4 (Array.getElem?_eq_some_iff.mp z5).1 fun m' q1 q2 q3 => k m' T _ z1 ⟨fun b o q hb hx => ?_, fun b o q hb hx => ?_⟩ q3 (by simp) q2
  · exact q1 b o (Nat.ne_of_lt (Nat.lt_of_lt_of_le (Heap.lt_size q) z1)) (z2.plain b o q hb hx)
  · obtain ⟨sm, r⟩ := z2.frame b o q hb hx
    exact ⟨sm, q1 b _ (Nat.ne_of_lt (Nat.lt_of_lt_of_le (Heap.lt_size q) z1)) r⟩
end
end LX
end
section
set_option Elab.async false
set_option linter.all false
set_option maxRecDepth 100000
set_option maxHeartbeats 4000000
namespace L2
open PySem PySem.Spec PyProof.Rows LX

/-! ### an exception as a tracked thing -/
/-- class C, the dict of its attributes at od; fresh: not raised yet -/
def ExP (fresh : Bool) (C e : Addr) (od : Option Addr) (h : Heap) : Prop := ∃ fs sl t0, h.get? e = some (excRec (.ref C) od fs sl) ∧ fs[0]? = some (.ref t0) ∧ (fresh = true → fs[1]? = some .none)
def exo (fresh : Bool) (C e : Addr) (od : Option Addr) : HO := .ext (ExP fresh C e od)
section
variable {P : Program} {w : World} {H : Hp} {h : Heap} {b : Bool} {C e : Addr} {od : Option Addr}
theorem exo_ok (x : ExP b C e od h) : ObjOk P w H h e (exo b C e od) := by
  refine ⟨x, ?_, fun h1 h2 p k => ?_⟩
  · obtain ⟨fs, sl, t0, z, _⟩ := x
    exact ⟨_, z⟩
  · obtain ⟨fs, sl, t0, z, r⟩ := p
    exact ⟨fs, sl, t0, k _ z, r⟩
theorem exo_get (ok : HOk P w H h) (z : H e = some (exo b C e od)) : ExP b C e od h := (show ObjOk P w H h e (exo b C e od) from ok e _ z).1
end
/-- no longer tracked -/
def del (H : Hp) (a : Addr) : Hp := fun b => if b = a then none else H b
theorem del_same {H : Hp} {a : Addr} : del H a a = none := by unfold del; rw [if_pos rfl]
theorem del_ne {H : Hp} {a b : Addr} (h : b ≠ a) : del H a b = H b := by unfold del; rw [if_neg h]
theorem del_some {H : Hp} {a b : Addr} {o : HO} (h : del H a b = some o) : H b = some o ∧ b ≠ a := by
  unfold del at h
  by_cases q : b = a
  · rw [if_pos q] at h; cases h
  · rw [if_neg q] at h; exact ⟨h, q⟩

/-! ### heaps that keep what is tracked -/
section
variable {P : Program} {w : World} {H H' : Hp} {h h' : Heap} {a : Addr}
theorem HOk.keeps (ok : HOk P w H h) (k : ∀ b u o, H b = some u → h.get? b = some o → h'.get? b = some o) : HOk P w H h' := fun b u q =>
  (ok b u q).stay (fun c v hc r => by
    rcases hc with rfl | hc
    · exact k c u v q r
    · exact k c _ v hc r) (fun _ z => z) fun _ _ z => z
theorem HOk.del (ok : HOk P w H h) (ha : ∀ y, H a ≠ some (.own y)) (hb : ∀ xs, H a ≠ some (.tup xs)) : HOk P w (del H a) h := fun b u q => by
  obtain ⟨q1, q2⟩ := del_some q
  refine (ok b u q1).stay (fun _ _ _ r => r) (fun c z => ?_) fun c xs z => ?_
  · rw [del_ne fun e => ha b (by rw [← e]; exact z)]; exact z
  · rw [del_ne fun e => hb xs (by rw [← e]; exact z)]; exact z
end
theorem funFrames_kept {h k base : Heap} : ∀ {l : List Env}, h.FunFrames base l → (∀ b ∈ frs l, ∀ o, h.get? b = some o → ∃ sl, k.get? b = some { o with slots := sl }) → k.FunFrames base l
  | [], _, _ => True.intro
  | env :: r, ⟨h1, ⟨L, o, e1, e2, e3, e4⟩, h2⟩, q => by
    have hm : L ∈ frs (env :: r) := List.mem_filterMap.mpr ⟨env, List.mem_cons_self, e1⟩
    obtain ⟨sl, z⟩ := q L hm o e3
    refine ⟨h1, ⟨L, _, e1, e2, z, e4⟩, funFrames_kept h2 fun b hb o' z' => q b ?_ o' z'⟩
    obtain ⟨x, hx, hy⟩ := List.mem_filterMap.mp hb
    exact List.mem_filterMap.mpr ⟨x, List.mem_cons_of_mem _ hx, hy⟩

/-! ### how an exception lies behind a call -/
structure Lies (P : Program) (w : World) (outer : List Env) (H H' : Hp) (s : Shared) (ea C T : Addr) (od : Option Addr) (fs : Array Value) (sl : Array (Option Value)) (s' : Shared) : Prop where
  os : s'.os = s.os
  bare : AllBare s'.gens
  un : Un (frs outer) [] H H' s.heap s'.heap
  hok : HOk P w H' s'.heap
  newE : s.heap.get? ea = none
  newT : s.heap.get? T = none
  freeE : H' ea = none
  freeT : H' T = none
  at_ : s'.heap.get? ea = some (excRec (.ref C) od fs sl)
  args : ∃ t0, fs[0]? = some (.ref t0)
  trail : Trail s'.heap ea fs (some T)
def CXE (P : Program) (w : World) : CXT := fun outer H s E e s' => ∃ ea C T od fs sl H', e = .ref ea ∧ Lies P w outer H H' s ea C T od fs sl s' ∧ E (.ref C) od H'

section
variable {X : Cx} {pins : List (Addr × Obj)} {σ : St} {H H' : Hp} {s s' : Shared} {ea C T : Addr} {od : Option Addr} {fs : Array Value} {sl : Array (Option Value)}
/-- the frames behind it -/
theorem Lies.frames (I : Inv X pins σ H s) (l : Lies X.prog X.w X.stack H H' s ea C T od fs sl s') : s'.heap.FunFrames X.base X.stack :=
  funFrames_kept I.stack fun b hb o z => l.un.any z (I.stkFree b hb) (by simp)
/-- what is kept of the state ahead of the call when the exception is noted in this frame -/
theorem Lies.on {m : Heap} {t' : Nat} (I : Inv X pins σ H s) (l : Lies X.prog X.w X.stack H H' s ea C T od fs sl s') (k : Kept (framesOf X.stack) [ea, T] s'.heap m) :
    Un (frs X.stack) [] H H' s.heap m ∧ HOk X.prog X.w H' m := by
  have fr : ∀ b, b ∈ frs X.stack → H' b = none := fun b hb => by
    obtain ⟨_, o, z, _⟩ := I.stack.mem hb
    exact l.un.free b o z (I.stkFree b hb) (by simp)
  have ne : ∀ b o, s.heap.get? b = some o → b ∉ [ea, T] := fun b o z q => by
    rcases List.mem_cons.mp q with e | q
    · rw [e, l.newE] at z; cases z
    · rw [List.mem_singleton.mp q, l.newT] at z; cases z
  refine ⟨⟨fun b o z n hb hx => ?_, fun b o z n hb hx => ?_, l.un.free, fun b o z hx => ?_, l.un.tups, l.un.frzs, l.un.tbls⟩, ?_⟩
  · exact k.plain b o (l.un.keep b o z n hb hx) hb (ne b o z)
  · obtain ⟨s1, z1⟩ := l.un.slot b o z n hb hx
    obtain ⟨s2, z2⟩ := k.frame b _ z1 hb (ne b o z)
    exact ⟨s2, z2⟩
  · obtain ⟨o1, z1⟩ := l.un.there b o z hx
    by_cases hb : b ∈ framesOf X.stack
    · obtain ⟨s2, z2⟩ := k.frame b _ z1 hb (ne b o z)
      exact ⟨_, z2⟩
    · exact ⟨_, k.plain b _ z1 hb (ne b o z)⟩
  · refine l.hok.keeps fun b u o z q => k.plain b o q (fun hb => ?_) fun hx => ?_
    · rw [fr b hb] at z; cases z
    · rcases List.mem_cons.mp hx with e | hx
      · rw [e, l.freeE] at z; cases z
      · rw [List.mem_singleton.mp hx, l.freeT] at z; cases z
end
end L2
end
section
set_option Elab.async false
set_option linter.all false
set_option maxRecDepth 100000
set_option maxHeartbeats 4000000
namespace L2
open PySem PySem.Spec PyProof.Rows LX

/-! ### an exception passes a def's frame -/
section
variable {P : Program} {w : World} {K : PySem.W.Frag} {mg : Str → Option Value} {base : Heap} {N : List Str} {qual : Str} {scope : Scope} {f : Addr} {cdv : Value} {A : Around} {outer : List Env} {s₀ : Shared} {H₀ : Hp} {E₀ : XK}
abbrev cxE (P : Program) (w : World) (K : PySem.W.Frag) (mg : Str → Option Value) (base : Heap) (N : List Str) (qual : Str) (scope : Scope) (f : Addr) (cdv : Value) (A : Around) (outer : List Env) (s₀ : Shared) (H₀ : Hp) (E₀ : XK) : Cx :=
  cxOf (CXE P w) P w K mg base N qual scope f cdv A outer s₀ H₀ E₀

theorem leave_lies {pins : List (Addr × Obj)} {σ : St} {H H' : Hp} {s s' : Shared} {ea C T : Addr} {od : Option Addr} {fs : Array Value} {sl : Array (Option Value)} (I : Inv (cxE P w K mg base N qual scope f cdv A outer s₀ H₀ E₀) pins σ H s)
    (l : Lies P w (cxE P w K mg base N qual scope f cdv A outer s₀ H₀ E₀).stack H H' s ea C T od fs sl s') (hE : E₀ (.ref C) od H') : (cxE P w K mg base N qual scope f cdv A outer s₀ H₀ E₀).xe (.ref ea) s' := by
  refine leaves I.ok.frames (Lies.frames I l) rfl l.at_ l.trail fun m T' fs' z1 z2 z3 z4 z5 => ?_
  obtain ⟨un, hok⟩ := l.on (t' := s'.toks) I z2
  have J : Inv (cxE P w K mg base N qual scope f cdv A outer s₀ H₀ E₀) pins σ H' { s' with heap := m } := I.call' l.os un hok l.bare (fun b z => absurd z (by simp))
  have old : ∀ b o, s₀.heap.get? b = some o → ∃ o', s.heap.get? b = some o' := fun b o z => I.base.there b o z (List.not_mem_nil)
  have e0 : s₀.heap.get? ea = none := by
    cases q : s₀.heap.get? ea with
    | none => rfl
    | some o =>
      obtain ⟨o', z⟩ := old ea o q
      rw [l.newE] at z; cases z
  have t0 : s₀.heap.get? T' = none := by
    cases q : s₀.heap.get? T' with
    | none => rfl
    | some o =>
      obtain ⟨o1, y1⟩ := old T' o q
      obtain ⟨o2, y2⟩ := l.un.there T' o1 y1 (by simp)
      exact absurd (Heap.lt_size y2) (Nat.not_lt.mpr z1)
  obtain ⟨a0, ha⟩ := l.args
  exact ⟨ea, C, T', od, fs', sl, H', rfl, ⟨J.os, J.bare, J.base, J.hok, e0, t0, l.freeE, l.hok.fresh z1, z3, ⟨a0, by rw [z4]; exact ha⟩, z5⟩, hE⟩
theorem passE {E : XK} (hE : ∀ c od H', E c od H' → E₀ c od H') : Passes (CXE P w) (cxE P w K mg base N qual scope f cdv A outer s₀ H₀ E₀) E := fun pins σ H s e s' I h => by
  obtain ⟨ea, C, T, od, fs, sl, H', rfl, l, q⟩ := h
  exact leave_lies I l (hE _ _ _ q)

/-- a new exception is raised in the def's own body -/
theorem leave_new {pins : List (Addr × Obj)} {σ : St} {H : Hp} {s : Shared} {ea C : Addr} {od : Option Addr} (I : Inv (cxE P w K mg base N qual scope f cdv A outer s₀ H₀ E₀) pins σ H s) (h1 : H ea = some (exo true C ea od)) (h0 : H₀ ea = none)
    (hE : E₀ (.ref C) od (del H ea)) : (cxE P w K mg base N qual scope f cdv A outer s₀ H₀ E₀).xe (.ref ea) s := by
  obtain ⟨fs, sl, a0, z, ha, hf⟩ := exo_get I.hok h1
  have frz : ∀ b, b ∈ frs (cxE P w K mg base N qual scope f cdv A outer s₀ H₀ E₀).stack → H b = none := I.stkFree
  have e0 : s₀.heap.get? ea = none := by
    cases q : s₀.heap.get? ea with
    | none => rfl
    | some o =>
      have := I.base.free ea o q h0 List.not_mem_nil
      rw [h1] at this; cases this
  refine leaves I.ok.frames I.stack rfl z (.none (hf rfl)) fun m T' fs' z1 z2 z3 z4 z5 => ?_
  have hd : HOk P w (del H ea) s.heap := I.hok.del (fun y q => by rw [h1] at q; cases q) fun xs q => by rw [h1] at q; cases q
  have hm : HOk P w (del H ea) m := hd.keeps fun b u o q r => by
    obtain ⟨q1, q2⟩ := del_some q
    exact z2.plain b o r (fun hb => by rw [frz b hb] at q1; cases q1) (by simpa using q2)
  have neE : ∀ b o, s₀.heap.get? b = some o → b ≠ ea := fun b o q r => by rw [r, e0] at q; cases q
  have t0 : s₀.heap.get? T' = none := by
    cases q : s₀.heap.get? T' with
    | none => rfl
    | some o =>
      obtain ⟨o2, y2⟩ := I.base.there T' o q List.not_mem_nil
      exact absurd (Heap.lt_size y2) (Nat.not_lt.mpr z1)
  have neL : ∀ b o, s₀.heap.get? b = some o → b ∈ framesOf (cxE P w K mg base N qual scope f cdv A outer s₀ H₀ E₀).stack → b ∈ frs outer := fun b o q hb => by
    rcases List.mem_cons.mp (I.stkSub b hb) with r | r
    · exact absurd (Heap.lt_size q) (by rw [r]; exact Nat.not_lt.mpr I.ok.above)
    · exact r
  have sub : ∀ b, b ∈ frs outer → b ∈ framesOf (cxE P w K mg base N qual scope f cdv A outer s₀ H₀ E₀).stack := fun b hb => by
    obtain ⟨x, hx, hy⟩ := List.mem_filterMap.mp hb
    exact List.mem_filterMap.mpr ⟨x, List.mem_cons_of_mem _ hx, hy⟩
  refine ⟨ea, C, T', od, fs', sl, del H ea, rfl, ⟨I.os, I.bare, ⟨fun b o q n hb hx => ?_, fun b o q n hb hx => ?_, fun b o q n hx => ?_, fun b o q hx => ?_, fun b xs q => ?_, fun b o u q => ?_, fun b ps q => ?_⟩, hm, e0, t0, del_same, ?_, z3, ⟨a0, by rw [z4]; exact ha⟩, z5⟩, hE⟩
  · exact z2.plain b o (I.base.keep b o q n hb hx) (fun z => hb (neL b o q z)) (by simpa using neE b o q)
  · obtain ⟨s1, y1⟩ := I.base.slot b o q n hb hx
    obtain ⟨s2, y2⟩ := z2.frame b _ y1 (sub b hb) (by simpa using neE b o q)
    exact ⟨s2, y2⟩
  · rw [del_ne (neE b o q)]
    exact I.base.free b o q n hx
  · obtain ⟨o1, y1⟩ := I.base.there b o q hx
    by_cases hb : b ∈ framesOf (cxE P w K mg base N qual scope f cdv A outer s₀ H₀ E₀).stack
    · obtain ⟨s2, y2⟩ := z2.frame b _ y1 hb (by simpa using neE b o q)
      exact ⟨_, y2⟩
    · exact ⟨_, z2.plain b _ y1 hb (by simpa using neE b o q)⟩
  · have r := I.base.tups b xs q
    rw [del_ne fun e => by rw [e, h1] at r; cases r]; exact r
  · have r := I.base.frzs b o u q
    rw [del_ne fun e => by rw [e, h1] at r; cases r]; exact r
  · obtain ⟨more, r⟩ := I.base.tbls b ps q
    exact ⟨more, by rw [del_ne fun e => by rw [e, h1] at r; cases r]; exact r⟩
  · by_cases q : T' = ea
    · rw [q]; exact del_same
    · rw [del_ne q]; exact I.hok.fresh z1
end
end L2
end
section
set_option Elab.async false
set_option linter.all false
set_option maxRecDepth 100000
set_option maxHeartbeats 4000000
namespace L2
open PySem PySem.Spec PyProof.Rows LX

/-! ### a def, with exceptions -/
theorem Fun.okE {P : Program} {w : World} {K : PySem.W.Frag} {mg : Str → Option Value} {base : Heap} {x qual : Str} {st : Stmt} {f : Addr} {fd : FuncData} {N ps : List Str} {k : Nat} {sp : Sp} (F : Fun K x qual st f fd) (S : FnScope N ps (defScope st)) (len : ∀ vs H Q E, sp vs H Q E → vs.length = ps.length)
    (hbody : ∀ (cdv : Value) (A : Around) (outer : List Env) (s : Shared) (H : Hp) (vs : List V) (Q : VK) (E : XK), Room k (A.deeper (envOfC qual (defScope st) s.heap.objs.size f cdv)) → sp vs H Q E →
      ∃ t, PSs (cxE P w K mg base N qual (defScope st) f cdv A outer s H E) (defBody st) t ∧ t { nx := fun _ H' => Q .non H', rt := Q } (start N vs) H) : FnOk P w K mg base (CXE P w) (k + 1) f fd ps sp := by
  obtain ⟨oc, od, kV, doc, pm, an, cdv, ct, osl, rfl, lk, hcd⟩ := F.ex
  exact fn_of lk hcd S len fun A outer s H vs Q E hr hsp => hbody cdv A outer s H vs Q E hr hsp

/-! ### raise -/
def RaisesTo (X : Cx) (E : XK) : Prop := ∀ (pins : List (Addr × Obj)) (σ : St) (H : Hp) (s : Shared) (ea C : Addr) (od : Option Addr), Inv X pins σ H s → H ea = some (exo true C ea od) → X.H₀ ea = none → E (.ref C) od (del H ea) → X.xe (.ref ea) s
theorem raiseE {P : Program} {w : World} {K : PySem.W.Frag} {mg : Str → Option Value} {base : Heap} {N : List Str} {qual : Str} {scope : Scope} {f : Addr} {cdv : Value} {A : Around} {outer : List Env} {s₀ : Shared} {H₀ : Hp} {E₀ : XK} :
    RaisesTo (cxE P w K mg base N qual scope f cdv A outer s₀ H₀ E₀) E₀ := fun _ _ _ _ _ _ _ I h1 h0 q => leave_new I h1 h0 q
def tRaise (H₀ : Hp) (K : PySem.W.Frag) (E : XK) (te : TE) : TS := fun _ σ H => te σ H fun v H1 => ∃ ea C od, v = .ref ea ∧ H1 ea = some (exo true C ea od) ∧ (∃ cd, XCls K C cd) ∧ H₀ ea = none ∧ E (.ref C) od (del H1 ea)
section
variable {X : Cx}
theorem ps_raise {e : Expr} {te : TE} {pos : Pos} {E : XK} (hc : X.calm = true) (hx : RaisesTo X E) (he : PE X e te) : PS X (.Raise (some e) none pos) (tRaise X.H₀ X.K E te) := by
  intro pins s σ H D I h
  refine raise_own (K := X.K) (I.ok.hd hc) (thn (he pins s σ H _ I h) fun u s1 ⟨v, H1, I1, r, ea, C, od, ev, h1, ⟨cd, xc⟩, h0, q⟩ => ?_)
  subst ev
  obtain rfl : u = Value.ref ea := r
  obtain ⟨fs, sl, a0, z, ha, hf⟩ := exo_get I1.hok h1
  exact ⟨ea, C, cd, od, fs, sl, rfl, z, hf rfl, xc, I1.kIn, hx pins σ H1 s1 ea C od I1 h1 h0 q⟩

/-! ### calls whose exceptions this body wants, by the names' values at the call -/
def PassesX (CX : CXT) (X : Cx) (EK : St → XK) : Prop := ∀ (pins : List (Addr × Obj)) (σ : St) (H : Hp) (s : Shared) (e : Value) (s' : Shared), Inv X pins σ H s → CX X.stack H s (EK σ) e s' → X.xe e s'
theorem Passes.x {CX : CXT} {E : XK} (h : Passes CX X E) : PassesX CX X (fun _ => E) := fun pins σ H s e s' I q => h pins σ H s e s' I q

def xCall (sp : Sp) (dvs : List V) (EK : St → XK) (t : TA) : TE := fun σ H Q => t σ H fun vs H1 => sp (vs ++ dvs) H1 Q (EK σ)
def xMeth (C : Addr) (m : Str) (sp : Sp) (dvs : List V) (EK : St → XK) (ta : TE) (t : TA) : TE := fun σ H Q => ta σ H fun x H1 => ∃ a dx fs, x = .ref a ∧ H1 a = some (.ins C dx fs) ∧ fs.lookup m = none ∧
  t σ H1 fun vs H2 => sp (x :: (vs ++ dvs)) H2 Q (EK σ)
/-- C(..), C a class of errors -/
def xErr (C : Addr) (sp : Sp) (EK : St → XK) (t : TA) : TE := fun σ H Q => t σ H fun vs H1 => ∀ ea, H1 ea = none → sp (.ref ea :: vs) (upd H1 ea (exo true C ea none)) (fun v H2 => v = .non ∧ Q (.ref ea) H2) (EK σ)

variable {CX : CXT} {k : Nat} {f C : Addr} {fd : FuncData} {ps : List Str} {sp : Sp} {dvs : List V} {ds : List Value} {EK : St → XK} {x m : Str} {p pos apos : Pos} {e o : Expr} {es : List Expr} {ta : TE} {t : TA}

theorem xrun {pins : List (Addr × Obj)} {σ : St} {H : Hp} {s : Shared} {Q : VK} {us : List Value} {vs : List V} (F : FnOk X.prog X.w X.K X.mg X.base CX k f fd ps sp) (hr : Room k X.A) (hb : Binds X.K fd ps ds) (hd : Vals dvs ds) (hx : PassesX CX X EK)
    (I : Inv X pins σ H s) (r : Vals vs us) (h : sp (vs ++ dvs) H Q (EK σ)) : wpAny (model X.prog X.w) X.A (call (.ref f) us) (EP X pins σ Q) X.xe s := by
  have r2 : Vals (vs ++ dvs) (us ++ ds) := r.append hd
  have hl : (us ++ ds).length = ps.length := by rw [← r2.length]; exact F.len _ _ _ _ h
  refine wpAny_call (codeAny_mono (F.run X.A X.stack s H ⟨us, []⟩ (us ++ ds) (vs ++ dvs) Q (EK σ) hr I.env0 (hb s us I.kIn hl) r2 h) fun r s' hq => ?_)
  cases r with
  | error e => exact hx pins σ H s e s' I hq
  | ok fl =>
    cases fl with
    | ret u => exact I.after hq
    | _ => exact False.elim hq
theorem xe_call (F : FnOk X.prog X.w X.K X.mg X.base CX k f fd ps sp) (hr : Room k X.A) (hg : Gl X x) (hm : X.mg x = some (.ref f)) (hk : PySem.W.keepIn X.K (.ref f) = true) (hb : Binds X.K fd ps ds) (hd : Vals dvs ds) (hx : PassesX CX X EK)
    (ha : PA X (e :: es) t) (hdb : (x == ("__debug__" : Str)) = false := by decide) (he : starEach (e :: es) X.env = (false, eval e X.env) :: starEach es X.env := by rfl) (hpl : (backTo pos (starEach es X.env)).any (·.1) = false := by rfl) :
    PE X (.Call (.Name x p) (e :: es) [] pos) (xCall sp dvs EK t) := by
  intro pins s σ H Q I h
  refine wpAny_Call_Name_kw (ld_glob I hg hm ?_ hdb)
  exact PySem.W.callWith_K (h₀ := X.base) I.ok.mod.kin hk (thn (ha pos pins s σ H _ I h) fun us s1 ⟨vs, H1, I1, r, q⟩ => ⟨I1.kIn, xrun F hr hb hd hx I1 r q⟩) he hpl
theorem xe_meth {pl : Sem Bool} (he : PE X o ta) (c : Cls X.K C) (hm : Meth X.K C m f) (F : FnOk X.prog X.w X.K X.mg X.base CX k f fd ps sp) (hr : Room k X.A) (hb : Binds X.K fd ps ds) (hd : Vals dvs ds) (hx : PassesX CX X EK) (ha : PA X (e :: es) t)
    (hst : starEach (e :: es) X.env = (false, eval e X.env) :: starEach es X.env := by rfl) (hpl : (backTo pos (starEach es X.env)).any (·.1) = false := by rfl)
    (ht : eval (.Call (.Attribute o m apos) (e :: es) [] pos) X.env = (do
      let ov ← eval o X.env
      standAt apos.atName
      let (f, first) ← holding [ov] (getMethod ov m pl)
      callWith pos f first (backTo pos (starEach (e :: es) X.env)) (backToKw pos (keywordEach [] X.env))) := by rfl) :
    PE X (.Call (.Attribute o m apos) (e :: es) [] pos) (xMeth C m sp dvs EK ta t) := by
  intro pins s σ H Q I h
  refine PySem.W.methodCall_KW (pl := pl) (thn (he pins s σ H _ I h) fun u s1 ⟨x, H1, I1, rx, a, dx, fs, ex, ea, l, q⟩ => ?_) ht
  subst ex
  obtain rfl : u = Value.ref a := rx
  refine getmeth_ok I1 ea c hm l ?_
  exact PySem.W.callWith_K (first := [.ref a]) (h₀ := X.base) I.ok.mod.kin hm.kp (thn (ha pos pins s1 σ H1 _ I1 q) fun us s2 ⟨vs, H2, I2, r, q2⟩ => ⟨I2.kIn, xrun (us := .ref a :: us) (vs := .ref a :: vs) F hr hb hd hx I2 (.cons rfl r) q2⟩) hst hpl
theorem xe_meth0 {pl : Sem Bool} (he : PE X o ta) (c : Cls X.K C) (hm : Meth X.K C m f) (F : FnOk X.prog X.w X.K X.mg X.base CX k f fd ps sp) (hr : Room k X.A) (hb : Binds X.K fd ps ds) (hd : Vals dvs ds) (hx : PassesX CX X EK)
    (ht : eval (.Call (.Attribute o m apos) [] [] pos) X.env = (do
      let ov ← eval o X.env
      standAt apos.atName
      let (f, first) ← holding [ov] (getMethod ov m pl)
      callWith pos f first (backTo pos (starEach [] X.env)) (backToKw pos (keywordEach [] X.env))) := by rfl) :
    PE X (.Call (.Attribute o m apos) [] [] pos) (xMeth C m sp dvs EK ta tNil) := by
  intro pins s σ H Q I h
  refine PySem.W.methodCall_KW (pl := pl) (thn (he pins s σ H _ I h) fun u s1 ⟨x, H1, I1, rx, a, dx, fs, ex, ea, l, q⟩ => ?_) ht
  subst ex
  obtain rfl : u = Value.ref a := rx
  refine getmeth_ok I1 ea c hm l ?_
  exact PySem.W.callWith_K0 (first := [.ref a]) I1.kIn hm.kp (xrun (us := [.ref a]) (vs := [.ref a]) F hr hb hd hx I1 (.cons rfl .nil) q)

/-- what a class of errors must have to be made -/
structure MkX (K : PySem.W.Frag) (C f : Addr) : Prop where
  cls : ∃ cd, XCls K C cd
  init : PySem.W.findIn K (.ref C) "__init__" = some (some (.ref f))
  fn : PySem.W.isFn K (.ref f) = true
  kp : PySem.W.keepIn K (.ref C) = true
theorem xrunErr {pins : List (Addr × Obj)} {σ : St} {H : Hp} {s : Shared} {Q : VK} {us : List Value} {vs : List V} (M : MkX X.K C f) (F : FnOk X.prog X.w X.K X.mg X.base CX k f fd ps sp) (hr : Room (k + 1) X.A) (hb : Binds X.K fd ps []) (hx : PassesX CX X EK) (hps : ps.length ≤ 1000)
    (I : Inv X pins σ H s) (r : Vals vs us) (h : ∀ ea, H ea = none → sp (.ref ea :: vs) (upd H ea (exo true C ea none)) (fun v H2 => v = .non ∧ Q (.ref ea) H2) (EK σ)) :
    wpAny (model X.prog X.w) X.A (call (.ref C) us) (EP X pins σ Q) X.xe s := by
  have hq := h (s.heap.objs.size + 1) (I.hok.fresh (Nat.le_succ _))
  obtain ⟨cd, xc⟩ := M.cls
  have r2 : Vals (V.ref (s.heap.objs.size + 1) :: vs) (Value.ref (s.heap.objs.size + 1) :: us) := .cons rfl r
  have hl : (Value.ref (s.heap.objs.size + 1) :: us).length = ps.length := by rw [← r2.length]; exact F.len _ _ _ _ hq
  have hz : us.length ≤ sizeLine := by rw [List.length_cons] at hl; rw [sizeLine_eq]; omega
  have I2 : Inv X pins σ (upd H (s.heap.objs.size + 1) (exo true C (s.heap.objs.size + 1) none)) { s with heap := withNew s.heap C us } := by
    refine I.laid (t' := s.toks) (fun b u q => Heap.get?_push_of_some _ (Heap.get?_push_of_some _ q)) (Nat.le_succ _) (exo_ok ⟨#[.ref s.heap.objs.size, .none, .none, .none, .bool false, .none], #[], s.heap.objs.size, ?_, rfl, fun _ => rfl⟩)
    show (withNew s.heap C us).get? (s.heap.objs.size + 1) = some (newRec C s.heap.objs.size)
    heap_get
  obtain ⟨hh, g, d, tk, os⟩ := s
  refine wpAny_call (exc_made xc I.kIn M.init (beq_iff_eq.mp M.fn) hz (codeAny_mono (F.run _ X.stack _ _ ⟨Value.ref (hh.objs.size + 1) :: us, []⟩ (Value.ref (hh.objs.size + 1) :: us) _ _ (EK σ) (hr.make C us []) (I2.env0.make C us [])
    (by have := hb _ (Value.ref (hh.objs.size + 1) :: us) I2.kIn (by rw [List.append_nil]; exact hl); rw [List.append_nil] at this; exact this) r2 hq) fun r s' hq' => ?_))
  cases r with
  | error e => exact hx pins σ _ _ e s' I2 hq'
  | ok fl =>
    cases fl with
    | ret u =>
      obtain ⟨v, H', I3, rv, ev, q3⟩ := I2.after hq'
      subst ev
      exact ⟨rv, ⟨V.ref (hh.objs.size + 1), H', I3, rfl, q3⟩⟩
    | _ => exact False.elim hq'
theorem xe_err (M : MkX X.K C f) (F : FnOk X.prog X.w X.K X.mg X.base CX k f fd ps sp) (hr : Room (k + 1) X.A) (hg : Gl X x) (hm : X.mg x = some (.ref C)) (hb : Binds X.K fd ps []) (hx : PassesX CX X EK)
    (ha : PA X (e :: es) t) (hps : ps.length ≤ 1000 := by decide) (hdb : (x == ("__debug__" : Str)) = false := by decide) (he : starEach (e :: es) X.env = (false, eval e X.env) :: starEach es X.env := by rfl) (hpl : (backTo pos (starEach es X.env)).any (·.1) = false := by rfl) :
    PE X (.Call (.Name x p) (e :: es) [] pos) (xErr C sp EK t) := by
  intro pins s σ H Q I h
  refine wpAny_Call_Name_kw (ld_glob I hg hm ?_ hdb)
  exact PySem.W.callWith_K (h₀ := X.base) I.ok.mod.kin M.kp (thn (ha pos pins s σ H _ I h) fun us s1 ⟨vs, H1, I1, r, q⟩ => ⟨I1.kIn, xrunErr M F hr hb hx hps I1 r q⟩) he hpl
end
end L2
end
section
set_option Elab.async false
set_option linter.all false
set_option maxRecDepth 100000
set_option maxHeartbeats 4000000
namespace L2
open PySem PySem.Spec PyProof.Rows LX

theorem upd_self {H : Hp} {a : Addr} {o : HO} (h : H a = some o) : upd H a o = H := by
  funext b
  by_cases e : b = a
  · rw [e, upd_same, h]
  · rw [upd_ne e]
section
variable {X : Cx}
/-! ### ValueError.__init__(self, ..) -/
def tVe (K : PySem.W.Frag) (t : TA) : TE := fun σ H Q => t σ H fun vs H1 => ∃ ea C od r, vs = .ref ea :: r ∧ r.length ≤ 1000 ∧ H1 ea = some (exo true C ea od) ∧ (∃ cd, XCls K C cd) ∧ Q .non H1
theorem pe_ve {p apos pos : Pos} {e : Expr} {es : List Expr} {t : TA} {pl : Sem Bool} (hg : Gl X "ValueError") (hm : X.mg "ValueError" = none) (ha : PA X (e :: es) t)
    (hst : starEach (e :: es) X.env = (false, eval e X.env) :: starEach es X.env := by rfl) (hpl : (backTo pos (starEach es X.env)).any (·.1) = false := by rfl)
    (ht : eval (.Call (.Attribute (.Name "ValueError" p) "__init__" apos) (e :: es) [] pos) X.env = (do
      let ov ← eval (.Name "ValueError" p) X.env
      standAt apos.atName
      let (f, first) ← holding [ov] (getMethod ov "__init__" pl)
      callWith pos f first (backTo pos (starEach (e :: es) X.env)) (backToKw pos (keywordEach [] X.env))) := by rfl) :
    PE X (.Call (.Attribute (.Name "ValueError" p) "__init__" apos) (e :: es) [] pos) (tVe X.K t) := by
  intro pins s σ H Q I h
  refine PySem.W.methodCall_KW (pl := pl) (ld_blt I hg hm PyProof.Rows.Boot.«ValueError» ?_) ht
  refine ve_init I.kIn ?_
  refine PyProof.Rows.callWith_builtin1 (thn (ha pos pins _ σ H _ (I.tok _) h) fun us s1 ⟨vs, H1, I1, r, ea, C, od, rr, ev, hl, h1, ⟨cd, xc⟩, q⟩ => ?_) hst hpl
  subst ev
  cases r with
  | @cons _ u _ us' r1 r2 =>
  obtain rfl : u = Value.ref ea := r1
  obtain ⟨fs, sl, a0, z, ha, hf⟩ := exo_get I1.hok h1
  have hz : us'.length ≤ sizeLine := by rw [← r2.length, sizeLine_eq]; omega
  have I2 : Inv X pins σ H1 { s1 with heap := s1.heap.push (tupRec us') } := I1.kept (t' := s1.toks) fun b u q => Heap.get?_push_of_some _ q
  have z2 := Heap.get?_push_of_some (h := s1.heap) (tupRec us') z
  have hs0 : 0 < fs.size := (Array.getElem?_eq_some_iff.mp ha).1
  have I3 : Inv X pins σ (upd H1 ea (exo true C ea od)) { s1 with heap := (s1.heap.push (tupRec us')).update ea (Obj.mapFields (·.setIfInBounds 0 (.ref s1.heap.objs.size))) } := by
    refine I2.write (x := ea) (e := ea) (t' := s1.toks) (by rw [h1]; exact True.intro) (.inl rfl) (fun b u hb q => (Heap.get?_update_other _ _ (Ne.symm hb)).trans q) ⟨_, upd_rec z2⟩ (exo_ok ⟨_, _, s1.heap.objs.size, upd_rec z2, by simp [hs0], fun _ => ?_⟩)
    have := hf rfl
    simpa using this
  rw [upd_self h1] at I3
  obtain ⟨hh, g, d, tk, os⟩ := s1
  exact init_called xc I1.kIn z ha hz ⟨.non, H1, I3, rfl, q⟩

/-! ### f-strings: some text -/
abbrev TF := St → Hp → (Hp → Prop) → Prop
/-- a part of an f-string: a text of at most 2000 signs -/
def PF (X : Cx) (e : Expr) (t : TF) : Prop :=
  ∀ (pins : List (Addr × Obj)) (s : Shared) (σ : St) (H : Hp) (Q : Hp → Prop), Inv X pins σ H s → t σ H Q → wpAny (model X.prog X.w) X.A (eval e X.env) (fun v s1 => ∃ y tk H1, v = .str y tk ∧ y.length ≤ 2000 ∧ Inv X pins σ H1 s1 ∧ Q H1) X.xe s
def PFs (X : Cx) (es : List Expr) (t : TF) : Prop :=
  ∀ (out : Str) (pins : List (Addr × Obj)) (s : Shared) (σ : St) (H : Hp) (Q : V → Hp → Prop), out.length + 2000 * es.length ≤ 100000 → Inv X pins σ H s → t σ H (fun H1 => ∀ y, y.length ≤ 100000 → Q (.str y) H1) →
    wpAny (model X.prog X.w) X.A (joinParts out (evalEach es X.env)) (EP X pins σ Q) X.xe s
def tText : TF := fun _ H Q => Q H
def tNum (te : TE) : TF := fun σ H Q => te σ H fun v H1 => ∃ i, v = .int i ∧ i.natAbs.log2 < 1920 ∧ Q H1
def tParts (t u : TF) : TF := fun σ H Q => t σ H fun H1 => u σ H1 Q
theorem line_big : (100000 : Nat) ≤ sizeLine := by rw [sizeLine_eq]; omega
theorem pf_text {x j pos} (hl : x.length ≤ 2000 := by decide +kernel) : PF X (.Constant (.str x) j pos) tText := fun _ _ _ H _ I h => Calls.Constant_str ⟨_, _, H, rfl, hl, I.tok _, h⟩
theorem pf_num {e : Expr} {te : TE} {pos : Pos} (he : PE X e te) : PF X (.FormattedValue e (-1) none pos) (tNum te) := by
  intro pins s σ H Q I h
  refine FormattedValue_plain (thn (he pins s σ H _ I h) fun u s1 ⟨v, H1, I1, r, i, ev, hi, q⟩ => ?_)
  subst ev
  obtain ⟨t, rfl⟩ := (show ∃ t, u = Value.int i t from r)
  exact formatField_int_small hi ⟨_, _, H1, rfl, Nat.le_trans (int_text_len_1921 hi) (by decide), I1.tok _, q⟩
theorem pfs_nil : PFs X [] tText := fun out pins s σ H Q hl I h =>
  joinParts_nil ⟨.str out, H, I.tok _, ⟨_, rfl⟩, h out (by simpa using hl)⟩ (Nat.le_trans (by simpa using hl) line_big)
theorem pfs_cons {e : Expr} {es : List Expr} {t u : TF} (h1 : PF X e t) (h2 : PFs X es u) : PFs X (e :: es) (tParts t u) := by
  intro out pins s σ H Q hl I h
  rw [List.length_cons] at hl
  refine joinParts_consE (joinParts_cons (thn (h1 pins s σ H _ I h) fun v s1 ⟨y, tk, H1, ev, hy, I1, q⟩ => ?_))
  subst ev
  have hz : (out ++ y).length + 2000 * es.length ≤ 100000 := by rw [strLen_append]; omega
  exact ⟨Nat.le_trans (by omega) line_big, h2 (out ++ y) pins s1 σ H1 Q hz I1 q⟩
def tFstr (t : TF) : TE := fun σ H Q => t σ H fun H1 => ∀ y, y.length ≤ 100000 → Q (.str y) H1
theorem pe_fstr {e e' : Expr} {es : List Expr} {t : TF} {pos : Pos} (h : PFs X (e :: e' :: es) t) (hl : 2000 * (e :: e' :: es).length ≤ 100000 := by decide) : PE X (.JoinedStr (e :: e' :: es) pos) (tFstr t) :=
  fun pins s σ H Q I q => JoinedStr_many (h Str.empty pins s σ H Q (by have z : Str.empty.length = 0 := rfl; rw [z]; omega) I q)

/-! ### isinstance, of exceptions too -/
inductive TyX (K : PySem.W.Frag) (H : Hp) : V → Value → Prop where
  | of {x : V} {t : Value} (h : TyOf K H x t) : TyX K H x t
  | exc {b : Bool} {a C : Addr} {od : Option Addr} {cd : ClassData} (e : H a = some (exo b C a od)) (hd : od = none ∨ ∃ dx fs, od = some dx ∧ H dx = some (.xd fs)) (x : XCls K C cd) (g : XGet K C)
      (hc : PySem.W.findIn K (.ref C) "__class__" = some (some (.builtin "object.__class__"))) : TyX K H (.ref a) (.ref C)
/-- a class as isinstance takes it -/
def clsV : V → Value
  | .ref a => .ref a
  | .ty n => .type n
  | _ => .none
theorem exo_inst {P : Program} {w : World} {H : Hp} {h : Heap} {b : Bool} {C a : Addr} {od : Option Addr} (ok : HOk P w H h) (e : H a = some (exo b C a od)) (hd : od = none ∨ ∃ dx fs, od = some dx ∧ H dx = some (.xd fs)) :
    ∃ ox o, PySem.W.InstAt h a ox C o := by
  obtain ⟨fs, sl, a0, z, _⟩ := exo_get ok e
  rcases hd with rfl | ⟨dx, gs, rfl, q⟩
  · exact ⟨_, _, inst_none z⟩
  · obtain ⟨mA, n, _⟩ := (show ObjOk P w H h dx (.xd gs) from ok dx _ q)
    obtain ⟨o, _, _, ho, _⟩ := n
    exact ⟨_, _, inst_some z ho⟩
def rIsiT (K : PySem.W.Frag) : List V → Hp → VK → Prop := fun vs H Q => ∃ x c t b, vs = [x, c] ∧ TyX K H x t ∧ (∃ n, c = .ty n) ∧ PySem.W.kitOne K t (clsV c) = some b ∧ Q (.bl b) H
theorem isi_any {pins : List (Addr × Obj)} {s : Shared} {σ : St} {H : Hp} {x : V} {u c t : Value} {b : Bool} {Q : VK} (I : Inv X pins σ H s) (rx : RelV x u) (ty : TyX X.K H x t) (e : PySem.W.kitOne X.K t c = some b) (q : Q (.bl b) H) :
    wpAny (model X.prog X.w) X.A (call (.builtin "isinstance") [u, c]) (EP X pins σ Q) X.xe s := by
  have fin : ∀ tk, EP X pins σ Q (.bool b) { s with toks := tk } := fun tk => ⟨.bl b, H, I.tok tk, rfl, q⟩
  cases ty with
  | of h => exact isinst_ok I rx h e fin
  | exc ea hd xc g hc =>
    cases (show u = Value.ref _ from rx)
    obtain ⟨ox, o, J⟩ := exo_inst I.hok ea hd
    exact PySem.W.kia_one (kit_exc xc g hc) I.kIn ⟨ox, o, J⟩ e (fun z => nomatch z) fin
theorem call_isiT : CallR X (.builtin "isinstance") (rIsiT X.K) := by
  rintro pins s σ H xs us Q I r ⟨x, c, t, b, rfl, ty, ⟨n, rfl⟩, e, q⟩
  obtain ⟨u, v, rfl, ru, rv⟩ := vals2 r
  cases (show v = Value.type n from rv)
  exact isi_any I ru ty e q

/-! ### e.m() of an exception -/
end
end L2
end
section
set_option Elab.async false
set_option linter.all false
set_option maxRecDepth 100000
set_option maxHeartbeats 4000000
namespace L2
open PySem PySem.Spec PyProof.Rows LX

/-! ### try: .. except C as n: .. -/
/-- within the body of a try: another wish, the pins kept -/
abbrev Cx.tried (X : Cx) (pins : List (Addr × Obj)) (E : Value → Shared → Prop) : Cx := { X with xe := E, pn := X.pn ++ pins }
/-- within an except suite -/
abbrev Cx.caught (X : Cx) (ea : Addr) : Cx := { X with A := X.A.mark (some (.ref ea)), calm := false, xe := fun _ _ => False }
section
variable {X : Cx} {pins : List (Addr × Obj)} {σ : St} {H : Hp} {s : Shared} {E : Value → Shared → Prop} {ea : Addr}
theorem Inv.tried (I : Inv X pins σ H s) (E : Value → Shared → Prop) : Inv (X.tried pins E) [] σ H s :=
  ⟨⟨I.ok.mod, I.ok.kind, I.ok.glob, I.ok.blt, I.ok.above, I.ok.inj, I.ok.has, I.ok.cab, I.ok.hd, I.ok.frames, I.ok.stk, I.ok.exf, I.ok.bs, I.ok.bsz, I.ok.noex, I.ok.exfs, I.ok.funs, I.ok.frf⟩,
    I.os, I.bare, I.base, I.loc, I.cell, I.free, I.freeC, fun p hp => I.pin p (by simpa using hp), I.hok, I.len⟩
theorem Inv.untried {pins' : List (Addr × Obj)} (I : Inv (X.tried pins E) pins' σ H s) : Inv X pins σ H s :=
  ⟨⟨I.ok.mod, I.ok.kind, I.ok.glob, I.ok.blt, I.ok.above, I.ok.inj, I.ok.has, I.ok.cab, I.ok.hd, I.ok.frames, I.ok.stk, I.ok.exf, I.ok.bs, I.ok.bsz, I.ok.noex, I.ok.exfs, I.ok.funs, I.ok.frf⟩,
    I.os, I.bare, I.base, I.loc, I.cell, I.free, I.freeC, fun p hp => I.pin p (List.mem_append_left _ hp), I.hok, I.len⟩
theorem Inv.caught (I : Inv X pins σ H s) (ea : Addr) : Inv (X.caught ea) pins σ H s :=
  ⟨⟨I.ok.mod, I.ok.kind, I.ok.glob, I.ok.blt, I.ok.above, I.ok.inj, I.ok.has, I.ok.cab, (fun z => nomatch z), I.ok.frames, I.ok.stk, I.ok.exf, I.ok.bs, I.ok.bsz, I.ok.noex, I.ok.exfs, I.ok.funs, I.ok.frf⟩,
    I.os, I.bare, I.base, I.loc, I.cell, I.free, I.freeC, I.pin, I.hok, I.len⟩
theorem Inv.uncaught {Y : Cx} (I : Inv (Y.caught ea) pins σ H s) (ok : Y.Ok) : Inv Y pins σ H s := ⟨ok, I.os, I.bare, I.base, I.loc, I.cell, I.free, I.freeC, I.pin, I.hok, I.len⟩
end

section
variable {X : Cx}

end
end L2
end
section
set_option Elab.async false
set_option linter.all false
set_option maxRecDepth 100000
set_option maxHeartbeats 4000000
namespace L2
open PySem PySem.Spec PyProof.Rows LX

/-! ### lists: + of any two, count of flat items -/
section
variable {X : Cx}
def rCatS (K : PySem.W.Frag) : R2 := fun x y H Q => ∃ l b xs zs, x = .ref l ∧ y = .ref b ∧ SqL K H l xs ∧ SqL K H b zs ∧ xs.length + zs.length ≤ sizeLine ∧ ∀ p, H p = none → Q (.ref p) (upd H p (.lst (xs ++ zs)))
theorem op_catS : OpR X (binaryOp .Add) (rCatS X.K) := by
  intro pins s σ H x y v u Q I rx ry h
  obtain ⟨l, b, xs, zs, rfl, rfl, hx, hy, hz, q⟩ := h
  cases rx
  cases ry
  obtain ⟨vs, r1, ⟨⟨c1, d1, da1, s1⟩, n1, e1, f1, _, g1⟩, _⟩ := I.list hx
  obtain ⟨ws, r2, ⟨⟨c2, d2, da2, s2⟩, n2, e2, f2, _, g2⟩, _⟩ := I.list hy
  simp only at f1 g1 f2 g2
  subst f1 g1 f2 g2
  have hl : vs.length + ws.length ≤ sizeLine := by rw [← r1.length, ← r2.length]; exact hz
  have ea : vs.toArray ++ ws.toArray = (vs ++ ws).toArray := by simp
  refine concat_meets ⟨_, e1, rfl⟩ ⟨_, e2, rfl⟩ noFill_list_add seq_list_add PySem.F.slot_list_add PySem.F.entry_list_add (PySem.F.args_list_add_2 _ _) (list_addW l b vs.toArray ws.toArray n1 n2 d1 d2 s1 s2 (by simpa using hl)) ⟨e1, e2, ?_⟩
  rw [ea]
  exact ⟨.ref _, _, I.lnew (t' := s.toks) (r1.append r2) (by rw [List.length_append]; exact hz), rfl, q _ I.fresh⟩
end
/-! ### what is tracked stays -/
theorem Same.upd {H : Hp} {a : Addr} {o : HO} (h : H a = none) : Same H (L2.upd H a o) := fun b u q => by rw [upd_ne fun e => by rw [e, h] at q; cases q]; exact q

/-! ### the classes of errors that the text has, and HeapError.__init__ -/
/-- a class of errors: its name's address, what the walk asks of it -/
structure ErrC (K : PySem.W.Frag) (C : Addr) : Prop where
  cls : ∃ cd, XCls K C cd
  get : XGet K C
  own : PySem.W.findIn K (.ref C) "__class__" = some (some (.builtin "object.__class__"))
/-- __init__(self, text) of HeapError -/
def spXI (K : PySem.W.Frag) : Sp := fun vs H Q _ => ∃ ea C od x, vs = [.ref ea, x] ∧ H ea = some (exo true C ea od) ∧ (∃ cd, XCls K C cd) ∧ Q .non H
theorem isi_readT {K : PySem.W.Frag} {i : Nat} {σ : St} {H : Hp} {Q : VK} {x : V} {D : String} {t : Value} {b : Bool} (h0 : σ[i]? = some (some x)) (ty : TyX K H x t) (hk : PySem.W.kitOne K t (.type D) = some b) (q : Q (.bl b) H) :
    tCB (rIsiT K) (tCons (tVar i) (tCons (tC (.ty D)) tNil)) σ H Q := ⟨x, h0, x, .ty D, t, b, rfl, ty, ⟨_, rfl⟩, hk, q⟩
/-- a built-in's name as a value -/
theorem pe_ty {X : Cx} {x : Str} {T : String} {pos : Pos} (hg : Gl X x) (hm : X.mg x = none) (hv : bootBuiltins x = some (.type T)) (hn : x ≠ "__name__" := by decide) (hd : (x == ("__debug__" : Str)) = false := by decide) : PE X (.Name x pos) (tC (.ty T)) :=
  fun _ _ _ H _ I h => ld_blt I hg hm hv ⟨.ty T, H, I, rfl, h⟩ hn hd
/-- no exception leaves: calls in a body under nox -/
theorem passN {P : Program} {w : World} {X : Cx} : PassesX (CXE P w) X.nox (fun _ _ _ _ => False) := fun _ _ _ _ _ _ _ ⟨_, _, _, _, _, _, _, _, _, q⟩ => q.elim
theorem log_small {n : Int} (h : n.natAbs < 2 ^ 1920) : n.natAbs.log2 < 1920 := by
  by_cases z : n.natAbs = 0
  · rw [z]; decide
  · exact (Nat.log2_lt z).mpr h
theorem noneE {P : Program} {w : World} {outer : List Env} {H : Hp} {s : Shared} {e : Value} {s' : Shared} (h : CXE P w outer H s (fun _ _ _ => False) e s') : False := by
  obtain ⟨_, _, _, _, _, _, _, _, _, q⟩ := h
  exact q
end L2
end
section
set_option Elab.async false
set_option linter.all false
set_option maxRecDepth 100000
set_option maxHeartbeats 4000000
namespace L2
open PySem PySem.Spec PyProof.Rows LX
/-! ### == of two lists of flat items, as long as one another -/
end L2
end
section
set_option Elab.async false
set_option linter.all false
set_option maxRecDepth 100000
set_option maxHeartbeats 4000000
namespace L2
open PySem PySem.Spec PyProof.Rows LX
/-! ### attributes of an exception -/
section
variable {X : Cx}
variable {o e value : Expr} {f : Str} {pos pos' : Pos} {ta tv : TE}

/-! ### C.f(..): a def of a class, called by the class's name -/

/-! ### e.m() of an exception, whichever its class -/

/-! ### a short text times a small number: some text -/
end
end L2
end
section
set_option Elab.async false
set_option linter.all false
set_option maxRecDepth 100000
set_option maxHeartbeats 4000000
namespace L2
open PySem PySem.Spec PyProof.Rows LX
/-! ### a list comprehension of one clause, its target a name, no test; nothing leaves it -/
theorem compLoop_any {prog : Program} {w : World} {A : Around} {R : Result → Shared → Prop} {s : Shared} {elt target iter : Expr} {scope : Scope} {pos : Pos} {it acc : Value} {env : Env} (I : Nat → Shared → Prop)
    (turn : ∀ n s, I n s → wpAny (model prog w) A (pyNext it) (fun r s₁ => match r with
      | none => R (.ok .next) s₁
      | some v => wpAny (model prog w) A (letOwnedTupleGo target it v) (fun _ s5 => wpAny (model prog w) A (assign target env v) (fun _ s₂ => wpAny (model prog w) A (eval elt env) (fun x s₃ =>
          wpAny (model prog w) A (call (.builtin "list.append") [acc, x]) (fun _ s₄ => ∃ m, m < n ∧ I m s₄) (notedBy (model prog w) A env fun e s' => R (.error e) s') s₃)
          (notedBy (model prog w) A env fun e s' => R (.error e) s') s₂) (notedBy (model prog w) A env fun e s' => R (.error e) s') s5) (notedBy (model prog w) A env fun e s' => R (.error e) s') s₁) (notedBy (model prog w) A env fun e s' => R (.error e) s') s)
    (n : Nat) (h : I n s) : codeAny (model prog w) A (.compLoop (.ListComp elt [⟨target, iter, [], 0⟩] scope pos) 0 it acc env) R s := by
  refine codeAny_loop rfl I (fun n s hI => ?_) n h
  show wpAny _ _ ((compTurn (.ListComp elt [⟨target, iter, [], 0⟩] scope pos) 0 it acc env).onRaise (fun x => do noteFrame x env; theTreesLotGoes x)) _ _ s
  refine wpAny_noted ?_
  rw [compTurn_list1]
  refine wpAny_bind (wpAny_standAt (wpAny_bind (wpAny_mono (turn n s hI) (fun r s₁ h₁ => ?_) fun _ _ h' => h')))
  cases r with
  | none => exact wpAny_pure h₁
  | some v =>
    refine wpAny_bind (wpAny_mono h₁ (fun _ s5 h5 => ?_) fun _ _ h' => h')
    exact wpAny_bind (wpAny_mono h5 (fun _ s₂ h₂ => wpAny_bind (wpAny_bind (wpAny_mono h₂ (fun x s₃ h₃ => wpAny_bind (wpAny_mono h₃
      (fun _ s₄ h₄ => wpAny_pure (wpAny_pure ⟨rfl, h₄⟩)) fun _ _ h' => h')) fun _ _ h' => h'))) fun _ _ h' => h')

/-- the block's context -/
abbrev cxC (X : Cx) (scope : Scope) (cl : List (Str × Addr)) (NC : List Str) (C : Addr) (fp : List Addr) (s₀ : Shared) (H₀ : Hp) : Cx :=
  { X with N := NC, s₀ := s₀, H₀ := H₀, env := compEnvC scope cl C X.env, outer := X.stack, ex := fp, fn := fun _ => false, pn := [], xe := fun _ _ => False }
def caps (σ : St) (idx : List Nat) : St := idx.map fun i => (σ[i]?).getD none
/-- what the block's scope has: its own name, and those of the def that it reads -/
structure CompOk (X : Cx) (scope : Scope) (cl : List (Str × Addr)) (x : Str) (idx : List Nat) (NC : List Str) : Prop where
  clos : closureFor scope X.env = pure cl
  sub : ∀ y c, cl.lookup y = some c → X.env.cells.lookup y = some c
  has : ∀ y, ((relabel scope X.env).names.lookup y = some .cell ∨ (relabel scope X.env).names.lookup y = some .free) → ∃ c, cl.lookup y = some c
  nocell : ∀ y ∈ scope.names, y.2 ≠ .cell
  kind : scope.kind = .function
  loc : ∀ y ∈ scope.names, y.2 = .local → scope.names.lookup y.1 = some .local
  xl : scope.names.lookup x = some .local
  nc : NC = x :: idx.map fun i => X.N.getD i x
  nd : NC.Nodup
  cap : ∀ i ∈ idx, i < X.N.length ∧ ((X.env.scope.names.lookup (X.N.getD i x) = some .cell ∨ X.env.scope.names.lookup (X.N.getD i x) = some .free) ∧ ((relabel scope X.env).names.lookup (X.N.getD i x) = some .cell ∨ (relabel scope X.env).names.lookup (X.N.getD i x) = some .free))
section
variable {X : Cx} {scope : Scope} {cl : List (Str × Addr)} {x : Str} {idx : List Nat} {NC : List Str} {C : Addr} {fp : List Addr} {pins : List (Addr × Obj)} {σ : St} {H : Hp} {s : Shared}
theorem inv_comp {h1 : Heap} {t' : Nat} (c : CompOk X scope cl x idx NC) (I : Inv X pins σ H s) (hf : ∀ b ∈ fp, FpOk X pins H b) (hlt : ∀ b ∈ fp, b < s.heap.objs.size) (ns : h1.Ns s.heap.objs.size (fun _ => none))
    (k : ∀ b o, s.heap.get? b = some o → h1.get? b = some o) : Inv (cxC X scope cl NC s.heap.objs.size fp s H) [] (none :: caps σ idx) H { s with heap := h1, toks := t' } := by
  have sub : ∀ b, b ∈ frs X.stack → b ∈ X.env.locals :: X.fs := I.stkSub
  refine ⟨⟨I.ok.mod, c.kind, I.ok.glob, I.ok.blt, Nat.le_refl _, fun y z a h1 h2 => I.ok.inj y z a (c.sub _ _ h1) (c.sub _ _ h2), c.has, fun y a z => (by cases z), I.ok.hd, I.ok.frames, .inl rfl, fun b hb => ⟨Nat.ne_of_lt (hlt b hb), fun y a q => (hf b hb).2.2.2.2.1 y a (c.sub _ _ q)⟩,
    fun b o q => I.bs b o q, Nat.le_trans I.ok.bsz I.sz, fun b o q hb => ?_, fun b hb z => ?_, I.stack, I.stkFree⟩, rfl, I.bare, Un.kept k, ⟨_, ns, fun i y v e1 e2 e3 => ?_⟩, fun y a q => ?_, I.hok.fresh (Nat.le_refl _), fun y a q => I.freeC _ _ (c.sub _ _ q), fun p hp => (by cases hp), I.hok.keeps fun b u o _ q => k b o q, ?_⟩
  · rcases (hf b hb).2.2.2.1 with z | z
    · exact I.ok.noex b o q z
    · exact absurd (Nat.lt_of_lt_of_le (Heap.lt_size (I.ok.bs b o q).1) z) (Nat.lt_irrefl _)
  · rcases List.mem_cons.mp (sub b z) with r | r
    · exact (hf b hb).2.1 r
    · exact (hf b hb).2.2.1 r
  · cases i with
    | zero => cases e2
    | succ j =>
      have e1' : (idx.map fun i => X.N.getD i x)[j]? = some y := by
        have : (cxC X scope cl NC s.heap.objs.size fp s H).N = NC := rfl
        rw [this, c.nc] at e1
        exact e1
      have e2' : (caps σ idx)[j]? = some (some v) := e2
      rw [List.getElem?_map] at e1'
      unfold caps at e2'
      rw [List.getElem?_map] at e2'
      cases ei : idx[j]? with
      | none => rw [ei] at e1'; cases e1'
      | some i =>
        rw [ei] at e1' e2'
        simp only [Option.map_some, Option.some.injEq] at e1' e2'
        obtain ⟨hi, h2, h3⟩ := c.cap i (List.mem_of_getElem? ei)
        rw [e1'] at h2 h3
        have hN : X.N[i]? = some y := by
          rw [← e1']
          simp [List.getD, List.getElem?_eq_getElem hi]
        have hσ : σ[i]? = some (some v) := by
          cases q : σ[i]? with
          | none => rw [q] at e2'; cases e2'
          | some o => rw [q] at e2'; simp only [Option.getD_some] at e2'; rw [e2']
        obtain ⟨m, hn, hl⟩ := I.loc
        obtain ⟨u, r, l⟩ := hl i y v hN hσ (h2.elim (fun z => .inr (.inl z)) fun z => .inr (.inr z))
        refine ⟨u, r, .inr ⟨h3, ?_⟩⟩
        rcases l with ⟨l, _⟩ | ⟨_, a, ha, hc⟩
        · exfalso
          have l' : X.env.scope.names.lookup y = some .local := l
          rcases h2 with z | z <;> (rw [l'] at z; cases z)
        · obtain ⟨a', ha'⟩ := c.has y h3
          have := c.sub _ _ ha'
          rw [ha] at this
          cases this
          exact ⟨a, ha', hc.keeps k⟩
  · obtain ⟨v, z⟩ := I.cell _ _ (c.sub _ _ q)
    exact ⟨v, z.keeps k⟩
  · show _ = NC.length
    rw [c.nc]
    simp [caps]
/-- the list at D grows by an item a turn -/
def CompTo (J : It) (D : Addr) (τ : St) (te : TE) (Q : VK) (H : Hp) : Prop := ∃ W : Nat → Nat → List V → Hp → Prop, (∃ m, W 0 m [] H) ∧ ∀ i m ys H2, W i m ys H2 → H2 D = some (.lst ys) ∧
  ((J.stop i H2 ∧ Q (.ref D) H2) ∨ (J.go i H2 ∧ ys.length < sizeLine ∧ ∃ N : List V → Hp → Prop, (∀ zs H', N zs H' → ∃ m', m' < m ∧ W (i + 1) m' zs H') ∧ ∀ y H3, J.yld i H2 y H3 → te (some y :: τ) H3 fun v H4 => H4 D = some (.lst ys) ∧ N (ys ++ [v]) (upd H4 D (.lst (ys ++ [v])))))
def tComp (wi : TI) (idx : List Nat) (te : TE) : TE := fun σ H Q => wi σ H fun J H1 => ∀ D, H1 D = none → CompTo J D (caps σ idx) te Q (upd H1 D (.lst []))
theorem appended {X : Cx} {pins : List (Addr × Obj)} {σ : St} {H : Hp} {s : Shared} {D : Addr} {ys : List V} {v : V} {u : Value} (I : Inv X pins σ H s) (h : H D = some (.lst ys)) (hz : ys.length < sizeLine) (r : RelV v u) :
    wpAny (model X.prog X.w) X.A (call (.builtin "list.append") [.ref D, u]) (fun _ s' => Inv X pins σ (upd H D (.lst (ys ++ [v]))) s') X.xe s := by
  refine thn (mt_append pins s σ H (.ref D) [v] (.ref D) [u] (fun _ H' => H' = upd H D (.lst (ys ++ [v]))) I rfl (.cons r .nil) ⟨D, ys, v, rfl, rfl, h, hz, rfl⟩) fun w s' ⟨_, H', I', _, e⟩ => ?_
  rw [← e]
  exact I'
theorem pe_comp {elt iter : Expr} {px pos : Pos} {wi : TI} {te : TE} (c : CompOk X scope cl x idx NC) (hc : X.calm = true) (hi : PI X (.Name x px) iter wi) (he : ∀ C fp s₀ H₀, PE (cxC X scope cl NC C fp s₀ H₀) elt te)
    (hs : ∀ x, foldedSetIterable iter X.env x = pure x := by intro _; rfl) : PE X (.ListComp elt [⟨.Name x px, iter, [], 0⟩] scope pos) (tComp wi idx te) := by
  intro pins s σ H Q I h
  rw [eval_ListComp]
  refine wpAny_comprehension_free (use := none) rfl hs c.clos c.kind c.loc (thn (hi pins s σ H _ I h) fun v s1 h1 => thn h1 fun itv s2 h2 => ?_)
  obtain ⟨it, fp, tn, J, H2, rfl, I2, T, st2, f2, q⟩ := h2
  refine wpAny_newObj_type (wpAny_newFunctionEnv c.nocell (by intro y hy; simp at hy) (fun h₁ hns₁ hsb₁ => ?_) c.kind)
  dsimp only at hns₁ hsb₁ ⊢
  have I3 : Inv X pins σ (upd H2 s2.heap.objs.size (.lst [])) { s2 with heap := s2.heap.push { cls := .type "list", data := .seq ([] : List Value).toArray }, toks := s2.toks } := I2.lnew (ys := []) (its := []) .nil (Nat.zero_le _)
  obtain ⟨W, ⟨m0, w0⟩, turn⟩ := q s2.heap.objs.size I2.fresh
  generalize hD : s2.heap.objs.size = D at *
  generalize hH : s2.heap.push { cls := .type "list", data := .seq ([] : List Value).toArray } = h3 at *
  have hlt2 : ∀ b ∈ fp, b < D := fun b hb => by
    obtain ⟨o, e, _⟩ := T.obj _ _ st2 b hb
    rw [← hD]
    exact Heap.lt_size e
  have hlt : ∀ b ∈ fp, b < h3.objs.size := fun b hb => by
    rw [← hH, Heap.size_push, hD]
    exact Nat.lt_succ_of_lt (hlt2 b hb)
  have hf : ∀ b ∈ fp, FpOk X pins (upd H2 D (.lst [])) b := fun b hb => ⟨by rw [upd_ne (Nat.ne_of_lt (hlt2 b hb))]; exact (f2 b hb).1, (f2 b hb).2⟩
  have kp : ∀ b o, h3.get? b = some o → h₁.get? b = some o := fun b o e => hsb₁.extBut b o (Nat.ne_of_lt (Heap.lt_size e)) (Heap.get?_push_of_some _ e)
  have I4 : Inv (cxC X scope cl NC h3.objs.size fp { s2 with heap := h3, toks := s2.toks } (upd H2 D (.lst []))) [] (none :: caps σ idx) (upd H2 D (.lst [])) { s2 with heap := h₁, toks := s2.toks + ([] : List (Str × Value)).length } :=
    inv_comp (s := { s2 with heap := h3, toks := s2.toks }) c I3 hf hlt hns₁ kp
  have stat : ∀ {H' : Hp}, (∀ b ∈ fp, H' b = none) → ∀ b ∈ fp, FpOk (cxC X scope cl NC h3.objs.size fp { s2 with heap := h3, toks := s2.toks } (upd H2 D (.lst []))) [] H' b := fun hn b hb =>
    ⟨hn b hb, Nat.ne_of_lt (hlt b hb), fun z => (List.mem_cons.mp (I3.stkSub b z)).elim (hf b hb).2.1 (hf b hb).2.2.1, .inl hb, fun y a q => (hf b hb).2.2.2.2.1 y a (c.sub _ _ q), fun p hp => (by cases hp)⟩
  have st1 : tn 0 h₁ := T.keep 0 _ _ st2 fun b hb o e => kp b o (by rw [← hH]; exact Heap.get?_push_of_some _ e)
  have loop : ∀ s4 : Shared, s4 = { s2 with heap := h₁, toks := s2.toks + ([] : List (Str × Value)).length } →
      codeAny (model X.prog X.w) X.A (.compLoop (.ListComp elt [⟨.Name x px, iter, [], 0⟩] scope pos) 0 (.ref it) (.ref D) (compEnvC scope cl h3.objs.size X.env)) (compPost (model X.prog X.w) X.A X.xe none (EP X pins σ Q) (.ref D) h3.objs.size) s4 := by
    rintro s4 rfl
    refine compLoop_any (fun n s' => ∃ i ys H' v0, Inv (cxC X scope cl NC h3.objs.size fp { s2 with heap := h3, toks := s2.toks } (upd H2 D (.lst []))) [] (v0 :: caps σ idx) H' s' ∧ tn i s'.heap ∧ (∀ b ∈ fp, H' b = none) ∧ W i n ys H')
      ?_ m0 ⟨0, [], _, none, I4, st1, fun b hb => (hf b hb).1, w0⟩
    rintro n s5 ⟨i, ys, H5, v0, I5, st5, fr5, w5⟩
    obtain ⟨hDl, alt⟩ := turn i n ys H5 w5
    rcases alt with ⟨stop, qn⟩ | ⟨go, hz, N, hN, step⟩
    · refine thn (T.done (cxC X scope cl NC h3.objs.size fp { s2 with heap := h3, toks := s2.toks } (upd H2 D (.lst []))) rfl rfl rfl hc i [] s5 _ H5 _ I5 (stat fr5) st5 stop) fun r s6 ⟨hr, I6⟩ => ?_
      subst hr
      obtain ⟨m, ns6, _⟩ := id I6.loc
      refine ⟨m, ns6, fun h' hs' => ⟨.ref D, H5, ?_, rfl, qn⟩⟩
      have J6 : Inv X pins σ H5 s6 := I3.call' (ch := fp) I6.os I6.base I6.hok I6.bare fun b hb => ⟨(hf b hb).2.2.2.1, (hf b hb).2.1, (hf b hb).2.2.2.2.1, (hf b hb).2.2.2.2.2⟩
      refine J6.turned (t' := s6.toks) (it := h3.objs.size) (fun b o hb e => hs'.extBut b o hb e) I6.free (Nat.ne_of_gt I3.lt) (.inr I3.sz) (fun y a q z => ?_) (fun p hp z => ?_)
      · obtain ⟨v, q'⟩ := I3.cell y a q
        exact absurd q'.lt (by rw [z]; exact Nat.lt_irrefl _)
      · exact absurd (Heap.lt_size (I3.pin p hp).1) (by rw [z]; exact Nat.lt_irrefl _)
    · refine thn (T.item (cxC X scope cl NC h3.objs.size fp { s2 with heap := h3, toks := s2.toks } (upd H2 D (.lst []))) rfl rfl rfl hc i [] s5 _ H5 _ I5 (stat fr5) st5 go) fun r s6 ⟨u, hr, h6⟩ => ?_
      subst hr
      refine thn h6 fun _ s7 ⟨y, H7, I7, r7, y7, st7, fr7⟩ => ?_
      have I7' := I7.pinned (stat fr7) (T.obj _ _ st7)
      have hnl : (relabel scope X.env).names.lookup x = some .local := lookup_relabel_local c.xl
      refine wpAny_mono (pg_name (X := cxC X scope cl NC h3.objs.size fp { s2 with heap := h3, toks := s2.toks } (upd H2 D (.lst []))) (i := 0) (x := x) (pos := px) c.nd (by show NC[0]? = some x; rw [c.nc]; rfl) (.inl hnl) (.inr hnl) _ s7 _ H7 y u
        (fun σ' H' => σ' = some y :: caps σ idx ∧ H' = H7) I7' r7 ⟨rfl, rfl⟩) (fun _ s8 ⟨σ8, H8, I8, e8, e8'⟩ => ?_) fun _ _ z => z.elim
      subst e8 e8'
      refine wpAny_mono (he _ _ _ _ _ s8 _ H8 _ I8 (step y H8 y7)) (fun w s9 ⟨v, H9, I9, r9, hD9, n9⟩ => ?_) fun _ _ z => z.elim
      obtain ⟨m', hm, w9⟩ := hN _ _ n9
      refine wpAny_mono (appended (X := (cxC X scope cl NC h3.objs.size fp { s2 with heap := h3, toks := s2.toks } (upd H2 D (.lst [])))) I9 hD9 hz r9) (fun _ s10 I10 => ?_) fun _ _ z => z.elim
      refine ⟨m', hm, i + 1, ys ++ [v], _, some y, I10.unpinned, T.keep _ _ _ st7 fun b hb o e => (I10.pin (b, o) (List.mem_append_right _ (List.mem_append_right _ (mem_pinsAt hb e)))).1, fun b hb => ?_, w9⟩
      obtain ⟨o, e, d⟩ := T.obj _ _ st7 b hb
      exact (I10.pin (b, o) (List.mem_append_right _ (List.mem_append_right _ (mem_pinsAt hb e)))).2.1
  exact codeAny_compStart_list (loop _ rfl) (T.self _ 0 _ _ _ st1 (loop _ rfl))
end
end L2
end
section
set_option Elab.async false
set_option linter.all false
set_option maxRecDepth 100000
set_option maxHeartbeats 4000000
namespace L2
open PySem PySem.Spec PyProof.Rows LX
section
variable {X : Cx}
/-! ### all of a list of bools -/
theorem bools_of : ∀ {bs : List Bool} {us : List Value}, Vals (bs.map V.bl) us → us = bs.map Value.bool
  | [], _, .nil => rfl
  | b :: r, _, .cons h t => by
    cases h
    rw [bools_of t]
    rfl
def rAll (K : PySem.W.Frag) : List V → Hp → VK → Prop := fun vs H Q => ∃ (p : Addr) (bs : List Bool), vs = [.ref p] ∧ SqL K H p (bs.map V.bl) ∧ Q (.bl (bs.all id)) H
theorem call_all (hc : X.calm = true) : CallR X (.builtin "all") (rAll X.K) := by
  rintro pins s σ H xs us Q I r ⟨p, bs, rfl, hq, q⟩
  obtain ⟨u, rfl, ru⟩ := r.one
  cases (show u = Value.ref p from ru)
  obtain ⟨its, rv, ⟨o, n, e1, e2, e3, e4⟩, hz⟩ := I.list hq
  have e := bools_of rv
  have hl : s.heap.IsList p (bs.map Value.bool).toArray := by
    rw [← e]
    exact ⟨o, e1, e2, n, e4⟩
  have hlt : p < s.heap.objs.size := Heap.lt_size e1
  refine call_all_walk (wpAny_pyIter_list hl ?_)
  refine ⟨s.heap.objs.size, [s.heap.objs.size, p], [s.heap.objs.size], (bs.map Value.bool).toArray.size, _, _, fun i => (bs[i]?).getD true, rfl, Walks.list (A := X.A.in1) (I.ok.hd hc) _ p (Nat.ne_of_lt hlt) _,
    ⟨⟨_, Heap.get?_push_size _ rfl, rfl, rfl⟩, hl.push _⟩, fun i v s' Q' E' hP hQ => ?_, fun h' tk hk => ?_⟩
  · simp only [List.getElem?_toArray, List.getElem?_map] at hP
    cases eb : bs[i]? with
    | none => rw [eb] at hP; cases hP
    | some b =>
      rw [eb] at hP
      cases hP
      simp only [eb, Option.getD_some] at hQ
      exact wpAny_truthy_bool hQ
  · have e : ((List.range (bs.map Value.bool).toArray.size).all fun i => (bs[i]?).getD true) = bs.all id := by
      rw [List.size_toArray, List.length_map]
      exact LSm.range_all bs
    rw [e]
    refine ⟨.bl _, H, I.kept (t' := tk) fun b x q => hk b x (fun hm => ?_) (Heap.get?_push_of_some _ q), rfl, q⟩
    rw [List.mem_singleton.mp hm] at q
    exact Nat.lt_irrefl _ (Heap.lt_size q)
/-! ### a comprehension with one test -/
variable {scope : Scope} {cl : List (Str × Addr)} {x : Str} {idx : List Nat} {NC : List Str} {C : Addr} {fp : List Addr} {pins : List (Addr × Obj)} {σ : St} {H : Hp} {s : Shared}
end
end L2
end
section
set_option Elab.async false
set_option linter.all false
set_option maxRecDepth 100000
set_option maxHeartbeats 4000000
namespace L2
open PySem PySem.Spec PyProof.Rows LX
/-! ### enumerate of a list, unpacked -/
def Ite (K : PySem.W.Frag) (a : Addr) : It :=
  ⟨fun i H => ∃ xs x, SqL K H a xs ∧ xs[i]? = some x, fun i H y H' => ∃ t x, H t = none ∧ y = .ref t ∧ (∀ xs, SqL K H a xs → xs[i]? = some x) ∧ H' = upd H t (.tup [.int (i : Int), x]), fun i H => ∃ xs, SqL K H a xs ∧ xs.length ≤ i⟩
theorem turn_enum {P : Program} {w : World} {K : PySem.W.Frag} {es : List Expr} {x1 : Nat} {pos : Pos} (a it e : Addr) (hne : e ≠ it) :
    Turn P w K (.Tuple es x1 pos) (Ite K a) [e, it] e (fun i h => ∃ old, IsEnum h e it i old ∧ h.IsListIter it a i) where
  mem := by simp
  obj := fun i h st b hb => by
    obtain ⟨old, h1, o, q, c, d⟩ := st
    rcases List.mem_cons.mp hb with z | z
    · rw [z]
      exact ⟨_, h1, fun v z => by
        have z' : Data.fields _ = Data.cell v := z
        cases z'⟩
    · rw [List.mem_singleton.mp z]
      exact ⟨o, q, fun v z => by rw [d] at z; cases z⟩
  keep := fun i h h' st k => by
    obtain ⟨old, h1, h2⟩ := st
    exact ⟨old, k e (by simp) _ h1, h2.at fun o q => k it (by simp) o q⟩
  item := by
    intro X hP hw hK hc i pins s σ H E I hf st hg
    subst hP hw hK
    obtain ⟨xs, x, hq, hx⟩ := hg
    obtain ⟨its, rv, p, hz⟩ := I.list hq
    obtain ⟨u, hu, ru⟩ := rv.get hx
    obtain ⟨old, he, hit⟩ := st
    have fr : H s.heap.objs.size = none := I.hok.fresh (Nat.le_refl _)
    refine wpAny_pyNext_enum_item he hit p.isList (x := u) (by simpa using hu) hne fun h1 heo hit1 ht1 hz1 hk1 => ⟨_, rfl, wpAny_letOwnedTupleGo_enum heo fun h2 he2 hs2 => ?_⟩
    replace hs2 : Heap.SameBut e h1 h2 := hs2
    have hel : e < s.heap.objs.size := Heap.lt_size he
    have k2 : ∀ b o, b ≠ e → b ≠ it → s.heap.get? b = some o → h2.get? b = some o := fun b o z1 z2 q => (hs2.2 b z1).trans (hk1 b o z1 z2 q)
    have ht2 : h2.get? s.heap.objs.size = some { cls := .type "tuple", data := .seq #[.int i s.toks, u] } := (hs2.2 _ (Nat.ne_of_gt hel)).trans ht1
    have hit2 : h2.IsListIter it a (i + 1) := hit1.extBut hs2.extBut (Ne.symm hne)
    have nt : ∀ b o, s.heap.get? b = some o → b ≠ s.heap.objs.size := fun b o q => Nat.ne_of_lt (Heap.lt_size q)
    have nh : ∀ b v, H b = some v → b ≠ s.heap.objs.size := fun b v q => ne_of_none q fr
    have ne' : ∀ b v, H b = some v → b ≠ e ∧ b ≠ it := fun b v q => ⟨ne_of_none q (hf e (by simp)).1, ne_of_none q (hf it (by simp)).1⟩
    refine ⟨.ref s.heap.objs.size, upd H s.heap.objs.size (.tup [.int (i : Int), x]), ?_, rfl, ⟨_, x, fr, rfl, fun ys hy => by rw [I.list_inj hy hq]; exact hx, rfl⟩, ⟨_, he2, hit2⟩, fun b hb => ?_⟩
    · refine Inv.step (s := s) (h' := h2) (t' := s.toks + 1) (H := H) (g' := s.gens) (d' := s.drawn) (ch := [e, it]) I (fun b hb => ⟨(hf b hb).2.2.2.1, (hf b hb).2.1, (hf b hb).2.2.2.2.1, (hf b hb).2.2.2.2.2⟩)
        (fun b o _ _ z q _ => k2 b o (fun y => z (by simp [y])) (fun y => z (by simp [y])) q) (fun b o _ _ z q _ => ⟨o.slots, k2 b o (fun y => z (by simp [y])) (fun y => z (by simp [y])) q⟩)
        (fun b o _ q n => by rw [upd_ne (nt b o q)]; exact n) (fun b o z q => ⟨o, k2 b o (fun y => z (by simp [y])) (fun y => z (by simp [y])) q⟩)
        (fun b xs q => by rw [upd_ne (nh b _ q)]; exact q) (fun b o v q => by rw [upd_ne (nh b _ q)]; exact q) (fun b ps q => ⟨#[], by rw [upd_ne (nh b _ q), q]; simp⟩) (fun m hm => ?_) (fun b v q => ?_) I.bare
      · obtain ⟨o, es', ep, ho, r⟩ := hm
        exact ⟨o, es', ep, k2 _ o (Ne.symm (hf e (by simp)).2.1) (Ne.symm (hf it (by simp)).2.1) ho, r⟩
      · by_cases z : b = s.heap.objs.size
        · subst z
          rw [upd_same] at q
          cases q
          exact ⟨by show 2 ≤ sizeLine; decide, [.int i s.toks, u], .cons ⟨_, rfl⟩ (.cons ru .nil), _, ht2, rfl, _, rfl⟩
        · rw [upd_ne z] at q
          refine (I.hok b v q).stay (fun c o hc w => ?_) (fun c w => by rw [upd_ne (nh c _ w)]; exact w) fun c xs w => by rw [upd_ne (nh c _ w)]; exact w
          rcases hc with y | y
          · rw [y] at w ⊢
            exact k2 b o (ne' b v q).1 (ne' b v q).2 w
          · exact k2 c o (ne' c _ y).1 (ne' c _ y).2 w
    · have hb' : b < s.heap.objs.size := by
        rcases List.mem_cons.mp hb with z | z
        · rw [z]; exact hel
        · rw [List.mem_singleton.mp z]
          obtain ⟨o, q, _⟩ := hit
          exact Heap.lt_size q
      rw [upd_ne (Nat.ne_of_lt hb')]
      exact (hf b hb).1
  done := by
    intro X hP hw hK hc i pins s σ H E I hf st hg
    subst hP hw hK
    obtain ⟨xs, hq, hx⟩ := hg
    obtain ⟨its, rv, p, hz⟩ := I.list hq
    obtain ⟨f0, f1, f2, f3, f4, f5⟩ := hf it (by simp)
    have hl := rv.length
    obtain ⟨old, he, hit⟩ := st
    exact wpAny_pyNext_enum_end (I.ok.hd hc) he hit p.isList (by simp; omega) fun h' eb => ⟨rfl, I.turned (t' := s.toks) (fun b o hb q => eb b o hb q) f0 f1 f3 f4 f5⟩
  self := fun A i s Q E st h => by
    obtain ⟨old, he, hit⟩ := st
    exact wpAny_pyIter_enum he h
section
variable {X : Cx} {es : List Expr} {x1 : Nat} {tp : Pos}
def iEnum (K : PySem.W.Frag) (ta : TA) : TI := fun σ H R => ta σ H fun vs H1 => ∃ a, vs = [.ref a] ∧ (∃ xs, SqL K H1 a xs) ∧ R (Ite K a) H1
theorem pi_enum {a : Expr} {ta : TA} {p pos : Pos} (hg : Gl X "enumerate") (hm : X.mg "enumerate" = none) (ha : PA X [a] ta) (hs : starEach [a] X.env = [(false, eval a X.env)] := by rfl) : PI X (.Tuple es x1 tp) (.Call (.Name "enumerate" p) [a] [] pos) (iEnum X.K ta) := by
  intro pins s σ H R I h
  refine Call_ (ld_blt I hg hm PyProof.Rows.Boot.«enumerate» (PyProof.Rows.callWith_type1 (thn (ha pos pins s σ H _ I h) fun us s1 ⟨vs, H1, I1, r1, q1⟩ => ?_) hs rfl))
  obtain ⟨l, e, ⟨xs, hq⟩, q⟩ := q1
  subst e
  cases r1 with
  | cons r rr =>
    cases rr
    cases r
    obtain ⟨its, rv, pl, hz⟩ := I1.list hq
    refine call_enumerate_list pl.isList fun h' he hit hsz hk => ?_
    refine wpAny_pyIter_enum he ?_
    refine ⟨s1.heap.objs.size + 1, [s1.heap.objs.size + 1, s1.heap.objs.size], _, _, H1, rfl, I1.kept (t' := s1.toks) hk, turn_enum l s1.heap.objs.size (s1.heap.objs.size + 1) (Nat.succ_ne_self _), ⟨_, he, hit⟩, fun b hb => ?_, q⟩
    have hb' : s1.heap.objs.size ≤ b := by
      rcases List.mem_cons.mp hb with z | z
      · rw [z]; exact Nat.le_succ _
      · rw [List.mem_singleton.mp z]
        exact Nat.le_refl _
    exact I1.fpOk hb' (I1.hok.fresh hb')
end
/-- over a list that the body leaves as it is, by pairs -/
theorem for_enum {K : PySem.W.Frag} {a : Addr} {xs : List V} {g : TG} {tb : TS} {D : Ends} {σ : St} {H : Hp} (Pv : Nat → St → Hp → Prop) (h0 : Pv 0 σ H) (hl : ∀ i σ H, i ≤ xs.length → Pv i σ H → SqL K H a xs)
    (hs : ∀ i x σ H t, xs[i]? = some x → Pv i σ H → H t = none → g (.ref t) σ (upd H t (.tup [.int (i : Int), x])) fun σ2 H2 => tb { D with nx := Pv (i + 1), ct := Pv (i + 1), bk := D.nx } σ2 H2) (hd : ∀ σ H, Pv xs.length σ H → D.nx σ H) :
    ∃ W : Nat → Nat → St → Hp → Prop, (∃ m, W 0 m σ H) ∧ ∀ i m σ H, W i m σ H →
      ((Ite K a).stop i H ∧ D.nx σ H) ∨ ((Ite K a).go i H ∧ ∃ N : St → Hp → Prop, (∀ σ' H', N σ' H' → ∃ m', m' < m ∧ W (i + 1) m' σ' H') ∧ ∀ x H', (Ite K a).yld i H x H' → g x σ H' fun σ2 H2 => tb { D with nx := N, ct := N, bk := D.nx } σ2 H2) := by
  refine ⟨fun i m σ H => m = xs.length - i ∧ i ≤ xs.length ∧ Pv i σ H, ⟨xs.length, by simp, Nat.zero_le _, h0⟩, ?_⟩
  rintro i m σ H ⟨rfl, hi, p⟩
  by_cases hlt : i < xs.length
  · refine .inr ⟨⟨xs, xs[i], hl i σ H hi p, List.getElem?_eq_getElem hlt⟩, Pv (i + 1), fun σ' H' p' => ⟨xs.length - (i + 1), by omega, rfl, hlt, p'⟩, fun x H' y => ?_⟩
    obtain ⟨t, v, e1, e2, e3, e4⟩ := y
    subst e2 e4
    exact hs i v σ H t (e3 xs (hl i σ H hi p)) p e1
  · have e : i = xs.length := by omega
    subst e
    exact .inl ⟨⟨xs, hl _ σ H hi p, Nat.le_refl _⟩, hd σ H p⟩
end L2
namespace L2
open PySem
theorem comp_range {lo : Int} {n : Nat} {te : TE} {Q : VK} {D : Addr} {τ : St} {H : Hp} (Pv : Nat → List V → Hp → Prop) (h0 : Pv 0 [] H) (hD : ∀ i ys H, i ≤ n → Pv i ys H → H D = some (.lst ys) ∧ ys.length = i) (hn : n ≤ sizeLine)
    (hs : ∀ i ys H, i < n → Pv i ys H → te (some (.int (lo + i)) :: τ) H fun v H4 => H4 D = some (.lst ys) ∧ Pv (i + 1) (ys ++ [v]) (upd H4 D (.lst (ys ++ [v])))) (hd : ∀ ys H, Pv n ys H → Q (.ref D) H) : CompTo (Itr lo n) D τ te Q H := by
  refine ⟨fun i m ys H => m = n - i ∧ i ≤ n ∧ Pv i ys H, ⟨n, by simp, Nat.zero_le _, h0⟩, ?_⟩
  rintro i m ys H2 ⟨rfl, hi, p⟩
  obtain ⟨hd1, hd2⟩ := hD i ys H2 hi p
  refine ⟨hd1, ?_⟩
  by_cases hlt : i < n
  · refine .inr ⟨hlt, by omega, Pv (i + 1), fun zs H' p' => ⟨n - (i + 1), by omega, rfl, hlt, p'⟩, fun y H3 e => ?_⟩
    obtain ⟨e1, e2⟩ := e
    subst e1 e2
    exact hs i ys _ hlt p
  · have e : i = n := by omega
    subst e
    exact .inl ⟨Nat.le_refl _, hd ys H2 p⟩
end L2
end
section
set_option Elab.async false
set_option linter.all false
set_option maxRecDepth 100000
set_option maxHeartbeats 4000000
namespace L2
open PySem PySem.Spec PyProof.Rows LX
/-! ### CompOk by what can be looked up -/
def relN (sc : Scope) (names : List (Str × NameKind)) : List (Str × NameKind) := names.map fun (n, k) => if (k == .free && sc.kind == .function && sc.names.lookup n == some .cell) then (n, .cell) else (n, k)
def CompP (sc scope : Scope) (x : Str) (ns N : List Str) (idx : List Nat) : Prop :=
  (∀ y ∈ scope.names, y.2 ≠ .cell) ∧ (∀ y ∈ scope.names, y.2 = .local → scope.names.lookup y.1 = some .local) ∧ scope.names.lookup x = some .local ∧ (∀ p ∈ relN sc scope.names, p.2 = .cell ∨ p.2 = .free → p.1 ∈ ns) ∧ (x :: idx.map fun i => N.getD i x).Nodup ∧
  ∀ i ∈ idx, i < N.length ∧ ((sc.names.lookup (N.getD i x) = some .cell ∨ sc.names.lookup (N.getD i x) = some .free) ∧ ((relN sc scope.names).lookup (N.getD i x) = some .cell ∨ (relN sc scope.names).lookup (N.getD i x) = some .free))
instance (sc scope : Scope) (x : Str) (ns N : List Str) (idx : List Nat) : Decidable (CompP sc scope x ns N idx) := by unfold CompP; infer_instance
theorem some_of_mem {y : Str} : ∀ {cl : List (Str × Addr)}, y ∈ cl.map (·.1) → ∃ c, cl.lookup y = some c
  | [], h => by simp at h
  | (n, c) :: r, h => by
    by_cases e : y = n
    · exact ⟨c, by simp [List.lookup, e]⟩
    · have h' : y ∈ r.map (·.1) := by
        rw [List.map_cons] at h
        rcases List.mem_cons.mp h with z | z
        · exact absurd z e
        · exact z
      obtain ⟨c', q⟩ := some_of_mem h'
      have hb : (y == n) = false := beq_eq_false_iff_ne.mpr e
      exact ⟨c', by simp only [List.lookup, hb]; exact q⟩
theorem comp_ok {X : Cx} {sc scope : Scope} {cl : List (Str × Addr)} {x : Str} {ns N : List Str} {idx : List Nat} (hsc : X.env.scope = sc) (hN : X.N = N) (hk : scope.kind = .function) (p : CompP sc scope x ns N idx) (hn : cl.map (·.1) = ns)
    (hclos : closureFor scope X.env = pure cl) (hsub : ∀ q ∈ cl, X.env.cells.lookup q.1 = some q.2) : CompOk X scope cl x idx (x :: idx.map fun i => N.getD i x) := by
  obtain ⟨p1, p2, p3, p4, p5, p6⟩ := p
  have re : (relabel scope X.env).names = relN sc scope.names := by subst hsc; rfl
  subst hsc hN hn
  refine ⟨hclos, fun y c q => hsub (y, c) (PySem.mem_of_lookup q), fun y h => ?_, p1, hk, p2, p3, rfl, p5, fun i hi => ?_⟩
  · rw [re] at h
    refine some_of_mem ?_
    rcases h with h | h
    · exact p4 (y, .cell) (PySem.mem_of_lookup h) (.inl rfl)
    · exact p4 (y, .free) (PySem.mem_of_lookup h) (.inr rfl)
  · rw [re]
    exact p6 i hi
/-- a call out of which nothing comes -/
theorem passF {P : Program} {w : World} {X : Cx} : PassesX (CXE P w) X (fun _ _ _ _ => False) := fun _ _ _ _ _ _ _ ⟨_, _, _, _, _, _, _, _, _, q⟩ => q.elim
end L2
end
section
set_option Elab.async false
set_option linter.all false
set_option maxRecDepth 100000
set_option maxHeartbeats 4000000
namespace L2
open PySem PySem.Spec PyProof.Rows LX
section
variable {X : Cx} {scope : Scope} {cl : List (Str × Addr)} {x : Str} {idx : List Nat} {NC : List Str} {pins : List (Addr × Obj)} {σ : St} {H : Hp} {s : Shared}
/-! ### name = [comprehension]: the store comes ahead of the going of the block's names -/
theorem ps_comp {i : Nat} {y : Str} {elt iter : Expr} {px py pos spos : Pos} {wi : TI} {te : TE} (hN : X.N.Nodup) (hi' : X.N[i]? = some y) (hx : X.env.scope.names.lookup y = some .local) (c : CompOk X scope cl x idx NC) (hc : X.calm = true) (hi : PI X (.Name x px) iter wi)
    (he : ∀ C fp s₀ H₀, PE (cxC X scope cl NC C fp s₀ H₀) elt te) (hsw : swapsWith (.ListComp elt [⟨.Name x px, iter, [], 0⟩] scope pos) (some (.Name y py)) spos.line X.env = pure true := by rfl)
    (hs : ∀ x, foldedSetIterable iter X.env x = pure x := by intro _; rfl) : PS X (.Assign [.Name y py] (.ListComp elt [⟨.Name x px, iter, [], 0⟩] scope pos) spos) (tAsg (tComp wi idx te) (gName i)) := by
  intro pins s σ H D0 I h
  rw [exec_Assign_Name_used _ _ _ _ hsw]
  refine wpAny_bind (wpAny_standAt (wpAny_bind ?_))
  show wpAny _ _ (do let _ ← comprehension (.ListComp elt [⟨.Name x px, iter, [], 0⟩] scope pos) scope X.env _ (newList []) false (eval iter X.env) (some (assign (.Name y py) X.env))) _ _ s
  refine wpAny_bind (wpAny_mono (wpAny_comprehension_free (use := some (assign (.Name y py) X.env)) (Q := fun _ s' => SP X pins D0 .next s') rfl hs c.clos c.kind c.loc
    (thn (hi pins s σ H _ I h) fun v s1 h1 => thn h1 fun itv s2 h2 => ?_)) (fun _ s' hq => wpAny_pure (wpAny_pure hq)) fun _ _ e => e)
  obtain ⟨it, fp, tn, J, H2, rfl, I2, T, st2, f2, q⟩ := h2
  refine wpAny_newObj_type (wpAny_newFunctionEnv c.nocell (by intro y hy; simp at hy) (fun h₁ hns₁ hsb₁ => ?_) c.kind)
  dsimp only at hns₁ hsb₁ ⊢
  have I3 : Inv X pins σ (upd H2 s2.heap.objs.size (.lst [])) { s2 with heap := s2.heap.push { cls := .type "list", data := .seq ([] : List Value).toArray }, toks := s2.toks } := I2.lnew (ys := []) (its := []) .nil (Nat.zero_le _)
  obtain ⟨W, ⟨m0, w0⟩, turn⟩ := q s2.heap.objs.size I2.fresh
  generalize hD : s2.heap.objs.size = D at *
  generalize hH : s2.heap.push { cls := .type "list", data := .seq ([] : List Value).toArray } = h3 at *
  have hlt2 : ∀ b ∈ fp, b < D := fun b hb => by
    obtain ⟨o, e, _⟩ := T.obj _ _ st2 b hb
    rw [← hD]
    exact Heap.lt_size e
  have hlt : ∀ b ∈ fp, b < h3.objs.size := fun b hb => by
    rw [← hH, Heap.size_push, hD]
    exact Nat.lt_succ_of_lt (hlt2 b hb)
  have hf : ∀ b ∈ fp, FpOk X pins (upd H2 D (.lst [])) b := fun b hb => ⟨by rw [upd_ne (Nat.ne_of_lt (hlt2 b hb))]; exact (f2 b hb).1, (f2 b hb).2⟩
  have kp : ∀ b o, h3.get? b = some o → h₁.get? b = some o := fun b o e => hsb₁.extBut b o (Nat.ne_of_lt (Heap.lt_size e)) (Heap.get?_push_of_some _ e)
  have I4 : Inv (cxC X scope cl NC h3.objs.size fp { s2 with heap := h3, toks := s2.toks } (upd H2 D (.lst []))) [] (none :: caps σ idx) (upd H2 D (.lst [])) { s2 with heap := h₁, toks := s2.toks + ([] : List (Str × Value)).length } :=
    inv_comp (s := { s2 with heap := h3, toks := s2.toks }) c I3 hf hlt hns₁ kp
  have stat : ∀ {H' : Hp}, (∀ b ∈ fp, H' b = none) → ∀ b ∈ fp, FpOk (cxC X scope cl NC h3.objs.size fp { s2 with heap := h3, toks := s2.toks } (upd H2 D (.lst []))) [] H' b := fun hn b hb =>
    ⟨hn b hb, Nat.ne_of_lt (hlt b hb), fun z => (List.mem_cons.mp (I3.stkSub b z)).elim (hf b hb).2.1 (hf b hb).2.2.1, .inl hb, fun y a q => (hf b hb).2.2.2.2.1 y a (c.sub _ _ q), fun p hp => (by cases hp)⟩
  have st1 : tn 0 h₁ := T.keep 0 _ _ st2 fun b hb o e => kp b o (by rw [← hH]; exact Heap.get?_push_of_some _ e)
  have loop : ∀ s4 : Shared, s4 = { s2 with heap := h₁, toks := s2.toks + ([] : List (Str × Value)).length } →
      codeAny (model X.prog X.w) X.A (.compLoop (.ListComp elt [⟨.Name x px, iter, [], 0⟩] scope pos) 0 (.ref it) (.ref D) (compEnvC scope cl h3.objs.size X.env)) (compPost (model X.prog X.w) X.A X.xe (some (assign (.Name y py) X.env)) (fun _ s' => SP X pins D0 .next s') (.ref D) h3.objs.size) s4 := by
    rintro s4 rfl
    refine compLoop_any (fun n s' => ∃ i ys H' v0, Inv (cxC X scope cl NC h3.objs.size fp { s2 with heap := h3, toks := s2.toks } (upd H2 D (.lst []))) [] (v0 :: caps σ idx) H' s' ∧ tn i s'.heap ∧ (∀ b ∈ fp, H' b = none) ∧ W i n ys H')
      ?_ m0 ⟨0, [], _, none, I4, st1, fun b hb => (hf b hb).1, w0⟩
    rintro n s5 ⟨i5, ys, H5, v0, I5, st5, fr5, w5⟩
    obtain ⟨hDl, alt⟩ := turn i5 n ys H5 w5
    rcases alt with ⟨stop, qn⟩ | ⟨go, hz, N, hN', step⟩
    · refine thn (T.done (cxC X scope cl NC h3.objs.size fp { s2 with heap := h3, toks := s2.toks } (upd H2 D (.lst []))) rfl rfl rfl hc i5 [] s5 _ H5 _ I5 (stat fr5) st5 stop) fun r s6 ⟨hr, I6⟩ => ?_
      subst hr
      obtain ⟨m, ns6, _⟩ := id I6.loc
      have J6 : Inv X pins σ H5 s6 := I3.call' (ch := fp) I6.os I6.base I6.hok I6.bare fun b hb => ⟨(hf b hb).2.2.2.1, (hf b hb).2.1, (hf b hb).2.2.2.2.1, (hf b hb).2.2.2.2.2⟩
      have fC : FpOk X pins H5 h3.objs.size := I3.fpOk (Nat.le_refl _) I6.free
      obtain ⟨o, es, ep, ho, rr⟩ := ns6
      have od : ∀ v, o.data ≠ .cell v := fun v z => by
        rw [rr.1] at z
        cases z
      show wpAny _ _ (assign (.Name y py) X.env (.ref D)) (fun _ s'' => ∃ m, s''.heap.Ns h3.objs.size m ∧ ∀ h', Heap.SameBut h3.objs.size s''.heap h' → SP X pins D0 .next { s'' with heap := h' }) X.xe s6
      have J7 := J6.pinned (fp := [h3.objs.size]) (fun b hb => by rw [List.mem_singleton.mp hb]; exact fC) (fun b hb => by rw [List.mem_singleton.mp hb]; exact ⟨o, ho, od⟩)
      refine wpAny_mono (pg_name (pos := py) hN hi' (.inl hx) (.inr hx) _ s6 _ H5 (.ref D) (.ref D) D0.nx J7 rfl qn) (fun _ s7 ⟨σ7, H7, I7, q7⟩ => ?_) (fun _ _ z => z)
      have pC := I7.pin (h3.objs.size, o) (List.mem_append_right _ (List.mem_append_right _ (mem_pinsAt (List.mem_singleton.mpr rfl) ho)))
      refine ⟨m, ⟨o, es, ep, pC.1, rr⟩, fun h' hs' => ⟨σ7, H7, ?_, q7⟩⟩
      exact I7.unpinned.turned (t' := s7.toks) (it := h3.objs.size) (fun b o hb e => hs'.extBut b o hb e) pC.2.1 fC.2.1 fC.2.2.2.1 fC.2.2.2.2.1 fC.2.2.2.2.2
    · refine thn (T.item (cxC X scope cl NC h3.objs.size fp { s2 with heap := h3, toks := s2.toks } (upd H2 D (.lst []))) rfl rfl rfl hc i5 [] s5 _ H5 _ I5 (stat fr5) st5 go) fun r s6 ⟨u, hr, h6⟩ => ?_
      subst hr
      refine thn h6 fun _ s7 ⟨y, H7, I7, r7, y7, st7, fr7⟩ => ?_
      have I7' := I7.pinned (stat fr7) (T.obj _ _ st7)
      have hnl : (relabel scope X.env).names.lookup x = some .local := lookup_relabel_local c.xl
      refine wpAny_mono (pg_name (X := cxC X scope cl NC h3.objs.size fp { s2 with heap := h3, toks := s2.toks } (upd H2 D (.lst []))) (i := 0) (x := x) (pos := px) c.nd (by show NC[0]? = some x; rw [c.nc]; rfl) (.inl hnl) (.inr hnl) _ s7 _ H7 y u
        (fun σ' H' => σ' = some y :: caps σ idx ∧ H' = H7) I7' r7 ⟨rfl, rfl⟩) (fun _ s8 ⟨σ8, H8, I8, e8, e8'⟩ => ?_) fun _ _ z => z.elim
      subst e8 e8'
      refine wpAny_mono (he _ _ _ _ _ s8 _ H8 _ I8 (step y H8 y7)) (fun w s9 ⟨v, H9, I9, r9, hD9, n9⟩ => ?_) fun _ _ z => z.elim
      obtain ⟨m', hm, w9⟩ := hN' _ _ n9
      refine wpAny_mono (appended (X := (cxC X scope cl NC h3.objs.size fp { s2 with heap := h3, toks := s2.toks } (upd H2 D (.lst [])))) I9 hD9 hz r9) (fun _ s10 I10 => ?_) fun _ _ z => z.elim
      refine ⟨m', hm, i5 + 1, ys ++ [v], _, some y, I10.unpinned, T.keep _ _ _ st7 fun b hb o e => (I10.pin (b, o) (List.mem_append_right _ (List.mem_append_right _ (mem_pinsAt hb e)))).1, fun b hb => ?_, w9⟩
      obtain ⟨o, e, d⟩ := T.obj _ _ st7 b hb
      exact (I10.pin (b, o) (List.mem_append_right _ (List.mem_append_right _ (mem_pinsAt hb e)))).2.1
  exact codeAny_compStart_list (loop _ rfl) (T.self _ 0 _ _ _ st1 (loop _ rfl))
/-! ### != of two lists of flat items, as long as one another -/
/-! ### sum of a list of numbers -/
/-! ### isinstance with a tuple of classes -/
end
end L2
end
section
set_option Elab.async false
set_option linter.all false
set_option maxRecDepth 100000
set_option maxHeartbeats 4000000
namespace L2
open PySem PySem.Spec PyProof.Rows LX
/-! ### sorted(x) of a list of numbers, of a dict whose keys are numbers -/
section
variable {X : Cx}
end
/-! ### ==, != of things that are the same through and through -/
section
variable {X : Cx}
end
end L2
end
section
set_option Elab.async false
set_option linter.all false
set_option maxRecDepth 100000
set_option maxHeartbeats 4000000
namespace L2
open PySem PySem.Spec PyProof.Rows LX
section
variable {X : Cx} {tg : Expr}
/-! ### range(a, b, c), c a written positive number -/
end
end L2
end
section
set_option Elab.async false
set_option linter.all false
set_option maxRecDepth 100000
set_option maxHeartbeats 4000000
namespace L2
open PySem PySem.Spec PyProof.Rows LX
section
variable {X : Cx} {scope : Scope} {cl : List (Str × Addr)} {x : Str} {idx : List Nat} {NC : List Str} {pins : List (Addr × Obj)} {σ : St} {H : Hp} {s : Shared}
/-! ### name = [comprehension with one test] -/
end
/-! ### a comprehension with a test over a range -/
end L2
end
section
set_option Elab.async false
set_option linter.all false
set_option maxRecDepth 100000
set_option maxHeartbeats 4000000
namespace L2
open PySem PySem.Spec PyProof.Rows LX
/-! ### raising out of a loop of the def's own body -/
section
variable {P : Program} {w : World} {K : PySem.W.Frag} {mg : Str → Option Value} {base : Heap} {N : List Str} {qual : Str} {scope : Scope} {f : Addr} {cdv : Value} {A : Around} {outer : List Env} {s₀ : Shared} {H₀ : Hp} {E₀ : XK}
/-- an exception that the def's frame has not been noted at -/
def XO (P : Program) (w : World) (qual : Str) (scope : Scope) (f : Addr) (cdv : Value) (A : Around) (outer : List Env) (s₀ : Shared) (H₀ : Hp) (E₀ : XK) (base : Heap) (e : Value) (s : Shared) : Prop :=
  ∃ (ea : Addr) (c : Value) (od : Option Addr) (fs : Array Value) (sl : Array (Option Value)) (T0 : Option Addr), e = .ref ea ∧ (A.deeper (envOfC qual scope s₀.heap.objs.size f cdv)).frames = some (envOfC qual scope s₀.heap.objs.size f cdv :: outer) ∧ s.heap.FunFrames base (envOfC qual scope s₀.heap.objs.size f cdv :: outer) ∧ s.heap.get? ea = some (excRec c od fs sl) ∧ Trail s.heap ea fs T0 ∧
    ∀ (m : Heap) (T : Addr) (fs' : Array Value), s.heap.objs.size ≤ T → Kept (framesOf (envOfC qual scope s₀.heap.objs.size f cdv :: outer)) (ea :: T0.toList) s.heap m → m.get? ea = some (excRec c od fs' sl) → fs'[0]? = fs[0]? → Trail m ea fs' (some T) → CXE P w outer H₀ s₀ E₀ (.ref ea) { s with heap := m }
/-- one that came back from a loop -/
def XN (P : Program) (w : World) (outer : List Env) (s₀ : Shared) (H₀ : Hp) (E₀ : XK) (L : Addr) (e : Value) (s : Shared) : Prop :=
  ∃ (ea T : Addr) (c oc : Value) (od d : Option Addr) (fs ts : Array Value) (sl sm : Array (Option Value)), e = .ref ea ∧ s.heap.get? ea = some (excRec c od fs sl) ∧ fs[1]? = some (.ref T) ∧ T ≠ ea ∧ s.heap.get? T = some (excRec oc d ts sm) ∧ ts[3]? = some (rawInt L) ∧
    ∀ m : Heap, (∀ b o, b ≠ T → s.heap.get? b = some o → m.get? b = some o) → Trail m ea fs (some T) → m.get? ea = some (excRec c od fs sl) → CXE P w outer H₀ s₀ E₀ (.ref ea) { s with heap := m }
def XR (P : Program) (w : World) (qual : Str) (scope : Scope) (f : Addr) (cdv : Value) (A : Around) (outer : List Env) (s₀ : Shared) (H₀ : Hp) (E₀ : XK) (base : Heap) (e : Value) (s : Shared) : Prop :=
  XO P w qual scope f cdv A outer s₀ H₀ E₀ base e s ∨ XN P w outer s₀ H₀ E₀ s₀.heap.objs.size e s
theorem own_lies {pins : List (Addr × Obj)} {σ : St} {H H' : Hp} {s s' : Shared} {ea C T : Addr} {od : Option Addr} {fs : Array Value} {sl : Array (Option Value)} (I : Inv (cxE P w K mg base N qual scope f cdv A outer s₀ H₀ E₀) pins σ H s)
    (l : Lies P w (cxE P w K mg base N qual scope f cdv A outer s₀ H₀ E₀).stack H H' s ea C T od fs sl s') (hE : E₀ (.ref C) od H') : XO P w qual scope f cdv A outer s₀ H₀ E₀ base (.ref ea) s' := by
  refine ⟨ea, _, _, _, _, _, rfl, I.ok.frames, Lies.frames I l, l.at_, l.trail, fun m T' fs' z1 z2 z3 z4 z5 => ?_⟩
  obtain ⟨un, hok⟩ := l.on (t' := s'.toks) I z2
  have J : Inv (cxE P w K mg base N qual scope f cdv A outer s₀ H₀ E₀) pins σ H' { s' with heap := m } := I.call' l.os un hok l.bare (fun b z => absurd z (by simp))
  have old : ∀ b o, s₀.heap.get? b = some o → ∃ o', s.heap.get? b = some o' := fun b o z => I.base.there b o z (List.not_mem_nil)
  have e0 : s₀.heap.get? ea = none := by
    cases q : s₀.heap.get? ea with
    | none => rfl
    | some o =>
      obtain ⟨o', z⟩ := old ea o q
      rw [l.newE] at z; cases z
  have t0 : s₀.heap.get? T' = none := by
    cases q : s₀.heap.get? T' with
    | none => rfl
    | some o =>
      obtain ⟨o1, y1⟩ := old T' o q
      obtain ⟨o2, y2⟩ := l.un.there T' o1 y1 (by simp)
      exact absurd (Heap.lt_size y2) (Nat.not_lt.mpr z1)
  obtain ⟨a0, ha⟩ := l.args
  exact ⟨ea, C, T', od, fs', sl, H', rfl, ⟨J.os, J.bare, J.base, J.hok, e0, t0, l.freeE, l.hok.fresh z1, z3, ⟨a0, by rw [z4]; exact ha⟩, z5⟩, hE⟩
theorem own_new {pins : List (Addr × Obj)} {σ : St} {H : Hp} {s : Shared} {ea C : Addr} {od : Option Addr} (I : Inv (cxE P w K mg base N qual scope f cdv A outer s₀ H₀ E₀) pins σ H s) (h1 : H ea = some (exo true C ea od)) (h0 : H₀ ea = none)
    (hE : E₀ (.ref C) od (del H ea)) : XO P w qual scope f cdv A outer s₀ H₀ E₀ base (.ref ea) s := by
  obtain ⟨fs, sl, a0, z, ha, hf⟩ := exo_get I.hok h1
  have frz : ∀ b, b ∈ frs (cxE P w K mg base N qual scope f cdv A outer s₀ H₀ E₀).stack → H b = none := I.stkFree
  have e0 : s₀.heap.get? ea = none := by
    cases q : s₀.heap.get? ea with
    | none => rfl
    | some o =>
      have := I.base.free ea o q h0 List.not_mem_nil
      rw [h1] at this; cases this
  refine ⟨ea, _, _, _, _, _, rfl, I.ok.frames, I.stack, z, .none (hf rfl), fun m T' fs' z1 z2 z3 z4 z5 => ?_⟩
  have hd : HOk P w (del H ea) s.heap := I.hok.del (fun y q => by rw [h1] at q; cases q) fun xs q => by rw [h1] at q; cases q
  have hm : HOk P w (del H ea) m := hd.keeps fun b u o q r => by
    obtain ⟨q1, q2⟩ := del_some q
    exact z2.plain b o r (fun hb => by rw [frz b hb] at q1; cases q1) (by simpa using q2)
  have neE : ∀ b o, s₀.heap.get? b = some o → b ≠ ea := fun b o q r => by rw [r, e0] at q; cases q
  have t0 : s₀.heap.get? T' = none := by
    cases q : s₀.heap.get? T' with
    | none => rfl
    | some o =>
      obtain ⟨o2, y2⟩ := I.base.there T' o q List.not_mem_nil
      exact absurd (Heap.lt_size y2) (Nat.not_lt.mpr z1)
  have neL : ∀ b o, s₀.heap.get? b = some o → b ∈ framesOf (cxE P w K mg base N qual scope f cdv A outer s₀ H₀ E₀).stack → b ∈ frs outer := fun b o q hb => by
    rcases List.mem_cons.mp (I.stkSub b hb) with r | r
    · exact absurd (Heap.lt_size q) (by rw [r]; exact Nat.not_lt.mpr I.ok.above)
    · exact r
  have sub : ∀ b, b ∈ frs outer → b ∈ framesOf (cxE P w K mg base N qual scope f cdv A outer s₀ H₀ E₀).stack := fun b hb => by
    obtain ⟨x, hx, hy⟩ := List.mem_filterMap.mp hb
    exact List.mem_filterMap.mpr ⟨x, List.mem_cons_of_mem _ hx, hy⟩
  refine ⟨ea, C, T', od, fs', sl, del H ea, rfl, ⟨I.os, I.bare, ⟨fun b o q n hb hx => ?_, fun b o q n hb hx => ?_, fun b o q n hx => ?_, fun b o q hx => ?_, fun b xs q => ?_, fun b o u q => ?_, fun b ps q => ?_⟩, hm, e0, t0, del_same, ?_, z3, ⟨a0, by rw [z4]; exact ha⟩, z5⟩, hE⟩
  · exact z2.plain b o (I.base.keep b o q n hb hx) (fun z => hb (neL b o q z)) (by simpa using neE b o q)
  · obtain ⟨s1, y1⟩ := I.base.slot b o q n hb hx
    obtain ⟨s2, y2⟩ := z2.frame b _ y1 (sub b hb) (by simpa using neE b o q)
    exact ⟨s2, y2⟩
  · rw [del_ne (neE b o q)]
    exact I.base.free b o q n hx
  · obtain ⟨o1, y1⟩ := I.base.there b o q hx
    by_cases hb : b ∈ framesOf (cxE P w K mg base N qual scope f cdv A outer s₀ H₀ E₀).stack
    · obtain ⟨s2, y2⟩ := z2.frame b _ y1 hb (by simpa using neE b o q)
      exact ⟨_, y2⟩
    · exact ⟨_, z2.plain b _ y1 hb (by simpa using neE b o q)⟩
  · have r := I.base.tups b xs q
    rw [del_ne fun e => by rw [e, h1] at r; cases r]; exact r
  · have r := I.base.frzs b o u q
    rw [del_ne fun e => by rw [e, h1] at r; cases r]; exact r
  · obtain ⟨more, r⟩ := I.base.tbls b ps q
    exact ⟨more, by rw [del_ne fun e => by rw [e, h1] at r; cases r]; exact r⟩
  · by_cases q : T' = ea
    · rw [q]; exact del_same
    · rw [del_ne q]; exact I.hok.fresh z1

theorem XR.xe {e : Value} {s : Shared} (h : XR P w qual scope f cdv A outer s₀ H₀ E₀ base e s) : (cxE P w K mg base N qual scope f cdv A outer s₀ H₀ E₀).xe e s := by
  rcases h with ⟨ea, c, od, fs, sl, T0, rfl, hA, F, he, t, k⟩ | ⟨ea, T, c, oc, od, d, fs, ts, sl, sm, rfl, he, h1, ne, hT, h3, k⟩
  · exact leaves hA F rfl he t k
  · have h3s : 3 < ts.size := (Array.getElem?_eq_some_iff.mp h3).1
    show wpAny _ _ (leaving _ (.ref ea)) _ _ s
    unfold leaving noteFrame
    refine wpAny_bind ?_
    show wpAny _ _ (field (.ref ea) 1 >>= _) _ _ s
    refine wpAny_bind (wpAny_field he rfl h1 ?_)
    rw [if_pos (show (Value.ref T != Value.none) = true by simp)]
    refine wpAny_bind (wpAny_field hT rfl h3 ?_)
    rw [if_pos (by simp)]
    exact wpAny_pure (flight_off he h1 ne hT h3s k)
theorem own_passes : PassesOwn (model P w) (A.deeper (envOfC qual scope s₀.heap.objs.size f cdv)) (envOfC qual scope s₀.heap.objs.size f cdv) (XR P w qual scope f cdv A outer s₀ H₀ E₀ base) := by
  intro e s h
  have came : ∀ {s1 : Shared}, XN P w outer s₀ H₀ E₀ s₀.heap.objs.size e s1 → cameBackBy (model P w) (A.deeper (envOfC qual scope s₀.heap.objs.size f cdv)) (envOfC qual scope s₀.heap.objs.size f cdv) (XR P w qual scope f cdv A outer s₀ H₀ E₀ base) e s1 := by
    rintro s1 ⟨ea, T, c, oc, od, d, fs, ts, sl, sm, rfl, he, h1, ne, hT, h3, k⟩
    have h3s : 3 < ts.size := (Array.getElem?_eq_some_iff.mp h3).1
    unfold cameBackBy setFlight
    refine wpAny_bind (wpAny_field he rfl h1 ?_)
    dsimp only
    rw [if_neg (by simp)]
    refine wpAny_bind (wpAny_field he rfl h1 ?_)
    rw [if_pos (show (Value.ref T != Value.none) = true by simp)]
    refine wpAny_setField hT rfl h3s ?_
    have oth : ∀ b o, b ≠ T → s1.heap.get? b = some o → (s1.heap.update T (Obj.mapFields (·.setIfInBounds 3 (rawInt s₀.heap.objs.size)))).get? b = some o := fun b o hb q => (Heap.get?_update_other _ _ (Ne.symm hb)).trans q
    exact .inr ⟨ea, T, c, oc, od, d, fs, ts.setIfInBounds 3 (rawInt s₀.heap.objs.size), sl, sm, rfl, oth _ _ (Ne.symm ne) he, h1, ne, upd_rec hT, by simp [h3s], fun m q1 q2 q3 => k m (fun b o hb q => q1 b o hb (oth b o hb q)) q2 q3⟩
  rcases h with ⟨ea, c, od, fs, sl, T0, rfl, hA, F, he, t, k⟩ | ⟨ea, T, c, oc, od, d, fs, ts, sl, sm, rfl, he, h1, ne, hT, h3, k⟩
  · refine note_on hA F rfl he t fun m T oc ts z1 z2 z3 z4 z5 => came ?_
    have Te : T ≠ ea := Nat.ne_of_gt (Nat.lt_of_lt_of_le (Heap.lt_size he) z1)
    have f1 : (fs.setIfInBounds 1 (Value.ref T))[1]? = some (.ref T) := by
      have := t.size
      simp [this]
    refine ⟨ea, T, c, oc, od, none, _, ts, sl, #[], rfl, z3, f1, Te, z4, z5, fun m' q1 q2 q3 => k m' T _ z1 ⟨fun b o q hb hx => ?_, fun b o q hb hx => ?_⟩ q3 (by simp) q2⟩
    · exact q1 b o (Nat.ne_of_lt (Nat.lt_of_lt_of_le (Heap.lt_size q) z1)) (z2.plain b o q hb hx)
    · obtain ⟨sm, r⟩ := z2.frame b o q hb hx
      exact ⟨sm, q1 b _ (Nat.ne_of_lt (Nat.lt_of_lt_of_le (Heap.lt_size q) z1)) r⟩
  · have h3s : 3 < ts.size := (Array.getElem?_eq_some_iff.mp h3).1
    show wpAny _ _ (noteFrame (.ref ea) _) _ _ s
    unfold noteFrame
    show wpAny _ _ (field (.ref ea) 1 >>= _) _ _ s
    refine wpAny_bind (wpAny_field he rfl h1 ?_)
    rw [if_pos (show (Value.ref T != Value.none) = true by simp)]
    refine wpAny_bind (wpAny_field hT rfl h3 ?_)
    rw [if_pos (by simp)]
    exact wpAny_pure (came ⟨ea, T, c, oc, od, d, fs, ts, sl, sm, rfl, he, h1, ne, hT, h3, k⟩)
/-- the context in which the def's loops may raise -/
abbrev cxR (P : Program) (w : World) (K : PySem.W.Frag) (mg : Str → Option Value) (base : Heap) (N : List Str) (qual : Str) (scope : Scope) (f : Addr) (cdv : Value) (A : Around) (outer : List Env) (s₀ : Shared) (H₀ : Hp) (E₀ : XK) : Cx :=
  (cxE P w K mg base N qual scope f cdv A outer s₀ H₀ E₀).wish (XR P w qual scope f cdv A outer s₀ H₀ E₀ base)
theorem PSs.xr {st : List Stmt} {t : TS} (h : PSs (cxR P w K mg base N qual scope f cdv A outer s₀ H₀ E₀) st t) : PSs (cxE P w K mg base N qual scope f cdv A outer s₀ H₀ E₀) st t := fun pins s σ H D I hw =>
  wpAny_mono (h pins s σ H D (I.wish _) hw) (fun _ _ q => q.unwish) fun _ _ z => z.xe
theorem raiseR : RaisesTo (cxR P w K mg base N qual scope f cdv A outer s₀ H₀ E₀) E₀ := fun _ _ _ _ _ _ _ I h1 h0 q => .inl (own_new I.unwish h1 h0 q)
theorem passR {E : XK} (hE : ∀ c od H', E c od H' → E₀ c od H') : PassesX (CXE P w) (cxR P w K mg base N qual scope f cdv A outer s₀ H₀ E₀) (fun _ => E) := fun pins σ H s e s' I h => by
  obtain ⟨ea, C, T, od, fs, sl, H', rfl, l, q⟩ := h
  exact .inl (own_lies I.unwish l (hE _ _ _ q))
theorem ownR : PassesOwn (model P w) (cxR P w K mg base N qual scope f cdv A outer s₀ H₀ E₀).A (cxR P w K mg base N qual scope f cdv A outer s₀ H₀ E₀).env (cxR P w K mg base N qual scope f cdv A outer s₀ H₀ E₀).xe := own_passes
end
end L2
end
section
set_option Elab.async false
set_option linter.all false
set_option maxRecDepth 100000
set_option maxHeartbeats 4000000
namespace L2
open PySem PySem.Spec PyProof.Rows LX
/-! ### try: .. except C: .. (no name) -/
def tLand0 (K : PySem.W.Frag) (Dc : Addr) (ts : TS) (D : Ends) : St → XK := fun σ c _ H => ∃ C cd, c = .ref C ∧ XCls K C cd ∧ cd.mro.contains (.ref Dc) = true ∧ ts D σ H
def tTry0 (K : PySem.W.Frag) (Dc : Addr) (tb : (St → XK) → TS) (ts : TS) : TS := fun D σ H => tb (tLand0 K Dc ts D) D σ H
section
variable {X : Cx}
theorem call_intB0 : CallR X (.type "int") (fun xs H Q => ∃ b : Bool, xs = [.bl b] ∧ Q (.int (if b then 1 else 0)) H) := by
  rintro pins s σ H xs us Q I r ⟨b, rfl, q⟩
  obtain ⟨u, rfl, r1⟩ := r.one
  cases r1
  exact call_int_bool ⟨.int _, H, I.tok _, ⟨_, rfl⟩, q⟩
theorem ps_try0 {body suite : List Stmt} {b₀ : Stmt} {x : Str} {np hpos pos : Pos} {Dc : Addr} {cdD : ClassData} {tb : (St → XK) → TS} {ts : TS} (hst : X.stack = X.env :: X.outer) (hfr : X.env.frame = some X.env.locals) (hg : Gl X x) (hm : X.mg x = some (.ref Dc))
    (hD : XCls X.K Dc cdD)
    (hb : ∀ (pins : List (Addr × Obj)) (E : Value → Shared → Prop) (EK : St → XK), PassesX (CXE X.prog X.w) (X.tried pins E) EK → PSs (X.tried pins E) body (tb EK))
    (hs : ∀ ea, PSs (X.caught ea) (b₀ :: suite) ts) (hdb : (x == ("__debug__" : Str)) = false := by decide) :
    PS X (.Try body [.ExceptHandler (some (.Name x np)) none (b₀ :: suite) hpos] [] [] pos) (tTry0 X.K Dc tb ts) := by
  intro pins s σ H D I h
  refine wpAny_Try_except ?_
  refine wpAny_mono (hb pins (fun e s₁ => ∃ σ' H1 sc, Inv X pins σ' H1 sc ∧ CXE X.prog X.w X.stack H1 sc (tLand0 X.K Dc ts D σ') e s₁) (tLand0 X.K Dc ts D)
    (fun pins' σ' H1 sc e s' J q => ⟨σ', H1, sc, J.untried, q⟩) [] s σ H D (I.tried _) h) (fun fl s1 q => ?_) fun e s1 q => ?_
  · cases fl with
    | next =>
      obtain ⟨σ', H', J, q⟩ := q
      exact wpAny_execs_nil ⟨σ', H', J.untried, q⟩
    | brk => obtain ⟨σ', H', J, q⟩ := q; exact ⟨σ', H', J.untried, q⟩
    | cont => obtain ⟨σ', H', J, q⟩ := q; exact ⟨σ', H', J.untried, q⟩
    | ret u => obtain ⟨v, σ', H', J, r, q⟩ := q; exact ⟨v, σ', H', J.untried, r, q⟩
  · obtain ⟨σ', H1, sc, J, ea, Cv, T, od, fs, sl, H', rfl, l, C, cd, ec, xc, hmr, q⟩ := q
    cases ec
    have hA : X.A.frames = some (X.env :: X.outer) := by rw [J.ok.frames, hst]
    have hF : s1.heap.FunFrames X.base (X.env :: X.outer) := by rw [← hst]; exact l.frames J
    have st : ∀ (m : Heap) (tk : Nat), Kept (framesOf X.stack) [ea, T] s1.heap m → Inv X pins σ' H' { s1 with heap := m, toks := tk } := fun m tk k => by
      obtain ⟨un, hok⟩ := l.on (t' := s1.toks) J k
      exact J.call' l.os un hok l.bare fun b z => absurd z (by simp)
    refine note_on hA hF hfr l.at_ l.trail fun m T' oc tsx z1 z2 z3 z4 z5 => ?_
    have Te : T' ≠ ea := Nat.ne_of_gt (Nat.lt_of_lt_of_le (Heap.lt_size l.at_) z1)
    have f1 : (fs.setIfInBounds 1 (Value.ref T'))[1]? = some (.ref T') := by
      have := l.trail.size
      simp [this]
    have k1 : Kept (framesOf X.stack) [ea, T] s1.heap m := by rw [hst]; exact z2
    refine flight_off (s := { s1 with heap := m }) z3 f1 Te z4 (Array.getElem?_eq_some_iff.mp z5).1 fun m' q1 q2 q3 => ?_
    have nT : ∀ b o, s1.heap.get? b = some o → b ≠ T' := fun b o q => Nat.ne_of_lt (Nat.lt_of_lt_of_le (Heap.lt_size q) z1)
    have k2 : Kept (framesOf X.stack) [ea, T] s1.heap m' := ⟨fun b o q hb hx => q1 b o (nT b o q) (k1.plain b o q hb hx), fun b o q hb hx => by
      obtain ⟨sm, r⟩ := k1.frame b o q hb hx
      exact ⟨sm, q1 b _ (nT b o q) r⟩⟩
    have J2 := st m' s1.toks k2
    refine wpAny_handleBy_cons (codeAny_handlers_test ?_) (by intro z; cases z)
    refine ld_glob (X := X.caught ea) (J2.caught ea) hg hm ?_ hdb
    refine matches_own xc hD J2.kIn q3 ?_
    rw [hmr]
    refine codeAny_handlers_suite ?_
    cases q2 with
    | @some _ oc2 ts2 d2 sm2 y1 y2 y3 y4 =>
    refine flight_off (s := { s1 with heap := m' }) q3 y1 y2 y3 (Array.getElem?_eq_some_iff.mp y4).1 fun m3 r1 r2 r3 => ?_
    have k3 : Kept (framesOf X.stack) [ea, T] s1.heap m3 := ⟨fun b o q hb hx => r1 b o (nT b o q) (k2.plain b o q hb hx), fun b o q hb hx => by
      obtain ⟨sm, r⟩ := k2.frame b o q hb hx
      exact ⟨sm, r1 b _ (nT b o q) r⟩⟩
    have J3 := st m3 s1.toks k3
    refine wpAny_mono (hs ea pins _ _ _ D (J3.caught ea) q) (fun fl s6 w => ?_) fun _ _ z => False.elim z
    cases fl with
    | next => obtain ⟨σ6, H6, J6, w⟩ := w; exact ⟨_, _, J6.uncaught J.ok, w⟩
    | brk => obtain ⟨σ6, H6, J6, w⟩ := w; exact ⟨_, _, J6.uncaught J.ok, w⟩
    | cont => obtain ⟨σ6, H6, J6, w⟩ := w; exact ⟨_, _, J6.uncaught J.ok, w⟩
    | ret u => obtain ⟨v, σ6, H6, J6, r, w⟩ := w; exact ⟨v, _, _, J6.uncaught J.ok, r, w⟩
end
end L2
end
section
set_option Elab.async false
set_option linter.all false
set_option maxRecDepth 100000
set_option maxHeartbeats 4000000
set_option exponentiation.threshold 4000
namespace K34
open PySem L2 LX
def top (i : Nat) : Stmt := PySem.Challenge.pw_stillheap_k34_whole_deeds_in_memory.main.body.getD i (.Pass ⟨0, 0, 0, 0⟩)
abbrev sXI : Stmt := inClass (top 2) 0
abbrev sMI : Stmt := inClass (top 19) 0
abbrev sSize : Stmt := inClass (top 19) 1
abbrev sAt : Stmt := inClass (top 19) 2
abbrev sPut : Stmt := inClass (top 19) 3
abbrev sCopy : Stmt := inClass (top 19) 4
abbrev sLk : Stmt := inClass (top 19) 5
abbrev sKind : Stmt := top 5
abbrev sLay : Stmt := top 7
abbrev sThing : Stmt := top 8
abbrev sRes : Stmt := top 9
abbrev sField : Stmt := top 10
abbrev sPutF : Stmt := top 11
abbrev sMove : Stmt := top 12
abbrev sWalk : Stmt := top 13
abbrev sFAt : Stmt := top 14
abbrev sTold : Stmt := top 15
abbrev sAddr : Stmt := top 16
abbrev sRoom : Stmt := top 17
abbrev sCell : Stmt := top 21
abbrev sMixed : Stmt := top 22
abbrev sAlike : Stmt := top 23
abbrev sShows : Stmt := top 24
abbrev sWord : Stmt := top 25
abbrev sLThing : Stmt := top 26
abbrev sLLay : Stmt := top 27
abbrev sLRes : Stmt := top 28
abbrev sAsked : Stmt := top 29
abbrev sDone : Stmt := top 30
abbrev sDue : Stmt := top 31
abbrev sApart : Stmt := top 32
abbrev sDeed : Stmt := top 33
abbrev sNumbers : Stmt := top 34
abbrev sLWalk : Stmt := top 35
abbrev sEnds : Stmt := top 36
abbrev sLaw : Stmt := top 37
/-- what the text has: the error classes in the flags' order, HeapError; names of the built-ins -/
structure Txt (K : PySem.W.Frag) (mg : Str → Option Value) (CH d0 fXI : Addr) : Prop where
  h : ∃ cd, XCls K CH cd
  mH : mg "HeapError" = some (.ref CH)
  m0 : mg "BadAddress" = some (.ref d0)
  c0 : ErrC K d0
  mx0 : MkX K d0 fXI
  fv0 : PySem.W.kitOne K (.ref d0) (.type "ValueError") = some true
  sub0 : ∃ cd, XCls K d0 cd ∧ cd.mro.contains (.ref CH) = true
  z_ValueError : mg "ValueError" = none
  z_isinstance : mg "isinstance" = none
  z_len : mg "len" = none
  z_list : mg "list" = none
  z_all : mg "all" = none
  z_range : mg "range" = none
  z_enumerate : mg "enumerate" = none
  z_int : mg "int" = none
  z_str : mg "str" = none
  z_bool : mg "bool" = none
  z_min : mg "min" = none
  z_max : mg "max" = none
  z_tuple : mg "tuple" = none

section
variable {P : Program} {w : World} {K : PySem.W.Frag} {mg : Str → Option Value} {base : Heap} {CH d0 fXI : Addr}

theorem scXI : FnScope ["self", "text"] ["self", "text"] (defScope sXI) := ⟨rfl, rfl, rfl, by decide +kernel, rfl, by decide +kernel, by decide +kernel⟩
theorem ok_xi {f : Addr} {fd : FuncData} (F : Fun K "__init__" "HeapError.__init__" sXI f fd) (hve : mg "ValueError" = none) : FnOk P w K mg base (CXE P w) 1 f fd ["self", "text"] (spXI K) := by
  refine F.okE scXI (fun vs H Q E h => ?_) (fun cdv A outer s H vs Q E hr h => ?_)
  · obtain ⟨ea, C, od, x, rfl, _⟩ := h
    rfl
  · obtain ⟨ea, C, od, x, rfl, h1, hc, k⟩ := h
    refine ⟨_, pss_one (ps_expr (pe_ve rfl hve (pa_cons (pv 0) (pa_cons (pv 1) pa_nil)))), ?_⟩
    exact ⟨_, rfl, _, rfl, ea, C, od, [x], rfl, (by show 1 ≤ 1000; decide), h1, hc, k⟩

/-- the class Memory: attributes and methods -/
structure MemC (K : PySem.W.Frag) (CM fMI fSz fAt fPut fCp fLk : Addr) : Prop where
  c : Cls K CM
  n : NoAttr K CM "cells"
  mke : Mk K CM fMI
  sz : Meth K CM "size" fSz
  at_ : Meth K CM "at" fAt
  pt : Meth K CM "put" fPut
  cp : Meth K CM "copy_of" fCp
  lk : Meth K CM "look_at_address" fLk
/-- the memory at m with the words xs, kept at c -/
def Mem (CM : Addr) (H : Hp) (m c dx : Addr) (xs : List V) : Prop := H m = some (.ins CM dx [("cells", .ref c)]) ∧ H c = some (.lst xs)
variable {CM fMI fSz fAt fPut fCp fLk : Addr}
def spLk (CM BA : Addr) : Sp := fun vs H Q E => ∃ m c dx xs, ∃ a : Int, vs = [.ref m, .int a] ∧ Mem CM H m c dx xs ∧ a.natAbs.log2 < 1920 ∧ (if 0 ≤ a ∧ a < xs.length then Q .non H else ∀ H', Same H H' → E (.ref BA) none H')
theorem scLk : FnScope ["self", "a"] ["self", "a"] (defScope sLk) := ⟨rfl, rfl, rfl, by decide +kernel, rfl, by decide +kernel, by decide +kernel⟩
theorem ok_lk {f : Addr} {fd fdX : FuncData} (F : Fun K "look_at_address" "Memory.look_at_address" sLk f fd) (T : Txt K mg CH d0 fXI) (M : MemC K CM fMI fSz fAt fPut fCp fLk) (GX : FnOk P w K mg base (CXE P w) 1 fXI fdX ["self", "text"] (spXI K)) (bX : Binds K fdX ["self", "text"] []) :
    FnOk P w K mg base (CXE P w) 3 f fd ["self", "a"] (spLk CM d0) := by
  refine F.okE scLk (fun vs H Q E h => ?_) (fun cdv A outer s H vs Q E hr h => ?_)
  · obtain ⟨m, c, dx, xs, a, rfl, _⟩ := h
    rfl
  · obtain ⟨m, c, dx, xs, a, rfl, ⟨hm, hc⟩, hb, k⟩ := h
    refine ⟨_, pss_one (ps_if (pt_not (pt_chain op_le op_lt pe_int (pv 1) (pe_callB call_len_seq rfl T.z_len PyProof.Rows.Boot.«len» (pa_cons (pe_fld (pv 0) rfl) pa_nil))))
        (pss_one (ps_raise rfl raiseE (xe_err T.mx0 GX hr rfl T.m0 bX (Passes.x (passE fun _ _ _ q => q)) (pa_cons (pe_fstr (pfs_cons pf_text (pfs_cons (pf_num (pv 1)) pfs_nil))) pa_nil)))) pss_nil), ?_⟩
    have out : ¬ (0 ≤ a ∧ a < xs.length) → ∀ {D : Ends}, tRaise H K E (xErr d0 (spXI K) (fun _ => E) (tCons (tFstr (tParts tText (tParts (tNum (tVar 1)) tText))) tNil)) D (L2.start ["self", "a"] [V.ref m, V.int a]) H := fun hn {D} => by
      rw [if_neg hn] at k
      refine ⟨_, rfl, a, rfl, hb, fun y hy ea hea => ⟨ea, d0, none, .str y, rfl, upd_same, T.c0.cls, rfl, ea, d0, none, rfl, upd_same, T.c0.cls, hea, k _ fun b o q => ?_⟩⟩
      have nb : b ≠ ea := fun e => by rw [e, hea] at q; cases q
      rw [del_ne nb, upd_ne nb]
      exact q
    refine ⟨.int a, rfl, 0, a, rfl, rfl, _, rfl, ite2 (fun h1 => ⟨_, rfl, m, CM, dx, _, .ref c, rfl, hm, M.c, M.n, rfl, c, xs, rfl, .inl (SqL.of hc), a, xs.length, rfl, rfl, _, rfl, ite2 (fun h2 => out ?_) (fun h2 => ?_)⟩) (fun h1 => ⟨_, rfl, iteT (out ?_)⟩)⟩
    · simp only [Bool.not_eq_true', decide_eq_false_iff_not] at h2
      exact fun g => h2 g.2
    · simp only [Bool.not_eq_true', decide_eq_false_iff_not, Decidable.not_not] at h2
      simp only [decide_eq_true_eq] at h1
      rw [if_pos ⟨h1, h2⟩] at k
      exact k
    · simp only [decide_eq_true_eq] at h1
      exact fun g => h1 g.1
/-- at -/
def spAt (CM BA : Addr) : Sp := fun vs H Q E => ∃ m c dx xs, ∃ a : Int, vs = [.ref m, .int a] ∧ Mem CM H m c dx xs ∧ a.natAbs.log2 < 1920 ∧ (if 0 ≤ a ∧ a < xs.length then ∀ v, xs[a.toNat]? = some v → Q v H else ∀ H', Same H H' → E (.ref BA) none H')
theorem at_int {xs : List V} {a : Int} {v : V} (h0 : 0 ≤ a) (h : xs[a.toNat]? = some v) : atI xs a = some v := by
  have e : a = (a.toNat : Int) := by omega
  rw [e]
  exact atI_nat h
theorem ok_at {f : Addr} {fd fdL : FuncData} (F : Fun K "at" "Memory.at" sAt f fd) (T : Txt K mg CH d0 fXI) (M : MemC K CM fMI fSz fAt fPut fCp fLk) (GL : FnOk P w K mg base (CXE P w) 3 fLk fdL ["self", "a"] (spLk CM d0)) (bL : Binds K fdL ["self", "a"] []) :
    FnOk P w K mg base (CXE P w) 4 f fd ["self", "a"] (spAt CM d0) := by
  refine F.okE (N := ["self", "a"]) ⟨rfl, rfl, rfl, by decide +kernel, rfl, by decide +kernel, by decide +kernel⟩ (fun vs H Q E h => ?_) (fun cdv A outer s H vs Q E hr h => ?_)
  · obtain ⟨m, c, dx, xs, a, rfl, _⟩ := h
    rfl
  · obtain ⟨m, c, dx, xs, a, rfl, ⟨hm, hc⟩, hb, k⟩ := h
    refine ⟨_, pss_cons (ps_expr (xe_meth (pv 0) M.c M.lk GL hr bL .nil (Passes.x (passE fun _ _ _ q => q)) (pa_cons (pv 1) pa_nil))) (pss_one (ps_ret (pe_ix ix_list (pe_fld (pv 0) rfl) (pv 1) (fun _ _ => rfl)))), ?_⟩
    refine ⟨_, rfl, m, dx, _, rfl, hm, rfl, _, rfl, m, c, dx, xs, a, rfl, ⟨hm, hc⟩, hb, ?_⟩
    by_cases g : 0 ≤ a ∧ a < xs.length
    · rw [if_pos g] at k ⊢
      have hl : a.toNat < xs.length := by omega
      exact ⟨_, rfl, m, CM, dx, _, .ref c, rfl, hm, M.c, M.n, rfl, _, rfl, c, xs, a, _, rfl, rfl, SqL.of hc, at_int g.1 (List.getElem?_eq_getElem hl), k _ (List.getElem?_eq_getElem hl)⟩
    · rw [if_neg g] at k ⊢
      exact k
/-- put -/
def spPut (CM BA : Addr) : Sp := fun vs H Q E => ∃ m c dx xs v, ∃ a : Int, vs = [.ref m, .int a, v] ∧ Mem CM H m c dx xs ∧ a.natAbs.log2 < 1920 ∧ (if 0 ≤ a ∧ a < xs.length then Q .non (upd H c (.lst (xs.set a.toNat v))) else ∀ H', Same H H' → E (.ref BA) none H')
theorem ok_put {f : Addr} {fd fdL : FuncData} (F : Fun K "put" "Memory.put" sPut f fd) (T : Txt K mg CH d0 fXI) (M : MemC K CM fMI fSz fAt fPut fCp fLk) (GL : FnOk P w K mg base (CXE P w) 3 fLk fdL ["self", "a"] (spLk CM d0)) (bL : Binds K fdL ["self", "a"] []) :
    FnOk P w K mg base (CXE P w) 4 f fd ["self", "a", "word"] (spPut CM d0) := by
  refine F.okE (N := ["self", "a", "word"]) ⟨rfl, rfl, rfl, by decide +kernel, rfl, by decide +kernel, by decide +kernel⟩ (fun vs H Q E h => ?_) (fun cdv A outer s H vs Q E hr h => ?_)
  · obtain ⟨m, c, dx, xs, v, a, rfl, _⟩ := h
    rfl
  · obtain ⟨m, c, dx, xs, v, a, rfl, ⟨hm, hc⟩, hb, k⟩ := h
    refine ⟨_, pss_cons (ps_expr (xe_meth (pv 0) M.c M.lk GL hr bL .nil (Passes.x (passE fun _ _ _ q => q)) (pa_cons (pv 1) pa_nil))) (pss_one (ps_asg (pv 2) (pg_sub (pe_fld (pv 0) rfl) (pv 1) set_list))), ?_⟩
    refine ⟨_, rfl, m, dx, _, rfl, hm, rfl, _, rfl, m, c, dx, xs, a, rfl, ⟨hm, hc⟩, hb, ?_⟩
    by_cases g : 0 ≤ a ∧ a < xs.length
    · rw [if_pos g] at k ⊢
      refine ⟨_, rfl, _, rfl, m, CM, dx, _, .ref c, rfl, hm, M.c, M.n, rfl, _, rfl, c, xs, a, a.toNat, rfl, rfl, hc, ?_, k⟩
      unfold ixN
      rw [if_pos g.1, if_pos g.2]
    · rw [if_neg g] at k ⊢
      exact k
/-- size -/
def spSize (CM : Addr) : Sp := fun vs H Q _ => ∃ m c dx xs, vs = [.ref m] ∧ Mem CM H m c dx xs ∧ Q (.int xs.length) H
theorem ok_size {f : Addr} {fd : FuncData} (F : Fun K "size" "Memory.size" sSize f fd) (T : Txt K mg CH d0 fXI) (M : MemC K CM fMI fSz fAt fPut fCp fLk) : FnOk P w K mg base (CXE P w) 1 f fd ["self"] (spSize CM) := by
  refine F.okE (N := ["self"]) ⟨rfl, rfl, rfl, by decide +kernel, rfl, by decide +kernel, by decide +kernel⟩ (fun vs H Q E h => ?_) (fun cdv A outer s H vs Q E hr h => ?_)
  · obtain ⟨m, c, dx, xs, rfl, _⟩ := h
    rfl
  · obtain ⟨m, c, dx, xs, rfl, ⟨hm, hc⟩, k⟩ := h
    refine ⟨_, pss_one (ps_ret (pe_callB call_len_seq rfl T.z_len PyProof.Rows.Boot.«len» (pa_cons (pe_fld (pv 0) rfl) pa_nil))), ?_⟩
    exact ⟨_, rfl, m, CM, dx, _, .ref c, rfl, hm, M.c, M.n, rfl, c, xs, rfl, .inl (SqL.of hc), k⟩
end
end K34
end
section
set_option Elab.async false
set_option linter.all false
set_option maxRecDepth 100000
set_option maxHeartbeats 4000000
set_option exponentiation.threshold 4000
namespace K34
open PySem L2 LX
section
variable {P : Program} {w : World} {K : PySem.W.Frag} {mg : Str → Option Value} {base : Heap} {CH d0 fXI : Addr} {CM fMI fSz fAt fPut fCp fLk : Addr}
theorem sqT_mono {H H' : Hp} {a : Addr} {xs : List V} (e : Same H H') (h : SqT K H a xs) : SqT K H' a xs := by
  rcases h with (h | ⟨o, h⟩) | h
  · exact .inl (.inl (e _ _ h))
  · exact .inl (.inr ⟨o, e _ _ h⟩)
  · exact .inr h
/-- alike to a depth -/
def Dp : Nat → Hp → V → V → Prop
  | 0, _, u, v => u = v ∧ (v = .non ∨ (∃ n : Int, v = .int n) ∨ ∃ z : Str, v = .str z)
  | n + 1, H, u, v => (u = v ∧ (v = .non ∨ (∃ n : Int, v = .int n) ∨ ∃ z : Str, v = .str z)) ∨ ∃ (s t : Addr) (xs ys : List V), u = .ref s ∧ v = .ref t ∧ ((H s = some (.tup xs) ∧ H t = some (.tup ys)) ∨ (H s = some (.lst xs) ∧ H t = some (.lst ys))) ∧ xs.length = ys.length ∧ ys.length ≤ 100 ∧
      ∀ (i : Nat) (x y : V), xs[i]? = some x → ys[i]? = some y → Dp n H x y
theorem Dp.mono {H H' : Hp} (s : Same H H') : ∀ {n : Nat} {u v : V}, Dp n H u v → Dp n H' u v
  | 0, _, _, h => h
  | n + 1, _, _, h => by
    rcases h with h | ⟨a, b, xs, ys, e1, e2, e3, e4, e5, e6⟩
    · exact .inl h
    · refine .inr ⟨a, b, xs, ys, e1, e2, ?_, e4, e5, fun i x y hx hy => Dp.mono s (e6 i x y hx hy)⟩
      rcases e3 with ⟨g1, g2⟩ | ⟨g1, g2⟩
      · exact .inl ⟨s _ _ g1, s _ _ g2⟩
      · exact .inr ⟨s _ _ g1, s _ _ g2⟩
theorem Dp.up {H : Hp} : ∀ {n : Nat} {u v : V}, Dp n H u v → Dp (n + 1) H u v
  | 0, _, _, h => .inl h
  | n + 1, _, _, h => by
    rcases h with h | ⟨a, b, xs, ys, e1, e2, e3, e4, e5, e6⟩
    · exact .inl h
    · exact .inr ⟨a, b, xs, ys, e1, e2, e3, e4, e5, fun i x y hx hy => Dp.up (e6 i x y hx hy)⟩
def spAl (n : Nat) : Sp := fun vs H Q _ => ∃ u v, vs = [u, v] ∧ Dp n H u v ∧ ∀ H', Same H H' → Q (.bl true) H'
theorem scA : FnScope ["found", "due"] ["found", "due"] (defScope sAlike) := ⟨rfl, rfl, rfl, by decide +kernel, rfl, by decide +kernel, by decide +kernel⟩
theorem ok_al0 {f : Addr} {fd : FuncData} (F : Fun K "_law_alike" "_law_alike" sAlike f fd) (T : Txt K mg CH d0 fXI) : FnOk P w K mg base (CXE P w) 1 f fd ["found", "due"] (spAl 0) := by
  refine F.okE scA (fun vs H Q E h => ?_) (fun cdv A outer s H vs Q E hr h => ?_)
  · obtain ⟨u, v, rfl, _⟩ := h
    rfl
  · obtain ⟨u, v, rfl, ⟨rfl, hv⟩, k⟩ := h
    refine ⟨_, pss_cons (ps_if (pt_cmpR op_isN (pv 1) pe_non (nomark _)) (pss_one (ps_ret (pe_cmpR op_isN (pv 0) pe_non (nomark _)))) pss_nil)
      (pss_cons (ps_if (pt_val (pe_callB call_isiT rfl T.z_isinstance PyProof.Rows.Boot.«isinstance» (pa_cons (pv 1) (pa_cons (pe_ty rfl T.z_str PyProof.Rows.Boot.«str») pa_nil))))
          (pss_one (ps_ret (pe_and (pe_callB call_isiT rfl T.z_isinstance PyProof.Rows.Boot.«isinstance» (pa_cons (pv 0) (pa_cons (pe_ty rfl T.z_str PyProof.Rows.Boot.«str») pa_nil))) (pe_one (pe_cmpR op_eq (pv 0) (pv 1) (nomark _)))))) pss_nil)
      (pss_cons (ps_if (pt_val (pe_callB call_isiT rfl T.z_isinstance PyProof.Rows.Boot.«isinstance» (pa_cons (pv 1) (pa_cons (pe_ty rfl T.z_int PyProof.Rows.Boot.«int») pa_nil))))
          (pss_one (ps_ret (pe_and (pe_callB call_isiT rfl T.z_isinstance PyProof.Rows.Boot.«isinstance» (pa_cons (pv 0) (pa_cons (pe_ty rfl T.z_int PyProof.Rows.Boot.«int») pa_nil)))
            (pe_and (pe_not (pe_callB call_isiT rfl T.z_isinstance PyProof.Rows.Boot.«isinstance» (pa_cons (pv 0) (pa_cons (pe_ty rfl T.z_bool PyProof.Rows.Boot.«bool») pa_nil)))) (pe_one (pe_cmpR op_eq (pv 0) (pv 1) (nomark _))))))) pss_nil)
      pss_never)), ?_⟩
    rcases hv with rfl | ⟨n, rfl⟩ | ⟨z, rfl⟩
    · refine ⟨_, rfl, rfl, _, rfl, ite2 (fun _ => ⟨_, rfl, rfl, ?_⟩) (fun h => by simp at h)⟩
      rw [decide_eq_true rfl]
      exact k H (Same.refl _)
    · refine ⟨_, rfl, rfl, _, rfl, ite2 (fun h => by simp at h) (fun _ => ?_)⟩
      refine isi_readT (x := .int n) (t := .type "int") (b := false) rfl (.of (.int n)) (by kernel_rfl) ⟨_, rfl, iteF ?_⟩
      refine isi_readT (x := .int n) (t := .type "int") (b := true) rfl (.of (.int n)) rfl ⟨_, rfl, iteT ?_⟩
      refine isi_readT (x := .int n) (t := .type "int") (b := true) rfl (.of (.int n)) rfl ⟨_, rfl, iteT ?_⟩
      refine isi_readT (x := .int n) (t := .type "int") (b := false) rfl (.of (.int n)) (by kernel_rfl) ⟨_, rfl, _, rfl, iteT ?_⟩
      refine ⟨_, rfl, _, rfl, rfl, ?_⟩
      rw [decide_eq_true rfl]
      exact k H (Same.refl _)
    · refine ⟨_, rfl, rfl, _, rfl, ite2 (fun h => by simp at h) (fun _ => ?_)⟩
      refine isi_readT (x := .str z) (t := .type "str") (b := true) rfl (.of (.str z)) rfl ⟨_, rfl, iteT ?_⟩
      refine isi_readT (x := .str z) (t := .type "str") (b := true) rfl (.of (.str z)) rfl ⟨_, rfl, iteT ?_⟩
      refine ⟨_, rfl, _, rfl, rfl, ?_⟩
      rw [decide_eq_true rfl]
      exact k H (Same.refl _)
abbrev cmp? : Stmt → Option Expr
  | .Assign _ e _ => some e
  | .Return (some (.BoolOp _ [_, .Call _ [e] _ _] _)) _ => some e
  | .Return (some (.Call _ [e] _ _)) _ => some e
  | .Return (some (.Tuple [_, e] _ _)) _ => some e
  | _ => none
def scopeOf : Option Expr → Scope
  | some (.ListComp _ _ sc _) => sc
  | _ => default
abbrev scpA : Scope := scopeOf (cmp? ((defBody sAlike).getLast!))
theorem cA : CompP (defScope sAlike) scpA "k" ["found", "due"] ["found", "due"] [0, 1] := by decide +kernel
theorem ok_alS {n : Nat} {f : Addr} {fd : FuncData} (F : Fun K "_law_alike" "_law_alike" sAlike f fd) (T : Txt K mg CH d0 fXI) (mA : mg "_law_alike" = some (.ref f)) (kA : PySem.W.keepIn K (.ref f) = true) (bA : Binds K fd ["found", "due"] [])
    (G0 : FnOk P w K mg base (CXE P w) (n + 1) f fd ["found", "due"] (spAl n)) : FnOk P w K mg base (CXE P w) (n + 2) f fd ["found", "due"] (spAl (n + 1)) := by
  refine F.okE scA (fun vs H Q E h => ?_) (fun cdv A outer s H vs Q E hr h => ?_)
  · obtain ⟨u, v, rfl, _⟩ := h
    rfl
  · obtain ⟨u, v, rfl, hd, k⟩ := h
    have co : CompOk (cxE P w K mg base ["found", "due"] "_law_alike" (defScope sAlike) f cdv A outer s H E).nox scpA [("found", s.heap.objs.size + 1), ("due", s.heap.objs.size + 1 + 1)] "k" [0, 1] ["k", "found", "due"] :=
      comp_ok rfl rfl rfl cA rfl rfl (by
        intro q hq
        rcases List.mem_cons.mp hq with rfl | hq
        · rfl
        · rw [List.mem_singleton.mp hq]
          rfl)
    refine ⟨_, PSs.nox (pss_cons (ps_if (pt_cmpR op_isN (pv 1) pe_non (nomark _)) (pss_one (ps_ret (pe_cmpR op_isN (pv 0) pe_non (nomark _)))) pss_nil)
      (pss_cons (ps_if (pt_val (pe_callB call_isiT rfl T.z_isinstance PyProof.Rows.Boot.«isinstance» (pa_cons (pv 1) (pa_cons (pe_ty rfl T.z_str PyProof.Rows.Boot.«str») pa_nil))))
          (pss_one (ps_ret (pe_and (pe_callB call_isiT rfl T.z_isinstance PyProof.Rows.Boot.«isinstance» (pa_cons (pv 0) (pa_cons (pe_ty rfl T.z_str PyProof.Rows.Boot.«str») pa_nil))) (pe_one (pe_cmpR op_eq (pv 0) (pv 1) (nomark _)))))) pss_nil)
      (pss_cons (ps_if (pt_val (pe_callB call_isiT rfl T.z_isinstance PyProof.Rows.Boot.«isinstance» (pa_cons (pv 1) (pa_cons (pe_ty rfl T.z_int PyProof.Rows.Boot.«int») pa_nil))))
          (pss_one (ps_ret (pe_and (pe_callB call_isiT rfl T.z_isinstance PyProof.Rows.Boot.«isinstance» (pa_cons (pv 0) (pa_cons (pe_ty rfl T.z_int PyProof.Rows.Boot.«int») pa_nil)))
            (pe_and (pe_not (pe_callB call_isiT rfl T.z_isinstance PyProof.Rows.Boot.«isinstance» (pa_cons (pv 0) (pa_cons (pe_ty rfl T.z_bool PyProof.Rows.Boot.«bool») pa_nil)))) (pe_one (pe_cmpR op_eq (pv 0) (pv 1) (nomark _))))))) pss_nil)
      (pss_cons (ps_if (PW.pt (pw_or (pt_cmpR op_ne (pe_callB call_isiT rfl T.z_isinstance PyProof.Rows.Boot.«isinstance» (pa_cons (pv 1) (pa_cons (pe_ty rfl T.z_tuple PyProof.Rows.Boot.«tuple») pa_nil))) (pe_callB call_isiT rfl T.z_isinstance PyProof.Rows.Boot.«isinstance» (pa_cons (pv 0) (pa_cons (pe_ty rfl T.z_tuple PyProof.Rows.Boot.«tuple») pa_nil))) (nomark _))
          (pw_or1 (pt_cmpR op_ne (pe_callB call_isiT rfl T.z_isinstance PyProof.Rows.Boot.«isinstance» (pa_cons (pv 1) (pa_cons (pe_ty rfl T.z_list PyProof.Rows.Boot.«list») pa_nil))) (pe_callB call_isiT rfl T.z_isinstance PyProof.Rows.Boot.«isinstance» (pa_cons (pv 0) (pa_cons (pe_ty rfl T.z_list PyProof.Rows.Boot.«list») pa_nil))) (nomark _))))) (pss_one (ps_ret pe_bl)) pss_nil)
      (pss_one (ps_ret (pe_and (pe_cmpR op_eq (pe_callB call_len_seq rfl T.z_len PyProof.Rows.Boot.«len» (pa_cons (pv 0) pa_nil)) (pe_callB call_len_seq rfl T.z_len PyProof.Rows.Boot.«len» (pa_cons (pv 1) pa_nil)) (nomark _))
        (pe_one (pe_callB (call_all rfl) rfl T.z_all PyProof.Rows.Boot.«all» (pa_cons (pe_comp co rfl (pi_range1 rfl T.z_range (pa_cons (pe_callB call_len_seq rfl T.z_len PyProof.Rows.Boot.«len» (pa_cons (pv 1) pa_nil)) pa_nil))
          (fun C fp s₀ H₀ => xe_call G0 hr rfl mA kA bA .nil passF (pa_cons (pe_ix (r := rIx K) ix_seq (pv 1) (pv 0) (fun _ _ => rfl)) (pa_cons (pe_ix (r := rIx K) ix_seq (pv 2) (pv 0) (fun _ _ => rfl)) pa_nil)))) pa_nil)))))))))), ?_⟩
    rcases hd with ⟨rfl, hv⟩ | ⟨a, b, xs, ys, rfl, rfl, e3, hlen, hz, hy⟩
    · rcases hv with rfl | ⟨n, rfl⟩ | ⟨z, rfl⟩
      · refine ⟨_, rfl, rfl, _, rfl, ite2 (fun _ => ⟨_, rfl, rfl, ?_⟩) (fun h => by simp at h)⟩
        rw [decide_eq_true rfl]
        exact k H (Same.refl _)
      · refine ⟨_, rfl, rfl, _, rfl, ite2 (fun h => by simp at h) (fun _ => ?_)⟩
        refine isi_readT (x := .int n) (t := .type "int") (b := false) rfl (.of (.int n)) (by kernel_rfl) ⟨_, rfl, iteF ?_⟩
        refine isi_readT (x := .int n) (t := .type "int") (b := true) rfl (.of (.int n)) rfl ⟨_, rfl, iteT ?_⟩
        refine isi_readT (x := .int n) (t := .type "int") (b := true) rfl (.of (.int n)) rfl ⟨_, rfl, iteT ?_⟩
        refine isi_readT (x := .int n) (t := .type "int") (b := false) rfl (.of (.int n)) (by kernel_rfl) ⟨_, rfl, _, rfl, iteT ?_⟩
        refine ⟨_, rfl, _, rfl, rfl, ?_⟩
        rw [decide_eq_true rfl]
        exact k H (Same.refl _)
      · refine ⟨_, rfl, rfl, _, rfl, ite2 (fun h => by simp at h) (fun _ => ?_)⟩
        refine isi_readT (x := .str z) (t := .type "str") (b := true) rfl (.of (.str z)) rfl ⟨_, rfl, iteT ?_⟩
        refine isi_readT (x := .str z) (t := .type "str") (b := true) rfl (.of (.str z)) rfl ⟨_, rfl, iteT ?_⟩
        refine ⟨_, rfl, _, rfl, rfl, ?_⟩
        rw [decide_eq_true rfl]
        exact k H (Same.refl _)
    · have tys : ∃ (t : String) (ib il : Bool), TyX K H (.ref a) (.type t) ∧ TyX K H (.ref b) (.type t) ∧ PySem.W.kitOne K (.type t) (.type "str") = some false ∧ PySem.W.kitOne K (.type t) (.type "int") = some false ∧ PySem.W.kitOne K (.type t) (.type "tuple") = some ib ∧ PySem.W.kitOne K (.type t) (.type "list") = some il ∧
          (SqL K H a xs ∨ SqT K H a xs) ∧ (SqL K H b ys ∨ SqT K H b ys) := by
        rcases e3 with ⟨g1, g2⟩ | ⟨g1, g2⟩
        · exact ⟨"tuple", true, false, .of (.tup g1), .of (.tup g2), by kernel_rfl, by kernel_rfl, rfl, by kernel_rfl, .inr (SqT.of g1), .inr (SqT.of g2)⟩
        · exact ⟨"list", false, true, .of (.lst g1), .of (.lst g2), by kernel_rfl, by kernel_rfl, by kernel_rfl, rfl, .inl (SqL.of g1), .inl (SqL.of g2)⟩
      obtain ⟨t, ib, il, ta, tb, k1, k2, k3, k4, qa, qb⟩ := tys
      refine ⟨_, rfl, rfl, _, rfl, ite2 (fun h => by simp at h) (fun _ => ?_)⟩
      refine isi_readT (x := .ref b) (t := .type t) (b := false) rfl tb k1 ⟨_, rfl, iteF ?_⟩
      refine isi_readT (x := .ref b) (t := .type t) (b := false) rfl tb k2 ⟨_, rfl, iteF ?_⟩
      refine isi_readT (x := .ref b) (t := .type t) (b := ib) rfl tb k3 (isi_readT (x := .ref a) (t := .type t) (b := ib) rfl ta k3 ⟨rfl, _, rfl, iteNS rfl ?_⟩)
      refine isi_readT (x := .ref b) (t := .type t) (b := il) rfl tb k4 (isi_readT (x := .ref a) (t := .type t) (b := il) rfl ta k4 ⟨rfl, _, rfl, iteNS rfl ?_⟩)
      have h62 : (ys.length : Int) < 2 ^ 62 := by omega
      refine ⟨_, rfl, a, xs, rfl, qa, _, rfl, b, ys, rfl, qb, rfl, _, rfl, ?_⟩
      rw [decide_eq_true (show V.int (xs.length : Int) = V.int (ys.length : Int) by rw [hlen])]
      refine iteT ⟨_, rfl, b, ys, rfl, qb, (ys.length : Int), rfl, by omega, h62, fun D hD => ?_⟩
      refine comp_range (lo := 0) (n := ys.length) (fun i zs H2 => zs = List.replicate i (.bl true) ∧ Same H H2 ∧ H2 D = some (.lst zs)) ⟨rfl, Same.upd hD, upd_same⟩ (fun i zs H2 _ ⟨e, _, z⟩ => ⟨z, by rw [e, List.length_replicate]⟩) (Nat.le_trans hz (by decide)) (fun i zs H2 hi ⟨e, s2, z⟩ => ?_) (fun zs H2 ⟨e, s2, z⟩ => ?_)
      · have hix : i < xs.length := by omega
        have gx : xs[i]? = some xs[i] := List.getElem?_eq_getElem hix
        have gy : ys[i]? = some ys[i] := List.getElem?_eq_getElem hi
        have ei : (0 + (i : Int)).toNat = i := by omega
        have ax : atI xs (0 + (i : Int)) = some xs[i] := at_int (by omega) (by rw [ei]; exact gx)
        have ay : atI ys (0 + (i : Int)) = some ys[i] := at_int (by omega) (by rw [ei]; exact gy)
        have six : ∀ {p : Addr} {us : List V} {v : V} {Q : VK}, (SqL K H p us ∨ SqT K H p us) → atI us (0 + (i : Int)) = some v → Q v H2 → rIx K (.ref p) (.int (0 + (i : Int))) H2 Q := fun {p us v Q} q h1 h2 => by
          rcases q with q | q
          · exact .inl ⟨p, us, _, v, rfl, rfl, s2.seq q, h1, h2⟩
          · exact .inr (.inl ⟨p, us, _, v, rfl, rfl, sqT_mono s2 q, h1, h2⟩)
        refine ⟨_, rfl, _, rfl, six qa ax ?_⟩
        refine ⟨_, rfl, _, rfl, six qb ay ?_⟩
        refine ⟨_, _, rfl, (hy i _ _ gx gy).mono s2, fun H3 s3 => ⟨s3 _ _ z, ?_, ?_, upd_same⟩⟩
        · rw [e, List.replicate_succ']
        · exact fun b u q => by rw [upd_ne (ne_of_none q hD)]; exact s3 _ _ (s2 b u q)
      · refine ⟨D, List.replicate ys.length true, rfl, SqL.of (by rw [List.map_replicate, ← e]; exact z), ?_⟩
        rw [show (List.replicate ys.length true).all id = true by simp]
        exact k _ s2
theorem ok_al {f : Addr} {fd : FuncData} (F : Fun K "_law_alike" "_law_alike" sAlike f fd) (T : Txt K mg CH d0 fXI) (mA : mg "_law_alike" = some (.ref f)) (kA : PySem.W.keepIn K (.ref f) = true) (bA : Binds K fd ["found", "due"] []) : ∀ n, FnOk P w K mg base (CXE P w) (n + 1) f fd ["found", "due"] (spAl n)
  | 0 => ok_al0 F T
  | n + 1 => ok_alS F T mA kA bA (ok_al F T mA kA bA n)
end
end K34
end
section
set_option Elab.async false
set_option linter.all false
set_option maxRecDepth 100000
set_option maxHeartbeats 4000000
set_option exponentiation.threshold 4000
namespace K34
open PySem L2 LX
/-- a word's content -/
inductive Wc where
  | no
  | num (n : Int)
  | ad (a : Int)
  | hd (t n : Int)
  | mv (a n : Int)
def Wc.its : Wc → List V
  | .no => []
  | .num n => [.str "number", .int n]
  | .ad a => [.str "at", .int a]
  | .hd t n => [.str "head", .int t, .int n]
  | .mv a n => [.str "moved", .int a, .int n]
def Wc.kind : Wc → Str
  | .no => "none"
  | .num _ => "number"
  | .ad _ => "at"
  | .hd _ _ => "head"
  | .mv _ _ => "moved"
def WV (H : Hp) (v : V) : Wc → Prop
  | .no => v = .non
  | .num n => ∃ t, v = .ref t ∧ H t = some (.tup (Wc.its (.num n)))
  | .ad a => ∃ t, v = .ref t ∧ H t = some (.tup (Wc.its (.ad a)))
  | .hd t' n => ∃ t, v = .ref t ∧ H t = some (.tup (Wc.its (.hd t' n)))
  | .mv a n => ∃ t, v = .ref t ∧ H t = some (.tup (Wc.its (.mv a n)))
theorem WV.cases {H : Hp} {v : V} {w : Wc} (h : WV H v w) : (w = .no ∧ v = .non) ∨ ∃ t, v = .ref t ∧ H t = some (.tup w.its) := by
  cases w with
  | no => exact .inl ⟨rfl, h⟩
  | num n => exact .inr h
  | ad a => exact .inr h
  | hd t n => exact .inr h
  | mv a n => exact .inr h
theorem WV.keep {H H' : Hp} {v : V} {w : Wc} (h : WV H v w) (s : ∀ t us, H t = some (.tup us) → H' t = some (.tup us)) : WV H' v w := by
  cases w with
  | no => exact h
  | num n => obtain ⟨t, e, q⟩ := h; exact ⟨t, e, s _ _ q⟩
  | ad a => obtain ⟨t, e, q⟩ := h; exact ⟨t, e, s _ _ q⟩
  | hd t' n => obtain ⟨t, e, q⟩ := h; exact ⟨t, e, s _ _ q⟩
  | mv a n => obtain ⟨t, e, q⟩ := h; exact ⟨t, e, s _ _ q⟩
/-- tuples stay -/
def Tups (H H' : Hp) : Prop := ∀ t us, H t = some (.tup us) → H' t = some (.tup us)
theorem Tups.of {H H' : Hp} (s : Same H H') : Tups H H' := fun t us q => s _ _ q
theorem Tups.set {H : Hp} {c : Addr} {xs : List V} {o : HO} (h : H c = some (.lst xs)) : Tups H (upd H c o) := fun t us q => by
  rw [upd_ne (ne_of q h (by intro z; cases z))]
  exact q
/-- words and their contents -/
def Rel (H : Hp) (xs : List V) (ws : List Wc) : Prop := xs.length = ws.length ∧ ∀ (i : Nat) (v : V) (w : Wc), xs[i]? = some v → ws[i]? = some w → WV H v w
theorem Rel.keep {H H' : Hp} {xs : List V} {ws : List Wc} (h : Rel H xs ws) (s : Tups H H') : Rel H' xs ws := ⟨h.1, fun i v w a b => (h.2 i v w a b).keep s⟩
theorem Rel.set {H : Hp} {xs : List V} {ws : List Wc} {i : Nat} {v : V} {w : Wc} (h : Rel H xs ws) (hv : WV H v w) : Rel H (xs.set i v) (ws.set i w) := by
  refine ⟨by rw [List.length_set, List.length_set]; exact h.1, fun j u y a b => ?_⟩
  by_cases e : i = j
  · subst e
    rw [List.getElem?_set] at a b
    simp only [if_true] at a b
    split at a
    · split at b
      · cases a; cases b; exact hv
      · cases b
    · cases a
  · rw [List.getElem?_set_ne e] at a b
    exact h.2 j u y a b
def Rk (ws : List Wc) : Prop := ∃ rk : Nat → Nat, ∀ (i : Nat) (b n : Int), ws[i]? = some (.mv b n) → rk b.toNat < rk i
structure Good (ws : List Wc) : Prop where
  len : ws.length = 50
  hd : ∀ w ∈ ws, ∀ t n, w = .hd t n → 0 ≤ n ∧ n ≤ 6
  mv : ∀ w ∈ ws, ∀ b n, w = .mv b n → 0 ≤ b ∧ b < 50 ∧ 0 ≤ n ∧ n ≤ 6
  rk : Rk ws
/-- the thing that stands at a -/
def thg (ws : List Wc) (a : Int) : Option (Int × Int) := if 0 ≤ a then (match ws[a.toNat]? with | some (.hd t n) => if a + n < ws.length then some (t, n) else none | _ => none) else none
theorem thg_some {ws : List Wc} {a t n : Int} (h : thg ws a = some (t, n)) : 0 ≤ a ∧ ws[a.toNat]? = some (.hd t n) ∧ a + n < ws.length := by
  unfold thg at h
  split at h
  · rename_i h0
    split at h
    · rename_i t' n' e
      split at h
      · rename_i hl
        cases h
        exact ⟨h0, e, hl⟩
      · cases h
    · cases h
  · cases h
section
variable {P : Program} {w : World} {K : PySem.W.Frag} {mg : Str → Option Value} {base : Heap} {CH d0 fXI : Addr} {CM fMI fSz fAt fPut fCp fLk : Addr}
structure MW (CM : Addr) (H : Hp) (m c dx : Addr) (xs : List V) (ws : List Wc) : Prop where
  mem : Mem CM H m c dx xs
  rel : Rel H xs ws
  good : Good ws
theorem MW.len {H : Hp} {m c dx : Addr} {xs : List V} {ws : List Wc} (h : MW CM H m c dx xs ws) : xs.length = 50 := h.rel.1.trans h.good.len
theorem MW.at_ {H : Hp} {m c dx : Addr} {xs : List V} {ws : List Wc} (h : MW CM H m c dx xs ws) {a : Int} (h0 : 0 ≤ a) (h1 : a < 50) : ∃ v wd, xs[a.toNat]? = some v ∧ ws[a.toNat]? = some wd ∧ WV H v wd := by
  have hx : a.toNat < xs.length := by rw [h.len]; omega
  have hw : a.toNat < ws.length := by rw [h.good.len]; omega
  exact ⟨_, _, List.getElem?_eq_getElem hx, List.getElem?_eq_getElem hw, h.rel.2 _ _ _ (List.getElem?_eq_getElem hx) (List.getElem?_eq_getElem hw)⟩
theorem MW.hd {H : Hp} {m c dx : Addr} {xs : List V} {ws : List Wc} (h : MW CM H m c dx xs ws) {i : Nat} {t n : Int} (e : ws[i]? = some (.hd t n)) : 0 ≤ n ∧ n ≤ 6 := h.good.hd _ (List.mem_of_getElem? e) t n rfl
theorem MW.same {H H' : Hp} {m c dx : Addr} {xs : List V} {ws : List Wc} (h : MW CM H m c dx xs ws) (s : Same H H') : MW CM H' m c dx xs ws := ⟨⟨s _ _ h.mem.1, s _ _ h.mem.2⟩, h.rel.keep (Tups.of s), h.good⟩
theorem none_of_same {H H' : Hp} {b : Addr} (s : Same H H') (h : H' b = none) : H b = none := by
  cases g : H b with
  | none => rfl
  | some u => rw [s _ _ g] at h; cases h
theorem log7 {n : Int} (h0 : -1000 ≤ n) (h1 : n ≤ 1000) : n.natAbs.log2 < 1920 := log_small (Nat.lt_trans (show n.natAbs < 2000 by omega) (by decide))
/-- kind_of -/
def spKind : Sp := fun vs H Q _ => ∃ v wd, vs = [v] ∧ WV H v wd ∧ Q (.str wd.kind) H
theorem ok_kind {f : Addr} {fd : FuncData} (F : Fun K "kind_of" "kind_of" sKind f fd) : FnOk P w K mg base (CXE P w) 1 f fd ["value"] spKind := by
  refine F.okE (N := ["value"]) ⟨rfl, rfl, rfl, by decide +kernel, rfl, by decide +kernel, by decide +kernel⟩ (fun vs H Q E h => ?_) (fun cdv A outer s H vs Q E hr h => ?_)
  · obtain ⟨v, wd, rfl, _⟩ := h
    rfl
  · obtain ⟨v, wd, rfl, hv, k⟩ := h
    refine ⟨_, pss_one (ps_ret (pe_ifExp (pt_cmpR op_isN (pv 0) pe_non (nomark _)) pe_str (pe_ix ix_tup (pv 0) pe_int (fun _ _ => rfl)))), ?_⟩
    rcases hv.cases with ⟨rfl, rfl⟩ | ⟨t, rfl, ht⟩
    · exact ⟨_, rfl, rfl, _, rfl, ite2 (fun _ => k) (fun h => by simp at h)⟩
    · refine ⟨_, rfl, rfl, _, rfl, ite2 (fun h => by simp at h) (fun _ => ?_)⟩
      cases wd with
      | no => cases (show V.ref t = V.non from hv)
      | num n => exact ⟨_, rfl, t, _, 0, _, rfl, rfl, SqT.of ht, rfl, k⟩
      | ad a => exact ⟨_, rfl, t, _, 0, _, rfl, rfl, SqT.of ht, rfl, k⟩
      | hd t' n => exact ⟨_, rfl, t, _, 0, _, rfl, rfl, SqT.of ht, rfl, k⟩
      | mv a n => exact ⟨_, rfl, t, _, 0, _, rfl, rfl, SqT.of ht, rfl, k⟩
/-- look_at_room -/
def spRoom (CM BA : Addr) : Sp := fun vs H Q E => ∃ m c dx xs, ∃ a n : Int, vs = [.ref m, .int a, .int n] ∧ Mem CM H m c dx xs ∧ a.natAbs.log2 < 1920 ∧ n.natAbs.log2 < 1920 ∧ (if a < 0 ∨ (xs.length : Int) ≤ a + n then ∀ H', Same H H' → E (.ref BA) none H' else Q .non H)
theorem ok_room {f : Addr} {fd fdX fdfSz : FuncData} (F : Fun K "look_at_room" "look_at_room" sRoom f fd) (T : Txt K mg CH d0 fXI) (M : MemC K CM fMI fSz fAt fPut fCp fLk) (GX : FnOk P w K mg base (CXE P w) 1 fXI fdX ["self", "text"] (spXI K)) (bX : Binds K fdX ["self", "text"] []) (GfSz : FnOk P w K mg base (CXE P w) 1 fSz fdfSz ["self"] (spSize CM)) (bfSz : Binds K fdfSz ["self"] []) : FnOk P w K mg base (CXE P w) 3 f fd ["memory", "a", "fields"] (spRoom CM d0) := by
  refine F.okE (N := ["memory", "a", "fields"]) ⟨rfl, rfl, rfl, by decide +kernel, rfl, by decide +kernel, by decide +kernel⟩ (fun vs H Q E h => ?_) (fun cdv A outer s H vs Q E hr h => ?_)
  · obtain ⟨m, c, dx, xs, a, n, rfl, _⟩ := h
    rfl
  · obtain ⟨m, c, dx, xs, a, n, rfl, ⟨hm, hc⟩, ha, hn, k⟩ := h
    refine ⟨_, pss_one (ps_if (PW.pt (pw_or (pt_cmpR op_lt (pv 1) pe_int (nomark _)) (pw_or1 (pt_cmpR op_ge (pe_op op_add (pv 1) (pv 2)) (xe_meth0 (pv 0) M.c M.sz GfSz (hr.mono (by decide)) bfSz .nil (Passes.x (passE fun _ _ _ q => q))) (nomark _))))) (pss_one (ps_raise rfl raiseE (xe_err T.mx0 GX (hr.mono (by decide)) rfl T.m0 bX (Passes.x (passE fun _ _ _ q => q)) (pa_cons (pe_fstr (pfs_cons pf_text (pfs_cons (pf_num (pv 2)) (pfs_cons pf_text (pfs_cons (pf_num (pv 1)) pfs_nil))))) pa_nil)))) pss_nil), ?_⟩
    refine ⟨_, rfl, a, 0, rfl, rfl, _, rfl, ite2 (fun h => ?_) (fun h => ?_)⟩
    · simp only [decide_eq_true_eq] at h
      rw [if_pos (.inl h)] at k
      refine iteT ?_
      exact ⟨_, rfl, n, rfl, hn, _, rfl, a, rfl, ha, fun y hy ea hea => ⟨ea, d0, none, .str y, rfl, upd_same, T.c0.cls, rfl, ea, d0, none, rfl, upd_same, T.c0.cls, hea, k _ (fun b o q => (by have nb : b ≠ ea := (fun e => by rw [e, hea] at q; cases q); rw [del_ne nb, upd_ne nb]; exact q))⟩⟩
    · simp only [decide_eq_true_eq] at h
      refine ⟨_, rfl, _, rfl, a, n, rfl, rfl, _, rfl, m, dx, _, rfl, hm, rfl, m, c, dx, xs, rfl, ⟨hm, hc⟩, _, _, rfl, rfl, _, rfl, ite2 (fun g => ?_) (fun g => ?_)⟩
      · simp only [decide_eq_true_eq] at g
        rw [if_pos (.inr g)] at k
        exact ⟨_, rfl, n, rfl, hn, _, rfl, a, rfl, ha, fun y hy ea hea => ⟨ea, d0, none, .str y, rfl, upd_same, T.c0.cls, rfl, ea, d0, none, rfl, upd_same, T.c0.cls, hea, k _ (fun b o q => (by have nb : b ≠ ea := (fun e => by rw [e, hea] at q; cases q); rw [del_ne nb, upd_ne nb]; exact q))⟩⟩
      · simp only [decide_eq_true_eq] at g
        rw [if_neg (fun z => z.elim h (fun z => g z))] at k
        exact k

theorem scTo : FnScope ["memory", "a", "kinds", "word"] ["memory", "a", "kinds"] (defScope sTold) := ⟨rfl, rfl, rfl, by decide +kernel, rfl, by decide +kernel, by decide +kernel⟩
/-- fields_at -/
def spFAt (CM BA : Addr) : Sp := fun vs H Q E => ∃ m c dx xs ws, ∃ a : Int, vs = [.ref m, .int a] ∧ MW CM H m c dx xs ws ∧ a.natAbs.log2 < 1920 ∧ (match thg ws a with | some p => ∀ H', Same H H' → Q (.int p.2) H' | none => ∀ H', Same H H' → E (.ref BA) none H')
def spAddr (CM BA : Addr) : Sp := fun vs H Q E => ∃ m c dx xs ws, ∃ a kk : Int, vs = [.ref m, .int a, .int kk] ∧ MW CM H m c dx xs ws ∧ a.natAbs.log2 < 1920 ∧ kk.natAbs.log2 < 1920 ∧
  (match thg ws a with | some p => (if 0 ≤ kk ∧ kk < p.2 then ∀ H', Same H H' → Q (.int (a + 1 + kk)) H' else ∀ H', Same H H' → E (.ref BA) none H') | none => ∀ H', Same H H' → E (.ref BA) none H')
theorem ok_addr {f fFA : Addr} {fd fdX fdfFA : FuncData} (F : Fun K "field_address" "field_address" sAddr f fd) (T : Txt K mg CH d0 fXI) (GX : FnOk P w K mg base (CXE P w) 1 fXI fdX ["self", "text"] (spXI K)) (bX : Binds K fdX ["self", "text"] []) (GfFA : FnOk P w K mg base (CXE P w) 6 fFA fdfFA ["memory", "a"] (spFAt CM d0)) (mfFA : mg "fields_at" = some (.ref fFA)) (kfFA : PySem.W.keepIn K (.ref fFA) = true) (bfFA : Binds K fdfFA ["memory", "a"] []) : FnOk P w K mg base (CXE P w) 7 f fd ["memory", "a", "k"] (spAddr CM d0) := by
  refine F.okE (N := ["memory", "a", "k"]) ⟨rfl, rfl, rfl, by decide +kernel, rfl, by decide +kernel, by decide +kernel⟩ (fun vs H Q E h => ?_) (fun cdv A outer s H vs Q E hr h => ?_)
  · obtain ⟨m, c, dx, xs, ws, a, kk, rfl, _⟩ := h
    rfl
  · obtain ⟨m, c, dx, xs, ws, a, kk, rfl, W, ha, hk, k⟩ := h
    refine ⟨_, pss_cons (ps_if (pt_not (pt_chain op_le op_lt pe_int (pv 2) (xe_call GfFA hr rfl mfFA kfFA bfFA .nil (Passes.x (passE fun _ _ _ q => q)) (pa_cons (pv 0) (pa_cons (pv 1) pa_nil))))) (pss_one (ps_raise rfl raiseE (xe_err T.mx0 GX (hr.mono (by decide)) rfl T.m0 bX (Passes.x (passE fun _ _ _ q => q)) (pa_cons (pe_fstr (pfs_cons pf_text (pfs_cons (pf_num (pv 1)) (pfs_cons pf_text (pfs_cons (pf_num (pv 2)) pfs_nil))))) pa_nil)))) pss_nil)
      (pss_one (ps_ret (pe_op op_add (pe_op op_add (pv 1) pe_int) (pv 2)))), ?_⟩
    have bad : ¬ (∃ p, thg ws a = some p ∧ 0 ≤ kk ∧ kk < p.2) → ∀ H', Same H H' → E (.ref d0) none H' := fun hn => by
      cases e : thg ws a with
      | none => rw [e] at k; exact k
      | some p => rw [e] at k; simp only at k; rw [if_neg (fun z => hn ⟨p, e, z⟩)] at k; exact k
    refine ⟨.int kk, rfl, 0, kk, rfl, rfl, _, rfl, ite2 (fun h1 => ?_) (fun h1 => ⟨_, rfl, iteT ⟨_, rfl, a, rfl, ha, _, rfl, kk, rfl, hk, fun y hy ea hea => ⟨ea, d0, none, .str y, rfl, upd_same, T.c0.cls, rfl, ea, d0, none, rfl, upd_same, T.c0.cls, hea, bad (fun ⟨p, e, z1, z2⟩ => by simp only [decide_eq_true_eq] at h1; exact h1 z1) _ (fun b o q => (by have nb : b ≠ ea := (fun e => by rw [e, hea] at q; cases q); rw [del_ne nb, upd_ne nb]; exact q))⟩⟩⟩)⟩
    · simp only [decide_eq_true_eq] at h1
      refine ⟨_, rfl, _, rfl, m, c, dx, xs, ws, a, rfl, W, ha, ?_⟩
      cases e : thg ws a with
      | none => rw [e] at k; exact k
      | some p =>
        rw [e] at k
        simp only at k
        intro H1 s1
        refine ⟨kk, p.2, rfl, rfl, _, rfl, ite2 (fun h2 => ?_) (fun h2 => ?_)⟩
        · simp only [Bool.not_eq_true', decide_eq_false_iff_not] at h2
          rw [if_neg (fun z => h2 z.2)] at k
          exact ⟨_, rfl, a, rfl, ha, _, rfl, kk, rfl, hk, fun y hy ea hea => ⟨ea, d0, none, .str y, rfl, upd_same, T.c0.cls, rfl, ea, d0, none, rfl, upd_same, T.c0.cls, none_of_same s1 hea, k _ (fun b o q => (by replace q := s1 _ _ q; have nb : b ≠ ea := (fun e => by rw [e, hea] at q; cases q); rw [del_ne nb, upd_ne nb]; exact q))⟩⟩
        · simp only [Bool.not_eq_true', decide_eq_false_iff_not, Decidable.not_not] at h2
          rw [if_pos ⟨h1, h2⟩] at k
          exact ⟨_, rfl, a, 1, rfl, rfl, _, rfl, _, kk, rfl, rfl, k H1 s1⟩
end
end K34
end
section
set_option Elab.async false
set_option linter.all false
set_option maxRecDepth 100000
set_option maxHeartbeats 4000000
set_option exponentiation.threshold 4000
namespace K34
open PySem L2 LX
section
variable {P : Program} {w : World} {K : PySem.W.Frag} {mg : Str → Option Value} {base : Heap} {CH d0 fXI : Addr} {CM fMI fSz fAt fPut fCp fLk : Addr}

theorem sz_len : (100 : Nat) ≤ sizeLine := by decide
def But (c : Addr) (H H' : Hp) : Prop := ∀ b u, b ≠ c → H b = some u → H' b = some u
theorem But.of {c : Addr} {H H' : Hp} (s : Same H H') : But c H H' := fun b u _ q => s b u q
theorem But.trans {c : Addr} {H H1 H2 : Hp} (a : But c H H1) (b : But c H1 H2) : But c H H2 := fun d u n q => b d u n (a d u n q)
theorem But.set {c : Addr} {H : Hp} {o : HO} : But c H (upd H c o) := fun b u n q => by rw [upd_ne n]; exact q
/-- n words behind a -/
def seg (ws : List Wc) (a n : Int) : List Wc := (ws.drop (a + 1).toNat).take n.toNat
theorem seg_at {ws : List Wc} {a n : Int} {i : Nat} (h0 : 0 ≤ a) (hi : (i : Int) < n) : (seg ws a n)[i]? = ws[(a + 1 + i).toNat]? := by
  unfold seg
  rw [List.getElem?_take_of_lt (by omega), List.getElem?_drop]
  congr 1
  omega
theorem seg_len {ws : List Wc} {a n : Int} (h0 : 0 ≤ a) (hn : 0 ≤ n) (h : a + n < ws.length) : (seg ws a n).length = n.toNat := by
  unfold seg
  rw [List.length_take, List.length_drop]
  omega
/-- thing_at -/
def spThing (CM BA : Addr) : Sp := fun vs H Q E => ∃ m c dx xs ws, ∃ a : Int, vs = [.ref m, .int a] ∧ MW CM H m c dx xs ws ∧ a.natAbs.log2 < 1920 ∧
  (match thg ws a with | some p => ∀ q r zs H', Same H H' → H r = none → H' q = some (.tup [.int p.1, .ref r]) → H' r = some (.lst zs) → Rel H' zs (seg ws a p.2) → Q (.ref q) H' | none => ∀ H', Same H H' → E (.ref BA) none H')
theorem scTh : FnScope ["memory", "a", "fields"] ["memory", "a"] (defScope sThing) := ⟨rfl, rfl, rfl, by decide +kernel, rfl, by decide +kernel, by decide +kernel⟩
theorem ok_thing {f fFA : Addr} {fd fdfAt fdfFA : FuncData} (F : Fun K "thing_at" "thing_at" sThing f fd) (T : Txt K mg CH d0 fXI) (M : MemC K CM fMI fSz fAt fPut fCp fLk) (GfAt : FnOk P w K mg base (CXE P w) 4 fAt fdfAt ["self", "a"] (spAt CM d0)) (bfAt : Binds K fdfAt ["self", "a"] []) (GfFA : FnOk P w K mg base (CXE P w) 6 fFA fdfFA ["memory", "a"] (spFAt CM d0)) (mfFA : mg "fields_at" = some (.ref fFA)) (kfFA : PySem.W.keepIn K (.ref fFA) = true) (bfFA : Binds K fdfFA ["memory", "a"] []) : FnOk P w K mg base (CXE P w) 7 f fd ["memory", "a"] (spThing CM d0) := by
  refine F.okE scTh (fun vs H Q E h => ?_) (fun cdv A outer s H vs Q E hr h => ?_)
  · obtain ⟨m, c, dx, xs, ws, a, rfl, _⟩ := h
    rfl
  · obtain ⟨m, c, dx, xs, ws, a, rfl, W, ha, k⟩ := h
    refine ⟨_, pss_cons (ps_set (i := 2) scTh.nd rfl (Or.inl rfl) (xe_call GfFA hr rfl mfFA kfFA bfFA .nil (Passes.x (passE fun _ _ _ q => q)) (pa_cons (pv 0) (pa_cons (pv 1) pa_nil))))
      (PSs.nox (pss_one (ps_ret (pe_tup (pa_cons (pe_ix ix_tup (xe_meth (pv 0) M.c M.at_ GfAt (hr.mono (by decide)) bfAt .nil passN (pa_cons (pv 1) pa_nil)) pe_int (fun _ _ => rfl))
        (pa_cons (pe_comp (cl := [("memory", s.heap.objs.size + 1), ("a", s.heap.objs.size + 1 + 1)]) (x := "k") (idx := [0, 1]) (NC := ["k", "memory", "a"]) ?co rfl (pi_range1 rfl T.z_range (pa_cons (pv 2) pa_nil))
          (fun C fp s₀ H₀ => xe_meth (pv 1) M.c M.at_ GfAt (hr.mono (by decide)) bfAt .nil passF (pa_cons (pe_op op_add (pe_op op_add (pv 2) pe_int) (pv 0)) pa_nil))) pa_nil)))))), ?_⟩
    case co =>
      exact comp_ok (sc := defScope sThing) (N := ["memory", "a", "fields"]) (ns := ["memory", "a"]) rfl rfl rfl (by decide +kernel) rfl rfl (by
        intro q hq
        rcases List.mem_cons.mp hq with rfl | hq
        · rfl
        · rw [List.mem_singleton.mp hq]
          rfl)
    refine ⟨_, rfl, _, rfl, m, c, dx, xs, ws, a, rfl, W, ha, ?_⟩
    cases e : thg ws a with
    | none => rw [e] at k; exact k
    | some p =>
      obtain ⟨t, n⟩ := p
      rw [e] at k
      simp only at k
      intro H1 s1
      obtain ⟨h0, hw, hl⟩ := thg_some e
      have W1 := W.same s1
      obtain ⟨n0, n6⟩ := W1.hd hw
      have l60 := W1.good.len
      obtain ⟨v, wd, hv, hw', wv⟩ := W1.at_ h0 (show a < 50 by omega)
      rw [hw] at hw'
      cases hw'
      obtain ⟨p, rfl, hp⟩ := wv
      refine ⟨_, rfl, m, dx, _, rfl, W1.mem.1, rfl, _, rfl, m, c, dx, xs, a, rfl, W1.mem, ha, ?_⟩
      rw [if_pos ⟨h0, by rw [W1.len]; omega⟩]
      intro v' hv'
      rw [hv] at hv'
      cases hv'
      refine ⟨p, _, 1, .int t, rfl, rfl, SqT.of hp, rfl, ?_⟩
      refine ⟨_, rfl, n, rfl, by omega, by omega, fun D hD => ?_⟩
      refine comp_range (lo := 0) (n := n.toNat) (fun i zs H2 => zs.length = i ∧ Same H1 H2 ∧ H2 D = some (.lst zs) ∧ ∀ (j : Nat) (v : V), zs[j]? = some v → xs[(a + 1 + j).toNat]? = some v) ⟨rfl, Same.upd hD, upd_same, fun j v z => by simp at z⟩ (fun i zs H2 hi ⟨e1, _, z, _⟩ => ⟨z, e1⟩)
        (Nat.le_trans (show n.toNat ≤ 100 by omega) sz_len) (fun i zs H2 hi ⟨e1, s2, z, hz⟩ => ?_) (fun zs H2 ⟨e1, s2, z, hz⟩ => ?_)
      · have W2 := W1.same s2
        refine ⟨_, rfl, m, dx, _, rfl, W2.mem.1, rfl, _, rfl, a, 1, rfl, rfl, _, rfl, _, 0 + (i : Int), rfl, rfl, m, c, dx, xs, a + 1 + (0 + (i : Int)), rfl, W2.mem, log7 (by omega) (by omega), ?_⟩
        rw [if_pos ⟨by omega, by rw [W2.len]; omega⟩]
        intro v hv
        refine ⟨z, by rw [List.length_append, e1]; rfl, fun b u q => by rw [upd_ne (ne_of_none q hD)]; exact s2 b u q, upd_same, fun j u hu => ?_⟩
        by_cases hj : j < zs.length
        · rw [List.getElem?_append_left hj] at hu
          exact hz j u hu
        · rw [List.getElem?_append_right (by omega)] at hu
          have ej : j = i := by
            have := (List.getElem?_eq_some_iff.mp hu).1
            simp only [List.length_singleton] at this
            omega
          subst ej
          rw [show j - zs.length = 0 by omega] at hu
          cases hu
          rw [show a + 1 + (j : Int) = a + 1 + (0 + (j : Int)) by omega]
          exact hv
      · refine ⟨by show 2 ≤ sizeLine; decide, fun q hq => ?_⟩
        have st := (s1.trans s2).trans (Same.upd (o := .tup [.int t, .ref D]) hq)
        have nDq : D ≠ q := ne_of_none z hq
        refine k q D zs _ st (none_of_same s1 hD) upd_same (by rw [upd_ne nDq]; exact z) ⟨by rw [e1, seg_len h0 n0 hl], fun i v wd a1 a2 => ?_⟩
        have hi : (i : Int) < n := by
          have := (List.getElem?_eq_some_iff.mp a1).1
          omega
        rw [seg_at h0 hi] at a2
        exact (W.rel.2 _ _ _ (hz i v a1) a2).keep (Tups.of st)
def NotHd (wd : Wc) : Prop := (∀ t n, wd ≠ .hd t n) ∧ ∀ b n, wd ≠ .mv b n
/-- laid up to i words -/
def laidN (ws : List Wc) (a t : Int) (wv : List Wc) : Nat → List Wc
  | 0 => ws.set a.toNat (.hd t wv.length)
  | i + 1 => match wv[i]? with
    | some wd => (laidN ws a t wv i).set (a + 1 + i).toNat wd
    | none => laidN ws a t wv i
theorem Good.set {ws : List Wc} {i : Nat} {wd : Wc} (g : Good ws) (h : ∀ t n, wd = .hd t n → 0 ≤ n ∧ n ≤ 6) (h2 : ∀ b n, wd ≠ .mv b n) : Good (ws.set i wd) := by
  refine ⟨by rw [List.length_set]; exact g.len, fun x hx => ?_, fun x hx => ?_, ?_⟩
  · rcases List.mem_or_eq_of_mem_set hx with q | q
    · exact g.hd x q
    · rw [q]; exact h
  · rcases List.mem_or_eq_of_mem_set hx with q | q
    · exact g.mv x q
    · rw [q]; exact fun b n e => absurd e (h2 b n)
  · obtain ⟨rk, hr⟩ := g.rk
    refine ⟨rk, fun j b n e => ?_⟩
    by_cases hj : i = j
    · subst hj
      rw [List.getElem?_set] at e
      simp only [if_true] at e
      split at e
      · exact absurd (Option.some.inj e) (h2 b n)
      · cases e
    · rw [List.getElem?_set_ne hj] at e
      exact hr j b n e
theorem laid_good {ws wv : List Wc} {a t : Int} (g : Good ws) (hv : ∀ x ∈ wv, NotHd x) (hl : wv.length ≤ 6) : ∀ i, Good (laidN ws a t wv i)
  | 0 => g.set (fun t' n e => by cases e; omega) (fun b n e => by cases e)
  | i + 1 => by
    show Good (match wv[i]? with | some wd => (laidN ws a t wv i).set (a + 1 + i).toNat wd | none => laidN ws a t wv i)
    cases e : wv[i]? with
    | none => exact laid_good g hv hl i
    | some wd => exact (laid_good g hv hl i).set (fun t' n e' => absurd e' ((hv wd (List.mem_of_getElem? e)).1 t' n)) (hv wd (List.mem_of_getElem? e)).2
theorem MW.put {H : Hp} {m c dx : Addr} {xs : List V} {ws : List Wc} {i : Nat} {v : V} {wd : Wc} (W : MW CM H m c dx xs ws) (hv : WV H v wd) (g : Good (ws.set i wd)) : MW CM (upd H c (.lst (xs.set i v))) m c dx (xs.set i v) (ws.set i wd) :=
  ⟨⟨by rw [upd_ne (ne_of W.mem.1 W.mem.2 (by intro z; cases z))]; exact W.mem.1, upd_same⟩, (W.rel.set hv).keep (Tups.set W.mem.2), g⟩
/-- lay -/
def spLay (CM BA : Addr) : Sp := fun vs H Q E => ∃ m c dx xs ws vl us wv, ∃ a t : Int, vs = [.ref m, .int a, .int t, .ref vl] ∧ MW CM H m c dx xs ws ∧ H vl = some (.lst us) ∧ Rel H us wv ∧ us.length ≤ 6 ∧ (∀ x ∈ wv, NotHd x) ∧ vl ≠ c ∧ a.natAbs.log2 < 1920 ∧
  (if a < 0 ∨ 50 ≤ a + wv.length then ∀ H', Same H H' → E (.ref BA) none H' else ∀ xs' H', MW CM H' m c dx xs' (laidN ws a t wv wv.length) → But c H H' → Q .non H')
theorem scLy : FnScope ["memory", "a", "t", "values", "k", "value"] ["memory", "a", "t", "values"] (defScope sLay) := ⟨rfl, rfl, rfl, by decide +kernel, rfl, by decide +kernel, by decide +kernel⟩
theorem ok_lay {f fR : Addr} {fd fdfPut fdfR : FuncData} (F : Fun K "lay" "lay" sLay f fd) (T : Txt K mg CH d0 fXI) (M : MemC K CM fMI fSz fAt fPut fCp fLk) (GfPut : FnOk P w K mg base (CXE P w) 4 fPut fdfPut ["self", "a", "word"] (spPut CM d0)) (bfPut : Binds K fdfPut ["self", "a", "word"] []) (GfR : FnOk P w K mg base (CXE P w) 3 fR fdfR ["memory", "a", "fields"] (spRoom CM d0)) (mfR : mg "look_at_room" = some (.ref fR)) (kfR : PySem.W.keepIn K (.ref fR) = true) (bfR : Binds K fdfR ["memory", "a", "fields"] []) : FnOk P w K mg base (CXE P w) 5 f fd ["memory", "a", "t", "values"] (spLay CM d0) := by
  refine F.okE scLy (fun vs H Q E h => ?_) (fun cdv A outer s H vs Q E hr h => ?_)
  · obtain ⟨m, c, dx, xs, ws, vl, us, wv, a, t, rfl, _⟩ := h
    rfl
  · obtain ⟨m, c, dx, xs, ws, vl, us, wv, a, t, rfl, W, hu, hR, hlu, hnh, hvc, ha, k⟩ := h
    refine ⟨_, pss_cons (ps_expr (xe_call GfR (hr.mono (by decide)) rfl mfR kfR bfR .nil (Passes.x (passE fun _ _ _ q => q)) (pa_cons (pv 0) (pa_cons (pv 1) (pa_cons (pe_callB call_len_seq rfl T.z_len PyProof.Rows.Boot.«len» (pa_cons (pv 3) pa_nil)) pa_nil)))))
      (PSs.nox (pss_cons (ps_expr (xe_meth (pv 0) M.c M.pt GfPut hr bfPut .nil passN (pa_cons (pv 1) (pa_cons (pe_tup (pa_cons pe_str (pa_cons (pv 2) (pa_cons (pe_callB call_len_seq rfl T.z_len PyProof.Rows.Boot.«len» (pa_cons (pv 3) pa_nil)) pa_nil)))) pa_nil))))
      (pss_one (ps_for PassesOwn.never rfl (pi_enum rfl T.z_enumerate (pa_cons (pv 3) pa_nil)) (pg_tup rfl (pgs_cons (pg_name (i := 4) scLy.nd rfl (Or.inl rfl)) (pgs_cons (pg_name (i := 5) scLy.nd rfl (Or.inl rfl)) pgs_nil)))
        (pss_one (ps_expr (xe_meth (pv 0) M.c M.pt GfPut hr bfPut .nil passN (pa_cons (pe_op op_add (pe_op op_add (pv 1) pe_int) (pv 4)) (pa_cons (pv 5) pa_nil))))))))), ?_⟩
    have elen := hR.1
    refine ⟨_, rfl, _, rfl, _, rfl, vl, us, rfl, .inl (SqL.of hu), m, c, dx, xs, a, (us.length : Int), rfl, W.mem, ha, log7 (by omega) (by omega), ?_⟩
    have l60 := W.len
    by_cases g : a < 0 ∨ (50 : Int) ≤ a + wv.length
    · rw [if_pos g] at k
      rw [if_pos (by rw [l60, elen]; exact g)]
      exact k
    · rw [if_neg g] at k
      rw [if_neg (by rw [l60, elen]; exact g)]
      have a0 : 0 ≤ a := by omega
      have a1 : a + wv.length < 50 := by omega
      refine ⟨_, rfl, m, dx, _, rfl, W.mem.1, rfl, _, rfl, _, rfl, _, rfl, vl, us, rfl, .inl (SqL.of hu), by show 3 ≤ sizeLine; decide, fun p hp => ?_⟩
      have s1 : Same H (upd H p (.tup [.str "head", .int t, .int us.length])) := Same.upd hp
      have W1 := W.same s1
      refine ⟨m, c, dx, xs, _, a, rfl, W1.mem, ha, ?_⟩
      rw [if_pos ⟨a0, by rw [l60]; omega⟩]
      have hh : WV (upd H p (.tup [.str "head", .int t, .int us.length])) (.ref p) (.hd t wv.length) := ⟨p, rfl, by rw [upd_same, elen]; rfl⟩
      have W2 := W1.put (i := a.toNat) hh (laid_good W1.good hnh (by omega) 0)
      have b2 : But c H (upd (upd H p (.tup [.str "head", .int t, .int us.length])) c (.lst (xs.set a.toNat (.ref p)))) := (But.of s1).trans But.set
      refine ⟨_, rfl, vl, rfl, ⟨us, SqL.of (b2 _ _ hvc hu)⟩, for_enum (K := K) (a := vl) (xs := us) (fun i σ H2 => ∃ (v4 v5 : Option V) (xs' : List V), σ = [some (.ref m), some (.int a), some (.int t), some (.ref vl), v4, v5] ∧ MW CM H2 m c dx xs' (laidN ws a t wv i) ∧ But c H H2)
        ⟨none, none, _, rfl, W2, b2⟩ (fun i σ H2 _ ⟨_, _, _, _, _, bt⟩ => SqL.of (bt _ _ hvc hu)) ?_ ?_⟩
      · rintro i x σ H2 q hi ⟨v4, v5, xs', rfl, W3, b3⟩ hq
        have hil := (List.getElem?_eq_some_iff.mp hi).1
        obtain ⟨wd, hwd⟩ : ∃ wd, wv[i]? = some wd := ⟨_, List.getElem?_eq_getElem (by omega)⟩
        have W4 := W3.same (Same.upd (o := .tup [.int (i : Int), x]) hq)
        have b4 := b3.trans (But.of (c := c) (Same.upd (o := .tup [.int (i : Int), x]) hq))
        refine ⟨q, _, rfl, SqT.of upd_same, rfl, _, _, rfl, _, _, rfl, rfl, ?_⟩
        refine ⟨_, rfl, m, dx, _, rfl, W4.mem.1, rfl, _, rfl, a, 1, rfl, rfl, _, rfl, _, (i : Int), rfl, rfl, _, rfl, m, c, dx, xs', x, a + 1 + (i : Int), rfl, W4.mem, log7 (by omega) (by omega), ?_⟩
        rw [if_pos ⟨by omega, by rw [W4.len]; omega⟩]
        have hx : WV _ x wd := (hR.2 i x wd hi hwd).keep (fun t us z => b4 t _ (ne_of z W.mem.2 (by intro z; cases z)) z)
        have el : laidN ws a t wv (i + 1) = (laidN ws a t wv i).set (a + 1 + i).toNat wd := by
          show (match wv[i]? with | some wd => (laidN ws a t wv i).set (a + 1 + i).toNat wd | none => laidN ws a t wv i) = _
          rw [hwd]
        refine ⟨_, _, xs'.set (a + 1 + (i : Int)).toNat x, rfl, ?_, b4.trans But.set⟩
        rw [el]
        exact W4.put hx (by rw [← el]; exact laid_good W.good hnh (by omega) (i + 1))
      · rintro σ H2 ⟨v4, v5, xs', rfl, W3, b3⟩
        rw [elen] at W3
        exact k xs' H2 W3 b3
/-- field_at -/
def spField (CM BA : Addr) : Sp := fun vs H Q E => ∃ m c dx xs ws, ∃ a kk : Int, vs = [.ref m, .int a, .int kk] ∧ MW CM H m c dx xs ws ∧ a.natAbs.log2 < 1920 ∧ kk.natAbs.log2 < 1920 ∧
  (match thg ws a with | some p => (if 0 ≤ kk ∧ kk < p.2 then ∀ v H', Same H H' → xs[(a + 1 + kk).toNat]? = some v → Q v H' else ∀ H', Same H H' → E (.ref BA) none H') | none => ∀ H', Same H H' → E (.ref BA) none H')
theorem ok_field {f fFA : Addr} {fd fdfAt fdfFA : FuncData} (F : Fun K "field_at" "field_at" sField f fd) (M : MemC K CM fMI fSz fAt fPut fCp fLk) (GfAt : FnOk P w K mg base (CXE P w) 4 fAt fdfAt ["self", "a"] (spAt CM d0)) (bfAt : Binds K fdfAt ["self", "a"] []) (GfFA : FnOk P w K mg base (CXE P w) 7 fFA fdfFA ["memory", "a", "k"] (spAddr CM d0)) (mfFA : mg "field_address" = some (.ref fFA)) (kfFA : PySem.W.keepIn K (.ref fFA) = true) (bfFA : Binds K fdfFA ["memory", "a", "k"] []) : FnOk P w K mg base (CXE P w) 8 f fd ["memory", "a", "k"] (spField CM d0) := by
  refine F.okE (N := ["memory", "a", "k"]) ⟨rfl, rfl, rfl, by decide +kernel, rfl, by decide +kernel, by decide +kernel⟩ (fun vs H Q E h => ?_) (fun cdv A outer s H vs Q E hr h => ?_)
  · obtain ⟨m, c, dx, xs, ws, a, kk, rfl, _⟩ := h
    rfl
  · obtain ⟨m, c, dx, xs, ws, a, kk, rfl, W, ha, hk, k⟩ := h
    refine ⟨_, pss_one (ps_ret (xe_meth (pv 0) M.c M.at_ GfAt (hr.mono (by decide)) bfAt .nil (Passes.x (passE fun _ _ _ q => q)) (pa_cons (xe_call GfFA hr rfl mfFA kfFA bfFA .nil (Passes.x (passE fun _ _ _ q => q)) (pa_cons (pv 0) (pa_cons (pv 1) (pa_cons (pv 2) pa_nil)))) pa_nil))), ?_⟩
    refine ⟨_, rfl, m, dx, _, rfl, W.mem.1, rfl, _, rfl, _, rfl, _, rfl, m, c, dx, xs, ws, a, kk, rfl, W, ha, hk, ?_⟩
    cases e : thg ws a with
    | none => rw [e] at k; exact k
    | some p =>
      obtain ⟨t, n⟩ := p
      rw [e] at k
      simp only at k ⊢
      by_cases g : 0 ≤ kk ∧ kk < n
      · rw [if_pos g] at k ⊢
        intro H1 s1
        obtain ⟨h0, hw, hl⟩ := thg_some e
        have W1 := W.same s1
        have l60 := W1.good.1
        refine ⟨m, c, dx, xs, a + 1 + kk, rfl, W1.mem, log7 (by omega) (by omega), ?_⟩
        rw [if_pos ⟨by omega, by rw [W1.len]; omega⟩]
        exact fun v hv => k v H1 s1 hv
      · rw [if_neg g] at k ⊢
        exact k
/-- put_field -/
def spPutF (CM BA : Addr) : Sp := fun vs H Q E => ∃ m c dx xs ws v, ∃ a kk : Int, vs = [.ref m, .int a, .int kk, v] ∧ MW CM H m c dx xs ws ∧ a.natAbs.log2 < 1920 ∧ kk.natAbs.log2 < 1920 ∧
  (match thg ws a with | some p => (if 0 ≤ kk ∧ kk < p.2 then ∀ H', Same H H' → Q .non (upd H' c (.lst (xs.set (a + 1 + kk).toNat v))) else ∀ H', Same H H' → E (.ref BA) none H') | none => ∀ H', Same H H' → E (.ref BA) none H')
theorem ok_putf {f fFA : Addr} {fd fdfPut fdfFA : FuncData} (F : Fun K "put_field" "put_field" sPutF f fd) (M : MemC K CM fMI fSz fAt fPut fCp fLk) (GfPut : FnOk P w K mg base (CXE P w) 4 fPut fdfPut ["self", "a", "word"] (spPut CM d0)) (bfPut : Binds K fdfPut ["self", "a", "word"] []) (GfFA : FnOk P w K mg base (CXE P w) 7 fFA fdfFA ["memory", "a", "k"] (spAddr CM d0)) (mfFA : mg "field_address" = some (.ref fFA)) (kfFA : PySem.W.keepIn K (.ref fFA) = true) (bfFA : Binds K fdfFA ["memory", "a", "k"] []) : FnOk P w K mg base (CXE P w) 8 f fd ["memory", "a", "k", "word"] (spPutF CM d0) := by
  refine F.okE (N := ["memory", "a", "k", "word"]) ⟨rfl, rfl, rfl, by decide +kernel, rfl, by decide +kernel, by decide +kernel⟩ (fun vs H Q E h => ?_) (fun cdv A outer s H vs Q E hr h => ?_)
  · obtain ⟨m, c, dx, xs, ws, v, a, kk, rfl, _⟩ := h
    rfl
  · obtain ⟨m, c, dx, xs, ws, v, a, kk, rfl, W, ha, hk, k⟩ := h
    refine ⟨_, pss_one (ps_expr (xe_meth (pv 0) M.c M.pt GfPut (hr.mono (by decide)) bfPut .nil (Passes.x (passE fun _ _ _ q => q)) (pa_cons (xe_call GfFA hr rfl mfFA kfFA bfFA .nil (Passes.x (passE fun _ _ _ q => q)) (pa_cons (pv 0) (pa_cons (pv 1) (pa_cons (pv 2) pa_nil)))) (pa_cons (pv 3) pa_nil)))), ?_⟩
    refine ⟨_, rfl, m, dx, _, rfl, W.mem.1, rfl, _, rfl, _, rfl, _, rfl, m, c, dx, xs, ws, a, kk, rfl, W, ha, hk, ?_⟩
    cases e : thg ws a with
    | none => rw [e] at k; exact k
    | some p =>
      obtain ⟨t, n⟩ := p
      rw [e] at k
      simp only at k ⊢
      by_cases g : 0 ≤ kk ∧ kk < n
      · rw [if_pos g] at k ⊢
        intro H1 s1
        obtain ⟨h0, hw, hl⟩ := thg_some e
        have W1 := W.same s1
        have l60 := W1.good.1
        refine ⟨_, rfl, m, c, dx, xs, v, a + 1 + kk, rfl, W1.mem, log7 (by omega) (by omega), ?_⟩
        rw [if_pos ⟨by omega, by rw [W1.len]; omega⟩]
        exact k H1 s1
      · rw [if_neg g] at k ⊢
        exact k
end
end K34
end
section
set_option Elab.async false
set_option linter.all false
set_option maxRecDepth 100000
set_option maxHeartbeats 4000000
set_option exponentiation.threshold 4000
namespace K34
open PySem L2 LX
section
variable {P : Program} {w : World} {K : PySem.W.Frag} {mg : Str → Option Value} {base : Heap} {CH d0 fXI : Addr} {CM fMI fSz fAt fPut fCp fLk : Addr}

theorem sIx_in {n d : Nat} {i : Int} (h0 : 0 ≤ i) (h1 : i ≤ n) : HT.sIx n d (some i) = i.toNat := by
  simp only [HT.sIx]
  rw [if_neg (by omega)]
  omega
theorem cut_mid {xs : List V} {a n : Int} (h0 : 0 ≤ a) (hn : 0 ≤ n) (hl : a + n < xs.length) : cutV xs (some (a + 1)) (some (a + 1 + n)) = (xs.drop (a + 1).toNat).take n.toNat := by
  unfold cutV
  rw [sIx_in (by omega) (by omega), sIx_in (by omega) (by omega)]
  congr 1
  omega
structure ML (H : Hp) (l : Addr) (ys : List V) (ws : List Wc) : Prop where
  at_ : H l = some (.lst ys)
  rel : Rel H ys ws
  good : Good ws
theorem ML.len {H : Hp} {l : Addr} {ys : List V} {ws : List Wc} (h : ML H l ys ws) : ys.length = 50 := h.rel.1.trans h.good.len
theorem ML.same {H H' : Hp} {l : Addr} {ys : List V} {ws : List Wc} (h : ML H l ys ws) (s : Same H H') : ML H' l ys ws := ⟨s _ _ h.at_, h.rel.keep (Tups.of s), h.good⟩
theorem ML.get {H : Hp} {l : Addr} {ys : List V} {ws : List Wc} (h : ML H l ys ws) {a : Int} (h0 : 0 ≤ a) (h1 : a < 50) : ∃ v wd, ys[a.toNat]? = some v ∧ ws[a.toNat]? = some wd ∧ WV H v wd := by
  have hx : a.toNat < ys.length := by rw [h.len]; omega
  have hw : a.toNat < ws.length := by rw [h.good.len]; omega
  exact ⟨_, _, List.getElem?_eq_getElem hx, List.getElem?_eq_getElem hw, h.rel.2 _ _ _ (List.getElem?_eq_getElem hx) (List.getElem?_eq_getElem hw)⟩
theorem ML.put {H : Hp} {l : Addr} {ys : List V} {ws : List Wc} {i : Nat} {v : V} {wd : Wc} (W : ML H l ys ws) (hv : WV H v wd) (g : Good (ws.set i wd)) : ML (upd H l (.lst (ys.set i v))) l (ys.set i v) (ws.set i wd) :=
  ⟨upd_same, (W.rel.set hv).keep (Tups.set W.at_), g⟩
theorem ix_in {n : Nat} {a : Int} (h0 : 0 ≤ a) (h1 : a < n) : ixN n a = some a.toNat := by
  unfold ixN
  rw [if_pos h0, if_pos h1]
/-- _law_mixed: some number -/
def spMixed : Sp := fun vs H Q _ => ∃ cell j : Int, vs = [.int cell, .int j] ∧ -1000 ≤ j ∧ j ≤ 1000 ∧ ∀ n : Int, 0 ≤ n → Q (.int n) H
theorem scMx : FnScope ["cell", "k", "first", "second"] ["cell", "k"] (defScope sMixed) := ⟨rfl, rfl, rfl, by decide +kernel, rfl, by decide +kernel, by decide +kernel⟩
theorem ok_mixed {f : Addr} {fd : FuncData} (F : Fun K "_law_mixed" "_law_mixed" sMixed f fd) : FnOk P w K mg base (CXE P w) 1 f fd ["cell", "k"] spMixed := by
  refine F.okE scMx (fun vs H Q E h => ?_) (fun cdv A outer s H vs Q E hr h => ?_)
  · obtain ⟨cell, j, rfl, _⟩ := h
    rfl
  · obtain ⟨cell, j, rfl, j0, j1, k⟩ := h
    refine ⟨_, pss_cons (ps_set (i := 2) scMx.nd rfl (Or.inl rfl) (pe_op op_mod (pe_op op_mul (pe_op op_add (pe_op op_add (pv 0) (pe_op op_mul pe_int (pv 1))) pe_int) pe_int) pe_int))
      (pss_cons (ps_set (i := 3) scMx.nd rfl (Or.inl rfl) (pe_op op_mod (pe_op op_add (pe_op op_add (pe_op op_mul (pv 2) (pv 2)) (pe_op op_mul pe_int (pv 1))) pe_int) pe_int))
      (pss_one (ps_ret (pe_op op_fdiv (pe_op op_mod (pe_op op_mul (pv 3) (pv 3)) pe_int) pe_int)))), ?_⟩
    refine ⟨_, rfl, _, rfl, 7919, j, rfl, rfl, .inl ⟨by decide, by decide⟩, cell, _, rfl, rfl, _, 1, rfl, rfl, _, 48271, rfl, rfl, .inr ⟨by decide, by decide⟩, _, 2147483647, rfl, rfl, (by show (0 : Int) < 2147483647; decide), ?_⟩
    have b0 := Int.emod_nonneg ((cell + 7919 * j + 1) * 48271) (show (2147483647 : Int) ≠ 0 by decide)
    have b1 := Int.emod_lt_of_pos ((cell + 7919 * j + 1) * 48271) (show (0 : Int) < 2147483647 by decide)
    obtain ⟨st, est⟩ : ∃ st : Int, (cell + 7919 * j + 1) * 48271 % 2147483647 = st := ⟨_, rfl⟩
    simp only [est] at b0 b1 ⊢
    refine ⟨_, rfl, _, rfl, st, st, rfl, rfl, .inl ⟨by omega, by omega⟩, _, rfl, 40692, j, rfl, rfl, .inl ⟨by decide, by decide⟩, _, _, rfl, rfl, _, 3, rfl, rfl, _, 2147483629, rfl, rfl, (by show (0 : Int) < 2147483629; decide), ?_⟩
    have c0 := Int.emod_nonneg (st * st + 40692 * j + 3) (show (2147483629 : Int) ≠ 0 by decide)
    have c1 := Int.emod_lt_of_pos (st * st + 40692 * j + 3) (show (0 : Int) < 2147483629 by decide)
    obtain ⟨su, esu⟩ : ∃ su : Int, (st * st + 40692 * j + 3) % 2147483629 = su := ⟨_, rfl⟩
    simp only [esu] at c0 c1 ⊢
    have e0 := Int.emod_nonneg (su * su) (show (2147483587 : Int) ≠ 0 by decide)
    refine ⟨_, rfl, _, rfl, su, su, rfl, rfl, .inl ⟨by omega, by omega⟩, _, 2147483587, rfl, rfl, (by show (0 : Int) < 2147483587; decide), _, 8, rfl, rfl, ⟨by decide, by decide⟩, k _ ?_⟩
    exact Int.ediv_nonneg e0 (by decide)
/-- _law_word -/
def spWord : Sp := fun vs H Q _ => ∃ n : Int, vs = [.int n] ∧ ∀ v wd H', Same H H' → WV H' v wd → NotHd wd → Q v H'
theorem scW : FnScope ["cell", "number"] ["cell"] (defScope sWord) := ⟨rfl, rfl, rfl, by decide +kernel, rfl, by decide +kernel, by decide +kernel⟩
theorem ok_word {f : Addr} {fd : FuncData} (F : Fun K "_law_word" "_law_word" sWord f fd) : FnOk P w K mg base (CXE P w) 1 f fd ["cell"] spWord := by
  refine F.okE scW (fun vs H Q E h => ?_) (fun cdv A outer s H vs Q E hr h => ?_)
  · obtain ⟨n, rfl, _⟩ := h
    rfl
  · obtain ⟨n, rfl, k⟩ := h
    refine ⟨_, pss_cons (ps_set (i := 1) scW.nd rfl (Or.inl rfl) (pe_op op_sub (pe_op op_mod (pe_op op_fdiv (pv 0) pe_int) (pe_op op_add (pe_op op_mul pe_int (pe_op op_pow pe_int pe_int)) pe_int)) (pe_op op_pow pe_int pe_int)))
      (pss_one (ps_ret (pe_ix ix_list (pe_lst (pa_cons pe_non (pa_cons (pe_tup (pa_cons pe_str (pa_cons (pv 1) pa_nil))) (pa_cons (pe_tup (pa_cons pe_str (pa_cons (pe_op op_mod (pe_op op_fdiv (pv 0) pe_int) pe_int) pa_nil)))
        (pa_cons (pe_tup (pa_cons pe_str (pa_cons (pe_op op_sub (pe_op op_mod (pe_op op_fdiv (pv 0) pe_int) pe_int) pe_int) pa_nil))) pa_nil))))) (pe_op op_mod (pv 0) pe_int) (fun _ _ => rfl)))), ?_⟩
    have p60 : (0 : Int) < 2 * 10 ^ (60 : Int).toNat + 1 := by decide
    refine ⟨_, rfl, n, 4, rfl, rfl, ⟨by decide, by decide⟩, 10, 60, rfl, rfl, ⟨by decide, by decide, by decide⟩, 2, _, rfl, rfl, .inl ⟨by decide, by decide⟩, _, 1, rfl, rfl, _, _, rfl, rfl, p60, 10, 60, rfl, rfl, ⟨by decide, by decide, by decide⟩, _, _, rfl, rfl, ?_⟩
    obtain ⟨x, ex⟩ : ∃ x : Int, n / 4 % (2 * 10 ^ (60 : Int).toNat + 1) - 10 ^ (60 : Int).toNat = x := ⟨_, rfl⟩
    simp only [ex]
    refine ⟨_, rfl, by show 2 ≤ sizeLine; decide, fun t1 h1 => ?_⟩
    refine ⟨_, rfl, n, 4, rfl, rfl, ⟨by decide, by decide⟩, _, 70, rfl, rfl, (by show (0 : Int) < 70; decide), by show 2 ≤ sizeLine; decide, fun t2 h2 => ?_⟩
    refine ⟨_, rfl, n, 4, rfl, rfl, ⟨by decide, by decide⟩, _, 5, rfl, rfl, (by show (0 : Int) < 5; decide), _, 2, rfl, rfl, by show 2 ≤ sizeLine; decide, fun t3 h3 => ⟨by show 4 ≤ sizeLine; decide, fun p1 q1 => ?_⟩⟩
    have a3 : Same _ (upd _ p1 (.lst [.non, .ref t1, .ref t2, .ref t3])) := Same.upd q1
    have a2 := (Same.upd (o := .tup [.str "number", .int (n / 4 % 5 - 2)]) h3).trans a3
    have a1 := (Same.upd (o := .tup [.str "at", .int (n / 4 % 70)]) h2).trans a2
    have a0 := (Same.upd (o := .tup [.str "number", .int x]) h1).trans a1
    have m0 := Int.emod_nonneg n (show (4 : Int) ≠ 0 by decide)
    have m1 := Int.emod_lt_of_pos n (show (0 : Int) < 4 by decide)
    have hc : n % 4 = 0 ∨ n % 4 = 1 ∨ n % 4 = 2 ∨ n % 4 = 3 := by omega
    refine ⟨_, rfl, n, 4, rfl, rfl, (by show (0 : Int) < 4; decide), ?_⟩
    simp only []
    rcases hc with e | e | e | e
    · exact ⟨p1, _, 0, .non, rfl, by rw [e], SqL.of upd_same, rfl, k _ .no _ a0 rfl ⟨(fun _ _ z => nomatch z), (fun _ _ z => nomatch z)⟩⟩
    · exact ⟨p1, _, 1, .ref t1, rfl, by rw [e], SqL.of upd_same, rfl, k _ (.num x) _ a0 ⟨t1, rfl, a1 _ _ upd_same⟩ ⟨(fun _ _ z => nomatch z), (fun _ _ z => nomatch z)⟩⟩
    · exact ⟨p1, _, 2, .ref t2, rfl, by rw [e], SqL.of upd_same, rfl, k _ (.ad (n / 4 % 70)) _ a0 ⟨t2, rfl, a2 _ _ upd_same⟩ ⟨(fun _ _ z => nomatch z), (fun _ _ z => nomatch z)⟩⟩
    · exact ⟨p1, _, 3, .ref t3, rfl, by rw [e], SqL.of upd_same, rfl, k _ (.num (n / 4 % 5 - 2)) _ a0 ⟨t3, rfl, a3 _ _ upd_same⟩ ⟨(fun _ _ z => nomatch z), (fun _ _ z => nomatch z)⟩⟩
/-- _law_thing -/
def spLT : Sp := fun vs H Q _ => ∃ l ys ws, ∃ a : Int, vs = [.ref l, .int a] ∧ ML H l ys ws ∧
  (match thg ws a with | some p => ∀ q r zs H', Same H H' → H r = none → H' q = some (.tup [.int p.1, .ref r]) → H' r = some (.lst zs) → Rel H' zs (seg ws a p.2) → Q (.ref q) H' | none => Q .non H)
theorem scLT : FnScope ["model", "a"] ["model", "a"] (defScope sLThing) := ⟨rfl, rfl, rfl, by decide +kernel, rfl, by decide +kernel, by decide +kernel⟩
theorem ok_lt {f : Addr} {fd : FuncData} (F : Fun K "_law_thing" "_law_thing" sLThing f fd) (T : Txt K mg CH d0 fXI) : FnOk P w K mg base (CXE P w) 1 f fd ["model", "a"] spLT := by
  refine F.okE scLT (fun vs H Q E h => ?_) (fun cdv A outer s H vs Q E hr h => ?_)
  · obtain ⟨l, ys, ws, a, rfl, _⟩ := h
    rfl
  · obtain ⟨l, ys, ws, a, rfl, W, k⟩ := h
    refine ⟨_, pss_cons (ps_if (PW.pt (pw_or (pt_cmpR op_lt (pv 1) pe_int (nomark _)) (pw_or (pt_cmpR op_ge (pv 1) (pe_callB call_len_seq rfl T.z_len PyProof.Rows.Boot.«len» (pa_cons (pv 0) pa_nil)) (nomark _)) (pw_or (pt_cmpR op_isN (pe_ix ix_list (pv 0) (pv 1) (fun _ _ => rfl)) pe_non (nomark _)) (pw_or1 (pt_cmpR op_ne (pe_ix ix_tup (pe_ix ix_list (pv 0) (pv 1) (fun _ _ => rfl)) pe_int (fun _ _ => rfl)) pe_str (nomark _))))))) (pss_one (ps_ret pe_non)) pss_nil)
      (pss_cons (ps_if (pt_cmpR op_ge (pe_op op_add (pv 1) (pe_ix ix_tup (pe_ix ix_list (pv 0) (pv 1) (fun _ _ => rfl)) pe_int (fun _ _ => rfl))) (pe_callB call_len_seq rfl T.z_len PyProof.Rows.Boot.«len» (pa_cons (pv 0) pa_nil)) (nomark _)) (pss_one (ps_ret pe_non)) pss_nil)
      (pss_one (ps_ret (pe_tup (pa_cons (pe_ix ix_tup (pe_ix ix_list (pv 0) (pv 1) (fun _ _ => rfl)) pe_int (fun _ _ => rfl)) (pa_cons (pe_slice sl_list (pv 0) (po_some (pe_op op_add (pv 1) pe_int)) (po_some (pe_op op_add (pe_op op_add (pv 1) pe_int) (pe_ix ix_tup (pe_ix ix_list (pv 0) (pv 1) (fun _ _ => rfl)) pe_int (fun _ _ => rfl))))) pa_nil)))))), ?_⟩
    have out : ¬ (0 ≤ a ∧ a < 50) → Q .non H := fun hn => by
      have kn : thg ws a = none := by
        cases e : thg ws a with
        | none => rfl
        | some q =>
          obtain ⟨e1, e2, e3⟩ := thg_some (show thg ws a = some (q.1, q.2) from e)
          exact absurd ⟨e1, by have := (List.getElem?_eq_some_iff.mp e2).1; rw [W.good.len] at this; omega⟩ hn
      rw [kn] at k
      exact k
    have L := W.len
    refine ⟨_, rfl, a, 0, rfl, rfl, _, rfl, ite2 (fun h => iteT (out ?_)) (fun h => ?_)⟩
    · simp only [decide_eq_true_eq] at h
      omega
    simp only [decide_eq_true_eq] at h
    refine ⟨_, rfl, _, rfl, l, ys, rfl, .inl (SqL.of W.at_), a, _, rfl, rfl, _, rfl, ite2 (fun g => iteT (out ?_)) (fun g => ?_)⟩
    · simp only [decide_eq_true_eq] at g
      omega
    simp only [decide_eq_true_eq] at g
    have h0 : 0 ≤ a := by omega
    have h1 : a < 50 := by omega
    obtain ⟨v, wd, hv, hw, wv⟩ := W.get h0 h1
    have hat := at_int h0 hv
    refine ⟨_, rfl, _, rfl, l, ys, a, v, rfl, rfl, SqL.of W.at_, hat, rfl, _, rfl, ?_⟩
    cases wd with
    | no =>
      obtain rfl : v = .non := wv
      have kn : thg ws a = none := by unfold thg; rw [if_pos h0, hw]
      rw [kn] at k
      exact ite2 (fun _ => iteT k) (fun z => by simp at z)
    | num n =>
      obtain ⟨p, rfl, hp⟩ := wv
      have kn : thg ws a = none := by unfold thg; rw [if_pos h0, hw]
      rw [kn] at k
      refine ite2 (fun z => by simp at z) (fun _ => ?_)
      exact ⟨_, rfl, _, rfl, l, ys, a, _, rfl, rfl, SqL.of W.at_, hat, p, _, 0, _, rfl, rfl, SqT.of hp, rfl, rfl, _, rfl, ite2 (fun _ => k) (fun z => absurd (by kernel_rfl) z)⟩
    | mv b n =>
      obtain ⟨p, rfl, hp⟩ := wv
      have kn : thg ws a = none := by unfold thg; rw [if_pos h0, hw]
      rw [kn] at k
      refine ite2 (fun z => by simp at z) (fun _ => ?_)
      exact ⟨_, rfl, _, rfl, l, ys, a, _, rfl, rfl, SqL.of W.at_, hat, p, _, 0, _, rfl, rfl, SqT.of hp, rfl, rfl, _, rfl, ite2 (fun _ => k) (fun z => absurd (by kernel_rfl) z)⟩
    | ad n =>
      obtain ⟨p, rfl, hp⟩ := wv
      have kn : thg ws a = none := by unfold thg; rw [if_pos h0, hw]
      rw [kn] at k
      refine ite2 (fun z => by simp at z) (fun _ => ?_)
      exact ⟨_, rfl, _, rfl, l, ys, a, _, rfl, rfl, SqL.of W.at_, hat, p, _, 0, _, rfl, rfl, SqT.of hp, rfl, rfl, _, rfl, ite2 (fun _ => k) (fun z => absurd (by kernel_rfl) z)⟩
    | hd t n =>
      obtain ⟨p, rfl, hp⟩ := wv
      obtain ⟨n0, n6⟩ := W.good.hd _ (List.mem_of_getElem? hw) t n rfl
      refine ite2 (fun z => by simp at z) (fun _ => ?_)
      refine ⟨_, rfl, _, rfl, l, ys, a, _, rfl, rfl, SqL.of W.at_, hat, p, _, 0, _, rfl, rfl, SqT.of hp, rfl, rfl, _, rfl, iteNS rfl ?_⟩
      refine ⟨_, rfl, _, rfl, _, rfl, l, ys, a, _, rfl, rfl, SqL.of W.at_, hat, p, _, 2, .int n, rfl, rfl, SqT.of hp, rfl, a, n, rfl, rfl, _, rfl, l, ys, rfl, .inl (SqL.of W.at_), _, _, rfl, rfl, _, rfl, ite2 (fun z => ?_) (fun z => ?_)⟩
      · simp only [decide_eq_true_eq] at z
        have kn : thg ws a = none := by
          unfold thg
          rw [if_pos h0, hw]
          simp only
          rw [if_neg (by rw [W.good.len]; omega)]
        rw [kn] at k
        exact k
      · simp only [decide_eq_true_eq] at z
        have kn : thg ws a = some (t, n) := by
          unfold thg
          rw [if_pos h0, hw]
          simp only
          rw [if_pos (by rw [W.good.len]; omega)]
        rw [kn] at k
        simp only at k
        refine ⟨_, rfl, _, rfl, l, ys, a, _, rfl, rfl, SqL.of W.at_, hat, p, _, 1, .int t, rfl, rfl, SqT.of hp, rfl, ?_⟩
        refine ⟨_, rfl, _, rfl, a, 1, rfl, rfl, _, rfl, _, rfl, a, 1, rfl, rfl, _, rfl, _, rfl, l, ys, a, _, rfl, rfl, SqL.of W.at_, hat, p, _, 2, .int n, rfl, rfl, SqT.of hp, rfl, _, n, rfl, rfl, _, rfl, l, ys, rfl, SqL.of W.at_, fun r hr2 => ?_⟩
        rw [cut_mid h0 n0 (by omega)]
        refine ⟨by show 2 ≤ sizeLine; decide, fun q hq => ?_⟩
        have st := (Same.upd (o := .lst ((ys.drop (a + 1).toNat).take n.toNat)) hr2).trans (Same.upd (o := .tup [.int t, .ref r]) hq)
        have nrq : r ≠ q := ne_of_none upd_same hq
        refine k q r ((ys.drop (a + 1).toNat).take n.toNat) _ st hr2 upd_same (by rw [upd_ne nrq]; exact upd_same) ⟨?_, fun i v wd a1 a2 => ?_⟩
        · unfold seg
          rw [List.length_take, List.length_drop, List.length_take, List.length_drop, W.rel.1]
        · have hi : (i : Int) < n := by
            have := (List.getElem?_eq_some_iff.mp a1).1
            rw [List.length_take] at this
            omega
          rw [seg_at h0 hi] at a2
          rw [List.getElem?_take_of_lt (by omega), List.getElem?_drop, show (a + 1).toNat + i = (a + 1 + i).toNat by omega] at a1
          exact (W.rel.2 _ _ _ a1 a2).keep (Tups.of st)
/-- _law_lay -/
def spLL : Sp := fun vs H Q _ => ∃ l ys ws vl us wv, ∃ a t : Int, vs = [.ref l, .int a, .int t, .ref vl] ∧ ML H l ys ws ∧ H vl = some (.lst us) ∧ Rel H us wv ∧ us.length ≤ 6 ∧ (∀ x ∈ wv, NotHd x) ∧ vl ≠ l ∧
  (if a < 0 ∨ 50 ≤ a + wv.length then Q (.bl false) H else ∀ ys' H', ML H' l ys' (laidN ws a t wv wv.length) → But l H H' → Q (.bl true) H')
theorem scLL : FnScope ["model", "a", "t", "values", "k"] ["model", "a", "t", "values"] (defScope sLLay) := ⟨rfl, rfl, rfl, by decide +kernel, rfl, by decide +kernel, by decide +kernel⟩
theorem ok_ll {f : Addr} {fd : FuncData} (F : Fun K "_law_lay" "_law_lay" sLLay f fd) (T : Txt K mg CH d0 fXI) : FnOk P w K mg base (CXE P w) 1 f fd ["model", "a", "t", "values"] spLL := by
  refine F.okE scLL (fun vs H Q E h => ?_) (fun cdv A outer s H vs Q E hr h => ?_)
  · obtain ⟨l, ys, ws, vl, us, wv, a, t, rfl, _⟩ := h
    rfl
  · obtain ⟨l, ys, ws, vl, us, wv, a, t, rfl, W, hu, hR, hlu, hnh, hvl, k⟩ := h
    refine ⟨_, PSs.nox (pss_cons (ps_if (PW.pt (pw_or (pt_cmpR op_lt (pv 1) pe_int (nomark _)) (pw_or1 (pt_cmpR op_ge (pe_op op_add (pv 1) (pe_callB call_len_seq rfl T.z_len PyProof.Rows.Boot.«len» (pa_cons (pv 3) pa_nil))) (pe_callB call_len_seq rfl T.z_len PyProof.Rows.Boot.«len» (pa_cons (pv 0) pa_nil)) (nomark _))))) (pss_one (ps_ret pe_bl)) pss_nil)
      (pss_cons (ps_asg (pe_tup (pa_cons pe_str (pa_cons (pv 2) (pa_cons (pe_callB call_len_seq rfl T.z_len PyProof.Rows.Boot.«len» (pa_cons (pv 3) pa_nil)) pa_nil)))) (pg_sub (pv 0) (pv 1) set_list))
      (pss_cons (ps_for PassesOwn.never rfl (pi_range1 rfl T.z_range (pa_cons (pe_callB call_len_seq rfl T.z_len PyProof.Rows.Boot.«len» (pa_cons (pv 3) pa_nil)) pa_nil)) (pg_name (i := 4) scLL.nd rfl (Or.inl rfl))
        (pss_one (ps_asg (pe_ix ix_list (pv 3) (pv 4) (fun _ _ => rfl)) (pg_sub (pv 0) (pe_op op_add (pe_op op_add (pv 1) pe_int) (pv 4)) set_list))))
      (pss_one (ps_ret pe_bl))))), ?_⟩
    have L := W.len
    have elen := hR.1
    refine ⟨_, rfl, a, 0, rfl, rfl, _, rfl, ite2 (fun h => ?_) (fun h => ?_)⟩
    · simp only [decide_eq_true_eq] at h
      rw [if_pos (.inl h)] at k
      exact iteT k
    simp only [decide_eq_true_eq] at h
    refine ⟨_, rfl, _, rfl, vl, us, rfl, .inl (SqL.of hu), a, _, rfl, rfl, _, rfl, l, ys, rfl, .inl (SqL.of W.at_), _, _, rfl, rfl, _, rfl, ite2 (fun g => ?_) (fun g => ?_)⟩
    · simp only [decide_eq_true_eq] at g
      rw [if_pos (.inr (by rw [← elen]; omega))] at k
      exact k
    simp only [decide_eq_true_eq] at g
    have a0 : 0 ≤ a := by omega
    have a1 : a + wv.length < 50 := by omega
    rw [if_neg (by omega)] at k
    refine ⟨_, rfl, _, rfl, vl, us, rfl, .inl (SqL.of hu), by show 3 ≤ sizeLine; decide, fun p hp => ?_⟩
    have s1 : Same H (upd H p (.tup [.str "head", .int t, .int us.length])) := Same.upd hp
    have W1 := W.same s1
    refine ⟨_, rfl, _, rfl, l, ys, a, a.toNat, rfl, rfl, W1.at_, ix_in a0 (by omega), ?_⟩
    have hh : WV (upd H p (.tup [.str "head", .int t, .int us.length])) (.ref p) (.hd t wv.length) := ⟨p, rfl, by rw [upd_same, elen]; rfl⟩
    have W2 := W1.put (i := a.toNat) hh (laid_good W1.good hnh (by omega) 0)
    have b2 : But l H (upd (upd H p (.tup [.str "head", .int t, .int us.length])) l (.lst (ys.set a.toNat (.ref p)))) := (But.of s1).trans But.set
    refine ⟨_, rfl, vl, us, rfl, .inl (SqL.of (b2 _ _ hvl hu)), (us.length : Int), rfl, by omega, by omega, for_range (n := us.length) (fun i σ H2 => ∃ (v4 : Option V) (ys' : List V), σ = [some (.ref l), some (.int a), some (.int t), some (.ref vl), v4] ∧ ML H2 l ys' (laidN ws a t wv i) ∧ But l H H2)
      ⟨none, _, rfl, W2, b2⟩ ?_ ?_⟩
    · rintro i σ H2 hi ⟨v4, ys', rfl, W3, b3⟩
      obtain ⟨x, hx⟩ : ∃ x, us[i]? = some x := ⟨_, List.getElem?_eq_getElem hi⟩
      obtain ⟨wd, hwd⟩ : ∃ wd, wv[i]? = some wd := ⟨_, List.getElem?_eq_getElem (by omega)⟩
      have ei : (0 + (i : Int)).toNat = i := by omega
      have hxw : WV H2 x wd := (hR.2 i x wd hx hwd).keep (fun t us z => b3 t _ (ne_of z W.at_ (by intro z; cases z)) z)
      have el : laidN ws a t wv (i + 1) = (laidN ws a t wv i).set (a + 1 + i).toNat wd := by
        show (match wv[i]? with | some wd => (laidN ws a t wv i).set (a + 1 + i).toNat wd | none => laidN ws a t wv i) = _
        rw [hwd]
      refine ⟨_, rfl, _, rfl, vl, us, 0 + (i : Int), x, rfl, rfl, SqL.of (b3 _ _ hvl hu), at_int (by omega) (by rw [ei]; exact hx), ?_⟩
      refine ⟨_, rfl, _, rfl, a, 1, rfl, rfl, _, rfl, _, 0 + (i : Int), rfl, rfl, l, ys', a + 1 + (0 + (i : Int)), (a + 1 + (i : Int)).toNat, rfl, rfl, W3.at_, (by rw [W3.len, show a + 1 + (0 + (i : Int)) = a + 1 + (i : Int) by omega]; exact ix_in (by omega) (by omega)), ?_⟩
      refine ⟨_, ys'.set (a + 1 + (i : Int)).toNat x, rfl, ?_, b3.trans But.set⟩
      rw [el]
      exact W3.put hxw (by rw [← el]; exact laid_good W.good hnh (by omega) (i + 1))
    · rintro σ H2 ⟨v4, ys', rfl, W3, b3⟩
      rw [elen] at W3
      exact k ys' H2 W3 b3
end
end K34
end
section
set_option Elab.async false
set_option linter.all false
set_option maxRecDepth 100000
set_option maxHeartbeats 4000000
set_option exponentiation.threshold 4000
namespace K34
open PySem L2 LX
section
variable {P : Program} {w : World} {K : PySem.W.Frag} {mg : Str → Option Value} {base : Heap} {CH d0 fXI : Addr} {CM fMI fSz fAt fPut fCp fLk : Addr}

theorem But.upd {m a : Addr} {H : Hp} {o : HO} (h : H a = none) : But m H (L2.upd H a o) := fun b u _ q => by rw [upd_ne (ne_of_none q h)]; exact q
theorem passF0 {P : Program} {w : World} {X : Cx} : Passes (CXE P w) X (fun _ _ _ => False) := fun _ _ _ _ _ _ _ ⟨_, _, _, _, _, _, _, _, _, q⟩ => q.elim
def spMI (CM : Addr) : Sp := fun vs H Q _ => ∃ m dx, ∃ n : Int, vs = [.ref m, .int n] ∧ H m = some (.ins CM dx []) ∧ 0 ≤ n ∧ n ≤ 1000 ∧
  ∀ c H', But m H H' → H c = none → H' c = some (.lst (List.replicate n.toNat .non)) → H' m = some (.ins CM dx [("cells", .ref c)]) → Q .non H'
theorem rep_one (k : Nat) : (List.replicate k [V.non]).flatten = List.replicate k .non := by
  induction k with
  | zero => rfl
  | succ k ih => rw [List.replicate_succ, List.flatten_cons, ih, List.replicate_succ]; rfl
theorem ok_mi {f : Addr} {fd : FuncData} (F : Fun K "__init__" "Memory.__init__" sMI f fd) (M : MemC K CM fMI fSz fAt fPut fCp fLk) : FnOk P w K mg base (CXE P w) 1 f fd ["self", "size"] (spMI CM) := by
  refine F.okE (N := ["self", "size"]) ⟨rfl, rfl, rfl, by decide +kernel, rfl, by decide +kernel, by decide +kernel⟩ (fun vs H Q E h => ?_) (fun cdv A outer s H vs Q E hr h => ?_)
  · obtain ⟨m, dx, n, rfl, _⟩ := h
    rfl
  · obtain ⟨m, dx, n, rfl, hm, h0, h1, k⟩ := h
    refine ⟨_, pss_one (ps_fld (pv 0) (pe_op op_rep (pe_lst (pa_cons pe_non pa_nil)) (pv 1)) rfl), ?_⟩
    refine ⟨by show 1 ≤ sizeLine; decide, fun p hp => ⟨_, rfl, p, n, _, rfl, rfl, upd_same, by omega, by omega, ?_, fun q hq => ?_⟩⟩
    · show 1 * n.toNat ≤ sizeLine
      exact Nat.le_trans (show 1 * n.toNat ≤ 1000 by omega) (by decide)
    have np : m ≠ p := ne_of_none hm hp
    have hm1 : L2.upd H p (.lst [.non]) m = some (.ins CM dx []) := by rw [upd_ne np]; exact hm
    have nq : m ≠ q := ne_of_none hm1 hq
    have qp : q ≠ p := fun e => by rw [e, upd_same] at hq; cases hq
    have hq0 : H q = none := by rw [upd_ne qp] at hq; exact hq
    refine ⟨_, rfl, m, CM, dx, [], rfl, (by rw [upd_ne nq]; exact hm1), M.c, M.n, by decide, ?_⟩
    refine k q _ (((But.upd hp).trans (But.upd hq)).trans But.set) hq0 ?_ upd_same
    rw [upd_ne (Ne.symm nq), upd_same, rep_one]
theorem its_flat {wd : Wc} : ∀ x ∈ wd.its, x = .non ∨ (∃ n : Int, x = .int n) ∨ ∃ z : Str, x = .str z := by
  cases wd with
  | no => intro x hx; cases hx
  | num n => intro x hx; simp only [Wc.its, List.mem_cons, List.not_mem_nil, or_false] at hx; rcases hx with rfl | rfl; exact .inr (.inr ⟨_, rfl⟩); exact .inr (.inl ⟨_, rfl⟩)
  | ad n => intro x hx; simp only [Wc.its, List.mem_cons, List.not_mem_nil, or_false] at hx; rcases hx with rfl | rfl; exact .inr (.inr ⟨_, rfl⟩); exact .inr (.inl ⟨_, rfl⟩)
  | hd t n => intro x hx; simp only [Wc.its, List.mem_cons, List.not_mem_nil, or_false] at hx; rcases hx with rfl | rfl | rfl; exact .inr (.inr ⟨_, rfl⟩); exact .inr (.inl ⟨_, rfl⟩); exact .inr (.inl ⟨_, rfl⟩)
  | mv t n => intro x hx; simp only [Wc.its, List.mem_cons, List.not_mem_nil, or_false] at hx; rcases hx with rfl | rfl | rfl; exact .inr (.inr ⟨_, rfl⟩); exact .inr (.inl ⟨_, rfl⟩); exact .inr (.inl ⟨_, rfl⟩)
theorem its_len {wd : Wc} : wd.its.length ≤ 100 := by
  cases wd <;> simp [Wc.its]
/-- two tuples of the same items, each alike -/
theorem dp_tup {n : Nat} {H : Hp} {s t : Addr} {xs ys : List V} (h1 : H s = some (.tup xs)) (h2 : H t = some (.tup ys)) (hl : xs.length = ys.length) (hz : ys.length ≤ 100) (h : ∀ (i : Nat) (x y : V), xs[i]? = some x → ys[i]? = some y → Dp n H x y) : Dp (n + 1) H (.ref s) (.ref t) :=
  .inr ⟨s, t, xs, ys, rfl, rfl, .inl ⟨h1, h2⟩, hl, hz, h⟩
theorem dp_flat {H : Hp} {v : V} (h : v = .non ∨ (∃ n : Int, v = .int n) ∨ ∃ z : Str, v = .str z) : ∀ n, Dp n H v v
  | 0 => ⟨rfl, h⟩
  | _ + 1 => .inl ⟨rfl, h⟩
theorem dp_wv {H : Hp} {u v : V} {wd : Wc} (hu : WV H u wd) (hv : WV H v wd) : Dp 1 H u v := by
  rcases hu.cases with ⟨e, rfl⟩ | ⟨s, rfl, hs⟩
  · subst e
    obtain rfl : v = .non := hv
    exact dp_flat (.inl rfl) 1
  · rcases hv.cases with ⟨e, rfl⟩ | ⟨t, rfl, ht⟩
    · subst e
      cases (show V.ref s = V.non from hu)
    · refine dp_tup hs ht rfl its_len (fun i x y hx hy => ?_)
      rw [hx] at hy
      cases hy
      exact dp_flat (its_flat x (List.mem_of_getElem? hx)) 0
theorem pair_at {a b x : V} {i : Nat} (h : [a, b][i]? = some x) : (i = 0 ∧ x = a) ∨ (i = 1 ∧ x = b) := by
  match i, h with
  | 0, h => cases h; exact .inl ⟨rfl, rfl⟩
  | 1, h => cases h; exact .inr ⟨rfl, rfl⟩
theorem dp_pair {n : Nat} {H : Hp} {s t : Addr} {a b a' b' : V} (h1 : H s = some (.tup [a, b])) (h2 : H t = some (.tup [a', b'])) (ha : Dp n H a a') (hb : Dp n H b b') : Dp (n + 1) H (.ref s) (.ref t) := by
  refine dp_tup h1 h2 rfl (by show 2 ≤ 100; decide) (fun i x y hx hy => ?_)
  rcases pair_at hx with ⟨rfl, rfl⟩ | ⟨rfl, rfl⟩
  · cases hy; exact ha
  · cases hy; exact hb
theorem But.tups {c : Addr} {H H' : Hp} {zs : List V} (b : But c H H') (h : H c = some (.lst zs)) : Tups H H' := fun t us q => b t _ (ne_of q h (by intro z; cases z)) q
theorem MW.but {H H' : Hp} {m c dx l : Addr} {xs : List V} {ws : List Wc} {zs : List V} (h : MW CM H m c dx xs ws) (b : But l H H') (hl : H l = some (.lst zs)) (n : c ≠ l) : MW CM H' m c dx xs ws :=
  ⟨⟨b _ _ (ne_of h.mem.1 hl (by intro z; cases z)) h.mem.1, b _ _ n h.mem.2⟩, h.rel.keep (b.tups hl), h.good⟩
theorem ML.but {H H' : Hp} {l c : Addr} {ys : List V} {ws : List Wc} {zs : List V} (h : ML H l ys ws) (b : But c H H') (hc : H c = some (.lst zs)) (n : l ≠ c) : ML H' l ys ws := ⟨b _ _ n h.at_, h.rel.keep (b.tups hc), h.good⟩
abbrev scpS : Scope := scopeOf (cmp? ((defBody sShows).getLast!))
theorem cS : CompP (defScope sShows) scpS "a" ["model", "memory"] ["memory", "model"] [0, 1] := by decide +kernel
def spShows (CM : Addr) : Sp := fun vs H Q _ => ∃ m c dx xs ws l ys, vs = [.ref m, .ref l] ∧ MW CM H m c dx xs ws ∧ ML H l ys ws ∧ ∀ H', Same H H' → Q (.bl true) H'
theorem scS : FnScope ["memory", "model"] ["memory", "model"] (defScope sShows) := ⟨rfl, rfl, rfl, by decide +kernel, rfl, by decide +kernel, by decide +kernel⟩
theorem ok_shows {f fA : Addr} {fd fdfSz fdfAt fdfA : FuncData} (F : Fun K "_law_shows" "_law_shows" sShows f fd) (T : Txt K mg CH d0 fXI) (M : MemC K CM fMI fSz fAt fPut fCp fLk) (GfSz : FnOk P w K mg base (CXE P w) 1 fSz fdfSz ["self"] (spSize CM)) (bfSz : Binds K fdfSz ["self"] []) (GfAt : FnOk P w K mg base (CXE P w) 4 fAt fdfAt ["self", "a"] (spAt CM d0)) (bfAt : Binds K fdfAt ["self", "a"] []) (GfA : FnOk P w K mg base (CXE P w) 2 fA fdfA ["found", "due"] (spAl 1)) (mfA : mg "_law_alike" = some (.ref fA)) (kfA : PySem.W.keepIn K (.ref fA) = true) (bfA : Binds K fdfA ["found", "due"] []) : FnOk P w K mg base (CXE P w) 5 f fd ["memory", "model"] (spShows CM) := by
  refine F.okE scS (fun vs H Q E h => ?_) (fun cdv A outer s H vs Q E hr h => ?_)
  · obtain ⟨m, c, dx, xs, ws, l, ys, rfl, _⟩ := h
    rfl
  · obtain ⟨m, c, dx, xs, ws, l, ys, rfl, W, L, k⟩ := h
    have co : CompOk (cxE P w K mg base ["memory", "model"] "_law_shows" (defScope sShows) f cdv A outer s H E).nox scpS [("model", s.heap.objs.size + 1 + 1), ("memory", s.heap.objs.size + 1)] "a" [0, 1] ["a", "memory", "model"] :=
      comp_ok rfl rfl rfl cS rfl rfl (by
        intro q hq
        rcases List.mem_cons.mp hq with rfl | hq
        · rfl
        · rw [List.mem_singleton.mp hq]
          rfl)
    refine ⟨_, PSs.nox (pss_cons (ps_if (pt_cmpR op_ne (xe_meth0 (pv 0) M.c M.sz GfSz (hr.mono (by decide)) bfSz .nil passN) (pe_callB call_len_seq rfl T.z_len PyProof.Rows.Boot.«len» (pa_cons (pv 1) pa_nil)) (nomark _)) (pss_one (ps_ret pe_bl)) pss_nil)
      (pss_one (ps_ret (pe_callB (call_all rfl) rfl T.z_all PyProof.Rows.Boot.«all» (pa_cons (pe_comp co rfl (pi_range1 rfl T.z_range (pa_cons (pe_callB call_len_seq rfl T.z_len PyProof.Rows.Boot.«len» (pa_cons (pv 1) pa_nil)) pa_nil))
        (fun C fp s₀ H₀ => xe_call GfA (hr.mono (by decide)) rfl mfA kfA bfA .nil passF (pa_cons (xe_meth (pv 1) M.c M.at_ GfAt (hr.mono (by decide)) bfAt .nil passF (pa_cons (pv 0) pa_nil)) (pa_cons (pe_ix (r := rIxL K) ix_list (pv 2) (pv 0) (fun _ _ => rfl)) pa_nil)))) pa_nil))))), ?_⟩
    have lx := W.len
    have ly := L.len
    refine ⟨_, rfl, m, dx, _, rfl, W.mem.1, rfl, m, c, dx, xs, rfl, W.mem, _, rfl, l, ys, rfl, .inl (SqL.of L.at_), rfl, _, rfl, iteNS (by rw [lx, ly]) ?_⟩
    have h62 : (ys.length : Int) < 2 ^ 62 := by omega
    refine ⟨_, rfl, l, ys, rfl, .inl (SqL.of L.at_), (ys.length : Int), rfl, by omega, h62, fun D hD => ?_⟩
    refine comp_range (lo := 0) (n := ys.length) (fun i zs H2 => zs = List.replicate i (.bl true) ∧ Same H H2 ∧ H2 D = some (.lst zs)) ⟨rfl, Same.upd hD, upd_same⟩ (fun i zs H2 _ ⟨e, _, z⟩ => ⟨z, by rw [e, List.length_replicate]⟩) (Nat.le_trans (show ys.length ≤ 100 by omega) sz_len) (fun i zs H2 hi ⟨e, s2, z⟩ => ?_) (fun zs H2 ⟨e, s2, z⟩ => ?_)
    · have W2 := W.same s2
      have L2' := L.same s2
      have g : 0 ≤ (0 : Int) + i ∧ (0 : Int) + i < xs.length := ⟨by omega, by omega⟩
      refine ⟨_, rfl, m, dx, _, rfl, W2.mem.1, rfl, _, rfl, m, c, dx, xs, 0 + (i : Int), rfl, W2.mem, log7 (by omega) (by omega), ?_⟩
      rw [if_pos g]
      intro v hv
      obtain ⟨u, wd, hu, hw, wu⟩ := L2'.get g.1 (show (0 : Int) + i < 50 by omega)
      refine ⟨_, rfl, _, rfl, l, ys, 0 + (i : Int), u, rfl, rfl, SqL.of L2'.at_, at_int g.1 hu, v, u, rfl, dp_wv (W2.rel.2 _ _ _ hv hw) wu, fun H3 s3 => ⟨s3 _ _ z, ?_, ?_, upd_same⟩⟩
      · rw [e, List.replicate_succ']
      · exact fun b u q => by rw [upd_ne (ne_of_none q hD)]; exact s3 _ _ (s2 b u q)
    · refine ⟨D, List.replicate ys.length true, rfl, SqL.of (by rw [List.map_replicate, ← e]; exact z), ?_⟩
      rw [show (List.replicate ys.length true).all id = true by simp]
      exact k _ s2
end
end K34
end
section
set_option Elab.async false
set_option linter.all false
set_option maxRecDepth 100000
set_option maxHeartbeats 4000000
set_option exponentiation.threshold 4000
namespace K34
open PySem L2 LX
/-- how many fields stand behind a: of a thing, and where b also of a forward -/
def thk (b : Bool) (ws : List Wc) (a : Int) : Option Int := if 0 ≤ a then (match b, ws[a.toNat]? with
  | _, some (.hd _ n) => if a + n < ws.length then some n else none
  | true, some (.mv _ n) => if a + n < ws.length then some n else none
  | _, _ => none) else none
section
variable {P : Program} {w : World} {K : PySem.W.Frag} {mg : Str → Option Value} {base : Heap} {CH d0 fXI : Addr} {CM fMI fSz fAt fPut fCp fLk : Addr}
theorem thk_out {b : Bool} {ws : List Wc} {a : Int} (h : ¬ (0 ≤ a ∧ a < (ws.length : Int))) : thk b ws a = none := by
  unfold thk
  by_cases h0 : 0 ≤ a
  · rw [if_pos h0, show ws[a.toNat]? = none from List.getElem?_eq_none (by omega)]
  · rw [if_neg h0]
theorem thg_thk {ws : List Wc} {a : Int} : (match thg ws a with | some p => some p.2 | none => none) = thk false ws a := by
  unfold thg thk
  by_cases h0 : 0 ≤ a
  · rw [if_pos h0, if_pos h0]
    cases ws[a.toNat]? with
    | none => rfl
    | some wd =>
      cases wd with
      | hd t n =>
        by_cases z : a + n < (ws.length : Int)
        · simp only [if_pos z]
        · simp only [if_neg z]
      | _ => rfl
  · rw [if_neg h0, if_neg h0]
/-- fields_told, of things and of forwards too -/
def spTold2 (K : PySem.W.Frag) (CM BA : Addr) : Sp := fun vs H Q E => ∃ m c dx xs ws ks, ∃ (a : Int) (b : Bool), vs = [.ref m, .int a, .ref ks] ∧ SqT K H ks (match b with | false => [.str "head"] | true => [.str "head", .str "moved"]) ∧ MW CM H m c dx xs ws ∧ a.natAbs.log2 < 1920 ∧ (match thk b ws a with | some n => Q (.int n) H | none => ∀ H', Same H H' → E (.ref BA) none H')
theorem ok_told2 {f fK fR : Addr} {fd fdX fdfAt fdfK fdfR : FuncData} (F : Fun K "fields_told" "fields_told" sTold f fd) (T : Txt K mg CH d0 fXI) (M : MemC K CM fMI fSz fAt fPut fCp fLk) (GX : FnOk P w K mg base (CXE P w) 1 fXI fdX ["self", "text"] (spXI K)) (bX : Binds K fdX ["self", "text"] []) (GfAt : FnOk P w K mg base (CXE P w) 4 fAt fdfAt ["self", "a"] (spAt CM d0)) (bfAt : Binds K fdfAt ["self", "a"] []) (GfK : FnOk P w K mg base (CXE P w) 1 fK fdfK ["value"] spKind) (mfK : mg "kind_of" = some (.ref fK)) (kfK : PySem.W.keepIn K (.ref fK) = true) (bfK : Binds K fdfK ["value"] []) (GfR : FnOk P w K mg base (CXE P w) 3 fR fdfR ["memory", "a", "fields"] (spRoom CM d0)) (mfR : mg "look_at_room" = some (.ref fR)) (kfR : PySem.W.keepIn K (.ref fR) = true) (bfR : Binds K fdfR ["memory", "a", "fields"] []) : FnOk P w K mg base (CXE P w) 5 f fd ["memory", "a", "kinds"] (spTold2 K CM d0) := by
  refine F.okE scTo (fun vs H Q E h => ?_) (fun cdv A outer s H vs Q E hr h => ?_)
  · obtain ⟨m, c, dx, xs, ws, ks, a, b, rfl, _⟩ := h
    rfl
  · obtain ⟨m, c, dx, xs, ws, ks, a, b, rfl, hks, W, ha, k⟩ := h
    refine ⟨_, pss_cons (ps_set (i := 3) scTo.nd rfl (Or.inl rfl) (xe_meth (pv 0) M.c M.at_ GfAt hr bfAt .nil (Passes.x (passE fun _ _ _ q => q)) (pa_cons (pv 1) pa_nil)))
      (pss_cons (ps_if (PW.pt (pw_or (pt_cmpR op_notIn_seq (xe_call GfK (hr.mono (by decide)) rfl mfK kfK bfK .nil (Passes.x (passE fun _ _ _ q => q)) (pa_cons (pv 3) pa_nil)) (pv 2) (by with_unfolding_all rfl)) (pw_or1 (pt_cmpR op_lt (pe_ix ix_tup (pv 3) pe_int (fun _ _ => rfl)) pe_int (nomark _))))) (pss_one (ps_raise rfl raiseE (xe_err T.mx0 GX (hr.mono (by decide)) rfl T.m0 bX (Passes.x (passE fun _ _ _ q => q)) (pa_cons (pe_fstr (pfs_cons pf_text (pfs_cons (pf_num (pv 1)) pfs_nil))) pa_nil)))) pss_nil)
      (pss_cons (ps_expr (xe_call GfR (hr.mono (by decide)) rfl mfR kfR bfR .nil (Passes.x (passE fun _ _ _ q => q)) (pa_cons (pv 0) (pa_cons (pv 1) (pa_cons (pe_ix ix_tup (pv 3) pe_int (fun _ _ => rfl)) pa_nil)))))
      (pss_one (ps_ret (pe_ix ix_tup (pv 3) pe_int (fun _ _ => rfl)))))), ?_⟩
    refine ⟨_, rfl, m, dx, _, rfl, W.mem.1, rfl, _, rfl, m, c, dx, xs, a, rfl, W.mem, ha, ?_⟩
    by_cases g : 0 ≤ a ∧ a < xs.length
    · rw [if_pos g]
      intro v hv
      have g1 : a < 50 := by have := g.2; rw [W.len] at this; exact this
      obtain ⟨v', wd, hv', hw, wv⟩ := W.at_ g.1 g1
      rw [hv] at hv'
      cases hv'
      cases b with
      | false =>
        refine ⟨_, rfl, v, wd, rfl, wv, _, rfl, ks, _, rfl, .inr hks, rfl, rfl, _, rfl, ?_⟩
        cases wd with
        | no =>
          have kn : thk false ws a = none := by unfold thk; rw [if_pos g.1, hw]
          rw [kn] at k
          exact ite2 (fun _ => ⟨_, rfl, a, rfl, ha, fun y hy ea hea => ⟨ea, d0, none, .str y, rfl, upd_same, T.c0.cls, rfl, ea, d0, none, rfl, upd_same, T.c0.cls, hea, k _ (fun b o q => (by have nb : b ≠ ea := (fun e => by rw [e, hea] at q; cases q); rw [del_ne nb, upd_ne nb]; exact q))⟩⟩) (fun h => absurd (by kernel_rfl) h)
        | num n =>
          have kn : thk false ws a = none := by unfold thk; rw [if_pos g.1, hw]
          rw [kn] at k
          exact ite2 (fun _ => ⟨_, rfl, a, rfl, ha, fun y hy ea hea => ⟨ea, d0, none, .str y, rfl, upd_same, T.c0.cls, rfl, ea, d0, none, rfl, upd_same, T.c0.cls, hea, k _ (fun b o q => (by have nb : b ≠ ea := (fun e => by rw [e, hea] at q; cases q); rw [del_ne nb, upd_ne nb]; exact q))⟩⟩) (fun h => absurd (by kernel_rfl) h)
        | ad n =>
          have kn : thk false ws a = none := by unfold thk; rw [if_pos g.1, hw]
          rw [kn] at k
          exact ite2 (fun _ => ⟨_, rfl, a, rfl, ha, fun y hy ea hea => ⟨ea, d0, none, .str y, rfl, upd_same, T.c0.cls, rfl, ea, d0, none, rfl, upd_same, T.c0.cls, hea, k _ (fun b o q => (by have nb : b ≠ ea := (fun e => by rw [e, hea] at q; cases q); rw [del_ne nb, upd_ne nb]; exact q))⟩⟩) (fun h => absurd (by kernel_rfl) h)
        | hd t n =>
          obtain ⟨p, rfl, hp⟩ := wv
          have nb : 0 ≤ n ∧ n ≤ 6 := W.hd hw
          obtain ⟨n0, n6⟩ := nb
          refine ite2 (fun h => absurd h (Bool.eq_false_iff.mp (by kernel_rfl))) (fun _ => ?_)
          refine ⟨_, rfl, p, _, 2, .int n, rfl, rfl, SqT.of hp, rfl, n, 0, rfl, rfl, _, rfl, ite2 (fun h => ?_) (fun _ => ?_)⟩
          · simp only [decide_eq_true_eq] at h
            omega
          refine ⟨_, rfl, _, rfl, _, rfl, p, _, 2, .int n, rfl, rfl, SqT.of hp, rfl, m, c, dx, xs, a, n, rfl, W.mem, ha, log7 (by omega) (by omega), ?_⟩
          by_cases z : a + n < (ws.length : Int)
          · have kn : thk false ws a = some n := by unfold thk; rw [if_pos g.1, hw]; simp only; rw [if_pos z]
            rw [kn] at k
            rw [if_neg (fun y => y.elim (fun y => by omega) (fun y => by rw [W.rel.1] at y; omega))]
            exact ⟨_, rfl, p, _, 2, .int n, rfl, rfl, SqT.of hp, rfl, k⟩
          · have kn : thk false ws a = none := by unfold thk; rw [if_pos g.1, hw]; simp only; rw [if_neg z]
            rw [kn] at k
            rw [if_pos (.inr (by rw [W.rel.1]; omega))]
            exact k
        | mv b n =>
          have kn : thk false ws a = none := by unfold thk; rw [if_pos g.1, hw]
          rw [kn] at k
          exact ite2 (fun _ => ⟨_, rfl, a, rfl, ha, fun y hy ea hea => ⟨ea, d0, none, .str y, rfl, upd_same, T.c0.cls, rfl, ea, d0, none, rfl, upd_same, T.c0.cls, hea, k _ (fun b o q => (by have nb : b ≠ ea := (fun e => by rw [e, hea] at q; cases q); rw [del_ne nb, upd_ne nb]; exact q))⟩⟩) (fun h => absurd (by kernel_rfl) h)
      | true =>
        refine ⟨_, rfl, v, wd, rfl, wv, _, rfl, ks, _, rfl, .inr hks, rfl, rfl, _, rfl, ?_⟩
        cases wd with
        | no =>
          have kn : thk true ws a = none := by unfold thk; rw [if_pos g.1, hw]
          rw [kn] at k
          exact ite2 (fun _ => ⟨_, rfl, a, rfl, ha, fun y hy ea hea => ⟨ea, d0, none, .str y, rfl, upd_same, T.c0.cls, rfl, ea, d0, none, rfl, upd_same, T.c0.cls, hea, k _ (fun b o q => (by have nb : b ≠ ea := (fun e => by rw [e, hea] at q; cases q); rw [del_ne nb, upd_ne nb]; exact q))⟩⟩) (fun h => absurd (by kernel_rfl) h)
        | num n =>
          have kn : thk true ws a = none := by unfold thk; rw [if_pos g.1, hw]
          rw [kn] at k
          exact ite2 (fun _ => ⟨_, rfl, a, rfl, ha, fun y hy ea hea => ⟨ea, d0, none, .str y, rfl, upd_same, T.c0.cls, rfl, ea, d0, none, rfl, upd_same, T.c0.cls, hea, k _ (fun b o q => (by have nb : b ≠ ea := (fun e => by rw [e, hea] at q; cases q); rw [del_ne nb, upd_ne nb]; exact q))⟩⟩) (fun h => absurd (by kernel_rfl) h)
        | ad n =>
          have kn : thk true ws a = none := by unfold thk; rw [if_pos g.1, hw]
          rw [kn] at k
          exact ite2 (fun _ => ⟨_, rfl, a, rfl, ha, fun y hy ea hea => ⟨ea, d0, none, .str y, rfl, upd_same, T.c0.cls, rfl, ea, d0, none, rfl, upd_same, T.c0.cls, hea, k _ (fun b o q => (by have nb : b ≠ ea := (fun e => by rw [e, hea] at q; cases q); rw [del_ne nb, upd_ne nb]; exact q))⟩⟩) (fun h => absurd (by kernel_rfl) h)
        | hd t n =>
          obtain ⟨p, rfl, hp⟩ := wv
          have nb : 0 ≤ n ∧ n ≤ 6 := W.hd hw
          obtain ⟨n0, n6⟩ := nb
          refine ite2 (fun h => absurd h (Bool.eq_false_iff.mp (by kernel_rfl))) (fun _ => ?_)
          refine ⟨_, rfl, p, _, 2, .int n, rfl, rfl, SqT.of hp, rfl, n, 0, rfl, rfl, _, rfl, ite2 (fun h => ?_) (fun _ => ?_)⟩
          · simp only [decide_eq_true_eq] at h
            omega
          refine ⟨_, rfl, _, rfl, _, rfl, p, _, 2, .int n, rfl, rfl, SqT.of hp, rfl, m, c, dx, xs, a, n, rfl, W.mem, ha, log7 (by omega) (by omega), ?_⟩
          by_cases z : a + n < (ws.length : Int)
          · have kn : thk true ws a = some n := by unfold thk; rw [if_pos g.1, hw]; simp only; rw [if_pos z]
            rw [kn] at k
            rw [if_neg (fun y => y.elim (fun y => by omega) (fun y => by rw [W.rel.1] at y; omega))]
            exact ⟨_, rfl, p, _, 2, .int n, rfl, rfl, SqT.of hp, rfl, k⟩
          · have kn : thk true ws a = none := by unfold thk; rw [if_pos g.1, hw]; simp only; rw [if_neg z]
            rw [kn] at k
            rw [if_pos (.inr (by rw [W.rel.1]; omega))]
            exact k
        | mv b n =>
          obtain ⟨p, rfl, hp⟩ := wv
          have nb : 0 ≤ n ∧ n ≤ 6 := (W.good.mv _ (List.mem_of_getElem? hw) _ _ rfl).2.2
          obtain ⟨n0, n6⟩ := nb
          refine ite2 (fun h => absurd h (Bool.eq_false_iff.mp (by kernel_rfl))) (fun _ => ?_)
          refine ⟨_, rfl, p, _, 2, .int n, rfl, rfl, SqT.of hp, rfl, n, 0, rfl, rfl, _, rfl, ite2 (fun h => ?_) (fun _ => ?_)⟩
          · simp only [decide_eq_true_eq] at h
            omega
          refine ⟨_, rfl, _, rfl, _, rfl, p, _, 2, .int n, rfl, rfl, SqT.of hp, rfl, m, c, dx, xs, a, n, rfl, W.mem, ha, log7 (by omega) (by omega), ?_⟩
          by_cases z : a + n < (ws.length : Int)
          · have kn : thk true ws a = some n := by unfold thk; rw [if_pos g.1, hw]; simp only; rw [if_pos z]
            rw [kn] at k
            rw [if_neg (fun y => y.elim (fun y => by omega) (fun y => by rw [W.rel.1] at y; omega))]
            exact ⟨_, rfl, p, _, 2, .int n, rfl, rfl, SqT.of hp, rfl, k⟩
          · have kn : thk true ws a = none := by unfold thk; rw [if_pos g.1, hw]; simp only; rw [if_neg z]
            rw [kn] at k
            rw [if_pos (.inr (by rw [W.rel.1]; omega))]
            exact k
    · rw [if_neg g]
      rw [thk_out (by rw [← W.rel.1]; exact g)] at k
      exact k
theorem ok_fat2 {f fTo : Addr} {fd fdfTo : FuncData} (F : Fun K "fields_at" "fields_at" sFAt f fd) (GfTo : FnOk P w K mg base (CXE P w) 5 fTo fdfTo ["memory", "a", "kinds"] (spTold2 K CM d0)) (mfTo : mg "fields_told" = some (.ref fTo)) (kfTo : PySem.W.keepIn K (.ref fTo) = true) (bfTo : Binds K fdfTo ["memory", "a", "kinds"] []) : FnOk P w K mg base (CXE P w) 6 f fd ["memory", "a"] (spFAt CM d0) := by
  refine F.okE (N := ["memory", "a"]) ⟨rfl, rfl, rfl, by decide +kernel, rfl, by decide +kernel, by decide +kernel⟩ (fun vs H Q E h => ?_) (fun cdv A outer s H vs Q E hr h => ?_)
  · obtain ⟨m, c, dx, xs, ws, a, rfl, _⟩ := h
    rfl
  · obtain ⟨m, c, dx, xs, ws, a, rfl, W, ha, k⟩ := h
    refine ⟨_, pss_one (ps_ret (xe_call GfTo hr rfl mfTo kfTo bfTo .nil (Passes.x (passE fun _ _ _ q => q)) (pa_cons (pv 0) (pa_cons (pv 1) (pa_cons (pe_tup (pa_cons pe_str pa_nil)) pa_nil))))), ?_⟩
    refine ⟨_, rfl, _, rfl, by show 1 ≤ sizeLine; decide, fun p hp => ⟨m, c, dx, xs, ws, p, a, false, rfl, SqT.of upd_same, W.same (Same.upd hp), ha, ?_⟩⟩
    rw [← thg_thk]
    cases e : thg ws a with
    | none => rw [e] at k; exact fun H' s' => k H' ((Same.upd hp).trans s')
    | some q => rw [e] at k; exact k _ (Same.upd hp)
end
end K34
end
section
set_option Elab.async false
set_option linter.all false
set_option maxRecDepth 100000
set_option maxHeartbeats 4000000
set_option exponentiation.threshold 4000
namespace K34
open PySem L2 LX
/-! ### a walk from a on -/
inductive Wk (ws : List Wc) (be : Int) : Int → Option (List Int) → Prop where
  | done {a : Int} : be ≤ a → Wk ws be a (some [])
  | bad {a : Int} : a < be → thk true ws a = none → Wk ws be a none
  | over {a n : Int} : a < be → thk true ws a = some n → be < a + n + 1 → Wk ws be a none
  | step {a n : Int} {r : Option (List Int)} : a < be → thk true ws a = some n → a + n + 1 ≤ be → Wk ws be (a + n + 1) r → Wk ws be a (r.map (a :: ·))
theorem thk_some {b : Bool} {ws : List Wc} {a n : Int} (h : thk b ws a = some n) (g : Good ws) : 0 ≤ a ∧ 0 ≤ n ∧ n ≤ 6 ∧ a + n < 50 := by
  unfold thk at h
  split at h
  · rename_i h0
    split at h
    · rename_i t m e
      split at h
      · rename_i z
        cases h
        have := g.hd _ (List.mem_of_getElem? e) _ _ rfl
        exact ⟨h0, this.1, this.2, by rw [g.len] at z; exact z⟩
      · cases h
    · rename_i t m e
      split at h
      · rename_i z
        cases h
        have := g.mv _ (List.mem_of_getElem? e) _ _ rfl
        exact ⟨h0, this.2.2.1, this.2.2.2, by rw [g.len] at z; exact z⟩
      · cases h
    · cases h
  · cases h
theorem Wk.one {ws : List Wc} {be a : Int} {r r' : Option (List Int)} (h : Wk ws be a r) : Wk ws be a r' → r' = r := by
  induction h generalizing r' with
  | done h => intro q; cases q <;> first | rfl | omega
  | bad h e =>
    intro q
    cases q with
    | done h' => omega
    | bad => rfl
    | over => rfl
    | step _ e' _ _ => rw [e] at e'; cases e'
  | over h e z =>
    intro q
    cases q with
    | done h' => omega
    | bad => rfl
    | over => rfl
    | step _ e' z' _ => rw [e] at e'; cases e'; omega
  | step h e z _ ih =>
    intro q
    cases q with
    | done h' => omega
    | bad _ e' => rw [e] at e'; cases e'
    | over _ e' z' => rw [e] at e'; cases e'; omega
    | step _ e' _ q => rw [e] at e'; cases e'; rw [ih q]
section
variable {P : Program} {w : World} {K : PySem.W.Frag} {mg : Str → Option Value} {base : Heap} {CH d0 fXI : Addr} {CM fMI fSz fAt fPut fCp fLk : Addr}
/-- walked -/
def spWalk (CM BA : Addr) : Sp := fun vs H Q E => ∃ m c dx xs ws, ∃ a be : Int, vs = [.ref m, .int a, .int be] ∧ MW CM H m c dx xs ws ∧ a.natAbs.log2 < 1920 ∧ be.natAbs.log2 < 1920 ∧
  (∀ fs, Wk ws be a (some fs) → ∀ l H', Same H H' → H l = none → H' l = some (.lst (fs.map V.int)) → Q (.ref l) H') ∧ (Wk ws be a none → ∀ H', Same H H' → E (.ref BA) none H')
theorem scWk : FnScope ["memory", "first", "behind", "firsts", "a"] ["memory", "first", "behind"] (defScope sWalk) := ⟨rfl, rfl, rfl, by decide +kernel, rfl, by decide +kernel, by decide +kernel⟩
theorem ok_walk {f fTo : Addr} {fd fdX fdTo : FuncData} (F : Fun K "walked" "walked" sWalk f fd) (T : Txt K mg CH d0 fXI) (GX : FnOk P w K mg base (CXE P w) 1 fXI fdX ["self", "text"] (spXI K)) (bX : Binds K fdX ["self", "text"] [])
    (GTo : FnOk P w K mg base (CXE P w) 5 fTo fdTo ["memory", "a", "kinds"] (spTold2 K CM d0)) (mTo : mg "fields_told" = some (.ref fTo)) (kTo : PySem.W.keepIn K (.ref fTo) = true) (bTo : Binds K fdTo ["memory", "a", "kinds"] []) : FnOk P w K mg base (CXE P w) 6 f fd ["memory", "first", "behind"] (spWalk CM d0) := by
  refine F.okE scWk (fun vs H Q E h => ?_) (fun cdv A outer s H vs Q E hr h => ?_)
  · obtain ⟨m, c, dx, xs, ws, a, be, rfl, _⟩ := h
    rfl
  · obtain ⟨m, c, dx, xs, ws, a, be, rfl, W, ha, hbe, kq, ke⟩ := h
    have r1 := hr.mono (show 2 ≤ 5 by decide)
    refine ⟨_, PSs.xr (pss_cons (ps_set (i := 3) scWk.nd rfl (Or.inl rfl) (pe_lst pa_nil))
      (pss_cons (ps_set (i := 4) scWk.nd rfl (Or.inl rfl) (pv 1))
      (pss_cons (ps_while ownR (pt_cmpR op_lt (pv 4) (pv 2) (nomark _))
        (pss_cons (ps_expr (pe_bm PySem.F.plainAttrs_list PySem.F.slot_list_append PySem.F.type_list_append mt_append (pv 3) (pa_cons (pv 4) pa_nil)))
        (pss_cons (ps_aug (i := 4) scWk.nd rfl (Or.inl rfl) (pe_op op_add (xe_call GTo hr rfl mTo kTo bTo .nil (passR fun _ _ _ q => q) (pa_cons (pv 0) (pa_cons (pv 4) (pa_cons (pe_tup (pa_cons pe_str (pa_cons pe_str pa_nil))) pa_nil)))) pe_int) ip_add)
        (pss_one (ps_if (pt_cmpR op_gt (pv 4) (pv 2) (nomark _)) (pss_one (ps_raise rfl raiseR (xe_err T.mx0 GX r1 rfl T.m0 bX (passR fun _ _ _ q => q) (pa_cons (pe_fstr (pfs_cons pf_text (pfs_cons (pf_num (pv 2)) pfs_nil))) pa_nil)))) pss_nil)))))
      (pss_one (ps_ret (pv 3)))))), ?_⟩
    refine ⟨by show 0 ≤ sizeLine; decide, fun lg hlg => ?_⟩
    have s1 := Same.upd (o := .lst []) hlg
    have zlg : upd H lg (.lst []) lg = some (.lst ([] : List V)) := upd_same
    obtain ⟨H1, e1⟩ : ∃ H1, upd H lg (.lst []) = H1 := ⟨_, rfl⟩
    show gName 3 (V.ref lg) _ (upd H lg (.lst [])) _
    rw [e1] at s1 zlg ⊢
    clear e1
    refine ⟨_, rfl, ⟨fun n σ Hx => ∃ (a1 : Int) (fs : List Int), n = (be - a1).toNat ∧ σ = [some (.ref m), some (.int a), some (.int be), some (.ref lg), some (.int a1)] ∧ Same H Hx ∧ Hx lg = some (.lst (fs.map V.int)) ∧ fs.length ≤ 100 ∧ a1.natAbs.log2 < 1920 ∧ (fs = [] ∨ (0 ≤ a1 ∧ a1 ≤ 50 ∧ (fs.length : Int) ≤ a1)) ∧ ∀ r, Wk ws be a1 r → Wk ws be a (r.map (fs ++ ·)),
      ⟨_, a, [], rfl, rfl, s1, zlg, by decide, ha, .inl rfl, fun r h => by cases r <;> exact h⟩, ?_⟩⟩
    rintro n σ Hx ⟨a1, fs, rfl, rfl, sx, zl, hl, hla, hb, hw⟩
    refine ⟨_, rfl, _, rfl, a1, be, rfl, rfl, _, rfl, ite2 (fun h => ?_) (fun h => ?_)⟩
    · have hlt := of_decide_eq_true h
      refine ⟨fun σ' H' => ∃ m', m' < (be - a1).toNat ∧ ∃ (a1 : Int) (fs : List Int), m' = (be - a1).toNat ∧ σ' = [some (.ref m), some (.int a), some (.int be), some (.ref lg), some (.int a1)] ∧ Same H H' ∧ H' lg = some (.lst (fs.map V.int)) ∧ fs.length ≤ 100 ∧ a1.natAbs.log2 < 1920 ∧ (fs = [] ∨ (0 ≤ a1 ∧ a1 ≤ 50 ∧ (fs.length : Int) ≤ a1)) ∧ ∀ r, Wk ws be a1 r → Wk ws be a (r.map (fs ++ ·)), fun _ _ h => h, ?_⟩
      refine ⟨_, rfl, .inl ⟨rfl, _, SqL.of zl⟩, _, rfl, lg, _, _, rfl, rfl, zl, Nat.lt_of_le_of_lt (show (fs.map V.int).length ≤ 100 by rw [List.length_map]; exact hl) (by decide), ?_⟩
      have s2 : Same H (upd Hx lg (.lst (fs.map V.int ++ [V.int a1]))) := fun b u q => by rw [upd_ne (ne_of_none q hlg)]; exact sx b u q
      have z2 : upd Hx lg (.lst (fs.map V.int ++ [V.int a1])) lg = some (.lst ((fs ++ [a1]).map V.int)) := by rw [upd_same, List.map_append]; rfl
      obtain ⟨H2, e2⟩ : ∃ H2, upd Hx lg (.lst (fs.map V.int ++ [V.int a1])) = H2 := ⟨_, rfl⟩
      rw [e2] at s2 z2 ⊢
      clear e2
      refine ⟨_, rfl, _, rfl, _, rfl, by show 2 ≤ sizeLine; decide, fun tp htp => ⟨m, c, dx, xs, ws, tp, a1, true, rfl, SqT.of upd_same, W.same (s2.trans (Same.upd htp)), hla, ?_⟩⟩
      have s3 := s2.trans (Same.upd (o := .tup [V.str "head", V.str "moved"]) htp)
      have z3 := Same.upd (o := .tup [V.str "head", V.str "moved"]) htp _ _ z2
      cases e : thk true ws a1 with
      | none => exact fun H' s' => ke (hw none (.bad hlt e)) H' (s3.trans s')
      | some k =>
        obtain ⟨t0, t1, t2, t3⟩ := thk_some e W.good
        refine ⟨k, 1, rfl, rfl, a1, k + 1, rfl, rfl, _, rfl, _, rfl, a1 + (k + 1), be, rfl, rfl, _, rfl, ite2 (fun g => ?_) (fun g => ?_)⟩
        · have hg := of_decide_eq_true g
          refine ⟨_, rfl, be, rfl, hbe, fun y hy ea hea => ⟨ea, d0, none, .str y, rfl, upd_same, T.c0.cls, rfl, ea, d0, none, rfl, upd_same, T.c0.cls, s3.free hea, ?_⟩⟩
          refine ke (hw none (.over hlt e (by omega))) _ (fun b o q => ?_)
          have q3 := s3 _ _ q
          have nb : b ≠ ea := fun z => by rw [z, hea] at q3; cases q3
          rw [del_ne nb, upd_ne nb]
          exact q3
        · have hg : ¬ be < a1 + (k + 1) := fun z => g (decide_eq_true z)
          have hfl : (fs.length : Int) ≤ a1 := by
            rcases hb with rfl | ⟨_, _, h⟩
            · simpa using t0
            · exact h
          refine ⟨(be - (a1 + (k + 1))).toNat, by omega, a1 + (k + 1), fs ++ [a1], rfl, rfl, s3, z3, ?_, log7 (by omega) (by omega), .inr ⟨by omega, by omega, ?_⟩, fun r hr => ?_⟩
          · rw [List.length_append, List.length_singleton]; omega
          · rw [List.length_append, List.length_singleton]; omega
          · have h1 := hw _ (.step hlt e (by omega) (show Wk ws be (a1 + k + 1) r by rw [show a1 + k + 1 = a1 + (k + 1) by omega]; exact hr))
            cases r with
            | none => exact h1
            | some l =>
              rw [show Option.map (fun x => fs ++ [a1] ++ x) (some l) = Option.map (fun x => fs ++ x) (Option.map (a1 :: ·) (some l)) by simp]
              exact h1
    · have hge : be ≤ a1 := by
        have : ¬ a1 < be := fun z => h (decide_eq_true z)
        omega
      refine ⟨_, rfl, kq fs ?_ lg Hx sx hlg zl⟩
      have := hw _ (.done hge)
      rwa [show Option.map (fun x => fs ++ x) (some []) = some fs by simp] at this
end
end K34
end
section
set_option Elab.async false
set_option linter.all false
set_option maxRecDepth 100000
set_option maxHeartbeats 4000000
set_option exponentiation.threshold 4000
namespace K34
open PySem L2 LX
/-! ### forwards followed -/
inductive Res (ws : List Wc) : Int → Int → Prop where
  | stop {a : Int} {wd : Wc} : 0 ≤ a → ws[a.toNat]? = some wd → (∀ b n, wd ≠ .mv b n) → Res ws a a
  | step {a b n z : Int} : 0 ≤ a → ws[a.toNat]? = some (.mv b n) → Res ws b z → Res ws a z
theorem Res.one {ws : List Wc} {a z y : Int} (h : Res ws a z) : Res ws a y → y = z := by
  induction h with
  | stop h0 h1 h2 =>
    intro q
    cases q with
    | stop => rfl
    | step _ e _ => rw [h1] at e; exact absurd (Option.some.inj e) (h2 _ _)
  | step h0 h1 _ ih =>
    intro q
    cases q with
    | stop _ e hn => rw [h1] at e; exact absurd (Option.some.inj e).symm (hn _ _)
    | step _ e r => rw [h1] at e; cases e; exact ih r
/-! ### a thing moved -/
theorem laid_mv {ws wv : List Wc} {a t : Int} (a0 : 0 ≤ a) (hv : ∀ x ∈ wv, NotHd x) : ∀ i, i ≤ wv.length → ∀ (j : Nat) (b n : Int), (laidN ws a t wv i)[j]? = some (.mv b n) → ws[j]? = some (.mv b n) ∧ (j < a.toNat ∨ a.toNat + i < j)
  | 0, _, j, b, n, e => by
    have e : (ws.set a.toNat (.hd t wv.length))[j]? = some (.mv b n) := e
    by_cases h : a.toNat = j
    · subst h
      rw [List.getElem?_set] at e
      simp only [if_true] at e
      split at e <;> cases e
    · rw [List.getElem?_set_ne h] at e
      exact ⟨e, by omega⟩
  | i + 1, hi, j, b, n, e => by
    have e : (match wv[i]? with | some wd => (laidN ws a t wv i).set (a + 1 + i).toNat wd | none => laidN ws a t wv i)[j]? = some (.mv b n) := e
    have hx : wv[i]? = some wv[i] := List.getElem?_eq_getElem (by omega)
    rw [hx] at e
    simp only at e
    by_cases h : (a + 1 + i).toNat = j
    · subst h
      rw [List.getElem?_set] at e
      simp only [if_true] at e
      split at e
      · exact absurd (Option.some.inj e) ((hv _ (List.getElem_mem (by omega))).2 b n)
      · cases e
    · rw [List.getElem?_set_ne h] at e
      obtain ⟨h1, h2⟩ := laid_mv a0 hv i (by omega) j b n e
      exact ⟨h1, by omega⟩
def mvd (ws : List Wc) (a b t : Int) (wv : List Wc) : List Wc := (laidN ws b t wv wv.length).set a.toNat (.mv b wv.length)
theorem mvd_good {ws wv : List Wc} {a b t : Int} (g : Good ws) (hv : ∀ x ∈ wv, NotHd x) (hl : wv.length ≤ 6) (b0 : 0 ≤ b) (b1 : b + wv.length < 50) (a0 : 0 ≤ a) (ap : a + wv.length < b ∨ b + wv.length < a) : Good (mvd ws a b t wv) := by
  have gl := laid_good (a := b) (t := t) g hv hl wv.length
  refine ⟨by unfold mvd; rw [List.length_set]; exact gl.len, fun x hx => ?_, fun x hx => ?_, ?_⟩
  · rcases List.mem_or_eq_of_mem_set hx with q | q
    · exact gl.hd x q
    · rw [q]; intro t n e; cases e
  · rcases List.mem_or_eq_of_mem_set hx with q | q
    · exact gl.mv x q
    · rw [q]; intro b' n e; cases e; exact ⟨b0, by omega, by omega, by omega⟩
  · obtain ⟨rk, hr⟩ := g.rk
    refine ⟨fun z => if b.toNat ≤ z ∧ z ≤ b.toNat + wv.length then 0 else rk z + 1, fun j b' n e => ?_⟩
    unfold mvd at e
    by_cases hj : a.toNat = j
    · subst hj
      rw [List.getElem?_set] at e
      simp only [if_true] at e
      split at e
      · cases e
        simp only
        rw [if_pos ⟨Nat.le_refl _, by omega⟩, if_neg (by omega)]
        omega
      · cases e
    · rw [List.getElem?_set_ne hj] at e
      obtain ⟨h1, h2⟩ := laid_mv b0 hv wv.length (Nat.le_refl _) j b' n e
      have := hr j b' n h1
      simp only
      rw [if_neg (show ¬ (b.toNat ≤ j ∧ j ≤ b.toNat + wv.length) by omega)]
      split <;> omega
section
variable {P : Program} {w : World} {K : PySem.W.Frag} {mg : Str → Option Value} {base : Heap} {CH d0 fXI : Addr} {CM fMI fSz fAt fPut fCp fLk : Addr}
/-- resolved -/
def spRes (CM BA : Addr) : Sp := fun vs H Q E => ∃ m c dx xs ws, ∃ a : Int, vs = [.ref m, .int a] ∧ MW CM H m c dx xs ws ∧ a.natAbs.log2 < 1920 ∧ (if 0 ≤ a ∧ a < 50 then ∀ z, Res ws a z → Q (.int z) H else ∀ H', Same H H' → E (.ref BA) none H')
theorem scRes : FnScope ["memory", "a", "word"] ["memory", "a"] (defScope sRes) := ⟨rfl, rfl, rfl, by decide +kernel, rfl, by decide +kernel, by decide +kernel⟩
def WRes (H0 : Hp) (m : Addr) (xs : List V) (ws : List Wc) (rk : Nat → Nat) (a0 : Int) (n : Nat) (σ : St) (Hx : Hp) : Prop := Hx = H0 ∧ ∃ (a : Int) (v : V) (wd : Wc), 0 ≤ a ∧ a < 50 ∧ xs[a.toNat]? = some v ∧ ws[a.toNat]? = some wd ∧ n = rk a.toNat ∧ (∀ z, Res ws a z → Res ws a0 z) ∧ σ = [some (.ref m), some (.int a), some v]
theorem ok_res {f fK : Addr} {fd fdfAt fdfK : FuncData} (F : Fun K "resolved" "resolved" sRes f fd) (M : MemC K CM fMI fSz fAt fPut fCp fLk) (GfAt : FnOk P w K mg base (CXE P w) 4 fAt fdfAt ["self", "a"] (spAt CM d0)) (bfAt : Binds K fdfAt ["self", "a"] [])
    (GfK : FnOk P w K mg base (CXE P w) 1 fK fdfK ["value"] spKind) (mfK : mg "kind_of" = some (.ref fK)) (kfK : PySem.W.keepIn K (.ref fK) = true) (bfK : Binds K fdfK ["value"] []) : FnOk P w K mg base (CXE P w) 5 f fd ["memory", "a"] (spRes CM d0) := by
  refine F.okE scRes (fun vs H Q E h => ?_) (fun cdv A outer s H vs Q E hr h => ?_)
  · obtain ⟨m, c, dx, xs, ws, a, rfl, _⟩ := h
    rfl
  · obtain ⟨m, c, dx, xs, ws, a, rfl, W, ha, k⟩ := h
    refine ⟨_, pss_cons (ps_set (i := 2) scRes.nd rfl (Or.inl rfl) (xe_meth (pv 0) M.c M.at_ GfAt hr bfAt .nil (Passes.x (passE fun _ _ _ q => q)) (pa_cons (pv 1) pa_nil)))
      (PSs.nox (pss_cons (ps_while PassesOwn.never (pt_cmpR op_eq (xe_call GfK (hr.mono (by decide)) rfl mfK kfK bfK .nil passN (pa_cons (pv 2) pa_nil)) pe_str (nomark _))
          (pss_cons (ps_set (i := 1) scRes.nd rfl (Or.inl rfl) (pe_ix ix_tup (pv 2) pe_int (fun _ _ => rfl))) (pss_one (ps_set (i := 2) scRes.nd rfl (Or.inl rfl) (xe_meth (pv 0) M.c M.at_ GfAt hr bfAt .nil passN (pa_cons (pv 1) pa_nil))))))
        (pss_one (ps_ret (pv 1))))), ?_⟩
    refine ⟨_, rfl, m, dx, _, rfl, W.mem.1, rfl, _, rfl, m, c, dx, xs, a, rfl, W.mem, ha, ?_⟩
    have lx := W.len
    by_cases g : 0 ≤ a ∧ a < 50
    · rw [if_pos g] at k
      rw [if_pos ⟨g.1, by rw [lx]; exact g.2⟩]
      intro v hv
      obtain ⟨rk, hr'⟩ := W.good.rk
      obtain ⟨v', wd, hv', hw, _⟩ := W.at_ g.1 g.2
      rw [hv] at hv'
      cases hv'
      refine ⟨WRes H m xs ws rk a, ⟨_, rfl, a, v, wd, g.1, g.2, hv, hw, rfl, fun z h => h, rfl⟩, ?_⟩
      rintro n σ Hx ⟨rfl, a1, v1, w1, g0, g1, hv1, hw1, rfl, hres, rfl⟩
      have wv := W.rel.2 _ _ _ hv1 hw1
      refine ⟨_, rfl, v1, w1, rfl, wv, rfl, _, rfl, ?_⟩
      cases w1 with
      | no => exact ite2 (fun h => absurd h (Bool.eq_false_iff.mp (by kernel_rfl))) (fun _ => ⟨_, rfl, k _ (hres _ (.stop g0 hw1 (fun _ _ e => by cases e)))⟩)
      | num n => exact ite2 (fun h => absurd h (Bool.eq_false_iff.mp (by kernel_rfl))) (fun _ => ⟨_, rfl, k _ (hres _ (.stop g0 hw1 (fun _ _ e => by cases e)))⟩)
      | ad n => exact ite2 (fun h => absurd h (Bool.eq_false_iff.mp (by kernel_rfl))) (fun _ => ⟨_, rfl, k _ (hres _ (.stop g0 hw1 (fun _ _ e => by cases e)))⟩)
      | hd t n => exact ite2 (fun h => absurd h (Bool.eq_false_iff.mp (by kernel_rfl))) (fun _ => ⟨_, rfl, k _ (hres _ (.stop g0 hw1 (fun _ _ e => by cases e)))⟩)
      | mv b n =>
        obtain ⟨p, rfl, hp⟩ := wv
        obtain ⟨b0, b1, _, _⟩ := W.good.mv _ (List.mem_of_getElem? hw1) b n rfl
        refine ite2 (fun _ => ⟨fun σ' H' => ∃ m', m' < rk a1.toNat ∧ WRes Hx m xs ws rk a m' σ' H', fun _ _ h => h, ?_⟩) (fun h => absurd (by kernel_rfl) h)
        refine ⟨_, rfl, p, _, 1, .int b, rfl, rfl, SqT.of hp, rfl, _, rfl, m, dx, _, rfl, W.mem.1, rfl, _, rfl, m, c, dx, xs, b, rfl, W.mem, log7 (by omega) (by omega), ?_⟩
        rw [if_pos ⟨b0, by rw [lx]; exact b1⟩]
        intro v2 hv2
        obtain ⟨v', w2, hv', hw2, _⟩ := W.at_ b0 b1
        exact ⟨rk b.toNat, hr' _ _ _ hw1, rfl, b, v2, w2, b0, b1, hv2, hw2, rfl, fun z h => hres z (.step g0 hw1 h), rfl⟩
    · rw [if_neg g] at k
      rw [if_neg (fun z => g ⟨z.1, by rw [lx] at z; exact z.2⟩)]
      exact k
/-- move -/
def spMove (CM BA : Addr) : Sp := fun vs H Q E => ∃ m c dx xs ws, ∃ a b : Int, vs = [.ref m, .int a, .int b] ∧ MW CM H m c dx xs ws ∧ a.natAbs.log2 < 1920 ∧ -1000 ≤ b ∧ b ≤ 1000 ∧
  (match thg ws a with
    | none => ∀ H', Same H H' → E (.ref BA) none H'
    | some p => (∀ x ∈ seg ws a p.2, NotHd x) ∧ (a + p.2 < b ∨ b + p.2 < a) ∧ (if b < 0 ∨ 50 ≤ b + p.2 then ∀ H', Same H H' → E (.ref BA) none H' else ∀ xs' H', MW CM H' m c dx xs' (mvd ws a b p.1 (seg ws a p.2)) → But c H H' → Q .non H'))
theorem scMove : FnScope ["memory", "a", "b", "thing"] ["memory", "a", "b"] (defScope sMove) := ⟨rfl, rfl, rfl, by decide +kernel, rfl, by decide +kernel, by decide +kernel⟩
theorem ok_move {f fT fL : Addr} {fd fdfPut fdfT fdfL : FuncData} (F : Fun K "move" "move" sMove f fd) (T : Txt K mg CH d0 fXI) (M : MemC K CM fMI fSz fAt fPut fCp fLk) (GfPut : FnOk P w K mg base (CXE P w) 4 fPut fdfPut ["self", "a", "word"] (spPut CM d0)) (bfPut : Binds K fdfPut ["self", "a", "word"] [])
    (GT : FnOk P w K mg base (CXE P w) 7 fT fdfT ["memory", "a"] (spThing CM d0)) (mT : mg "thing_at" = some (.ref fT)) (kT : PySem.W.keepIn K (.ref fT) = true) (bT : Binds K fdfT ["memory", "a"] [])
    (GL : FnOk P w K mg base (CXE P w) 7 fL fdfL ["memory", "a", "t", "values"] (spLay CM d0)) (mL : mg "lay" = some (.ref fL)) (kL : PySem.W.keepIn K (.ref fL) = true) (bL : Binds K fdfL ["memory", "a", "t", "values"] []) : FnOk P w K mg base (CXE P w) 8 f fd ["memory", "a", "b"] (spMove CM d0) := by
  refine F.okE scMove (fun vs H Q E h => ?_) (fun cdv A outer s H vs Q E hr h => ?_)
  · obtain ⟨m, c, dx, xs, ws, a, b, rfl, _⟩ := h
    rfl
  · obtain ⟨m, c, dx, xs, ws, a, b, rfl, W, ha, hb0, hb1, k⟩ := h
    refine ⟨_, pss_cons (ps_set (i := 3) scMove.nd rfl (Or.inl rfl) (xe_call GT hr rfl mT kT bT .nil (Passes.x (passE fun _ _ _ q => q)) (pa_cons (pv 0) (pa_cons (pv 1) pa_nil))))
      (pss_cons (ps_expr (xe_call GL hr rfl mL kL bL .nil (Passes.x (passE fun _ _ _ q => q)) (pa_cons (pv 0) (pa_cons (pv 2) (pa_cons (pe_ix ix_tup (pv 3) pe_int (fun _ _ => rfl)) (pa_cons (pe_ix ix_tup (pv 3) pe_int (fun _ _ => rfl)) pa_nil))))))
      (PSs.nox (pss_one (ps_expr (xe_meth (pv 0) M.c M.pt GfPut (hr.mono (by decide)) bfPut .nil passN (pa_cons (pv 1) (pa_cons (pe_tup (pa_cons pe_str (pa_cons (pv 2) (pa_cons (pe_callB call_len_seq rfl T.z_len PyProof.Rows.Boot.«len» (pa_cons (pe_ix ix_tup (pv 3) pe_int (fun _ _ => rfl)) pa_nil)) pa_nil)))) pa_nil))))))), ?_⟩
    refine ⟨_, rfl, _, rfl, m, c, dx, xs, ws, a, rfl, W, ha, ?_⟩
    cases e : thg ws a with
    | none => rw [e] at k; exact k
    | some p =>
      obtain ⟨t, n⟩ := p
      rw [e] at k
      obtain ⟨hnh, ap, k⟩ := k
      obtain ⟨a0, hw, al⟩ := thg_some e
      obtain ⟨n0, n6⟩ := W.hd hw
      have lw := W.good.len
      have ls : (seg ws a n).length = n.toNat := seg_len a0 n0 al
      intro q r zs H1 s1 hr0 hq hr1 hR
      have W1 := W.same s1
      have hrc : r ≠ c := fun z => by rw [z, W.mem.2] at hr0; cases hr0
      refine ⟨_, rfl, _, rfl, _, rfl, q, _, 0, .int t, rfl, rfl, SqT.of hq, rfl, _, rfl, q, _, 1, .ref r, rfl, rfl, SqT.of hq, rfl, m, c, dx, xs, ws, r, zs, seg ws a n, b, t, rfl, W1, hr1, hR, by rw [hR.1, ls]; omega, hnh, hrc, log7 (by omega) (by omega), ?_⟩
      have eq : (50 ≤ b + ((seg ws a n).length : Int)) ↔ (50 ≤ b + n) := by rw [ls]; omega
      by_cases g : b < 0 ∨ 50 ≤ b + n
      · rw [if_pos g] at k
        rw [if_pos (g.imp id eq.mpr)]
        exact fun H' s2 => k H' (s1.trans s2)
      · rw [if_neg g] at k
        rw [if_neg (fun z => g (z.imp id eq.mp))]
        intro xs2 H2 W2 b2
        have hq2 : H2 q = some (.tup [.int t, .ref r]) := b2 _ _ (ne_of hq W1.mem.2 (by intro z; cases z)) hq
        have hr2 : H2 r = some (.lst zs) := b2 _ _ hrc hr1
        refine ⟨_, rfl, m, dx, _, rfl, W2.mem.1, rfl, _, rfl, _, rfl, _, rfl, q, _, 1, .ref r, rfl, rfl, SqT.of hq2, rfl, r, zs, rfl, .inl (SqL.of hr2), by show 3 ≤ sizeLine; decide, fun pt hpt => ?_⟩
        have s3 : Same H2 (upd H2 pt (.tup [.str "moved", .int b, .int zs.length])) := Same.upd hpt
        have W3 := W2.same s3
        refine ⟨m, c, dx, xs2, .ref pt, a, rfl, W3.mem, ha, ?_⟩
        rw [if_pos ⟨a0, by rw [W3.len]; omega⟩]
        have hh : WV (upd H2 pt (.tup [.str "moved", .int b, .int zs.length])) (.ref pt) (.mv b (seg ws a n).length) := ⟨pt, rfl, by rw [upd_same, hR.1]; rfl⟩
        have W4 := W3.put (i := a.toNat) hh (mvd_good W.good hnh (by omega) (by omega) (by omega) a0 (by omega))
        exact k _ _ W4 (((But.of s1).trans b2).trans ((But.of s3).trans But.set))
end
end K34
end
section
set_option Elab.async false
set_option linter.all false
set_option maxRecDepth 100000
set_option maxHeartbeats 4000000
set_option exponentiation.threshold 4000
namespace K34
open PySem L2 LX
section
variable {P : Program} {w : World} {K : PySem.W.Frag} {mg : Str → Option Value} {base : Heap} {CH d0 fXI : Addr} {CM fMI fSz fAt fPut fCp fLk : Addr}
/-- _law_resolved -/
def spLRes : Sp := fun vs H Q _ => ∃ l ys ws, ∃ a : Int, vs = [.ref l, .int a] ∧ ML H l ys ws ∧ (if 0 ≤ a ∧ a < 50 then ∀ z, Res ws a z → Q (.int z) H else Q .non H)
theorem scLRes : FnScope ["model", "a"] ["model", "a"] (defScope sLRes) := ⟨rfl, rfl, rfl, by decide +kernel, rfl, by decide +kernel, by decide +kernel⟩
def WLRes (H0 : Hp) (l : Addr) (ys : List V) (ws : List Wc) (rk : Nat → Nat) (a0 : Int) (n : Nat) (σ : St) (Hx : Hp) : Prop := Hx = H0 ∧ ∃ (a : Int) (v : V) (wd : Wc), 0 ≤ a ∧ a < 50 ∧ ys[a.toNat]? = some v ∧ ws[a.toNat]? = some wd ∧ n = rk a.toNat ∧ (∀ z, Res ws a z → Res ws a0 z) ∧ σ = [some (.ref l), some (.int a)]
theorem ok_lres {f : Addr} {fd : FuncData} (F : Fun K "_law_resolved" "_law_resolved" sLRes f fd) (T : Txt K mg CH d0 fXI) : FnOk P w K mg base (CXE P w) 1 f fd ["model", "a"] spLRes := by
  refine F.okE scLRes (fun vs H Q E h => ?_) (fun cdv A outer s H vs Q E hr h => ?_)
  · obtain ⟨l, ys, ws, a, rfl, _⟩ := h
    rfl
  · obtain ⟨l, ys, ws, a, rfl, L, k⟩ := h
    refine ⟨_, PSs.nox (pss_cons (ps_while PassesOwn.never (PW.pt (pw_and (pt_cmpR op_le pe_int (pv 1) (nomark _)) (pw_and (pt_cmpR op_lt (pv 1) (pe_callB call_len_seq rfl T.z_len PyProof.Rows.Boot.«len» (pa_cons (pv 0) pa_nil)) (nomark _)) (pw_and (pt_cmpR op_notN (pe_ix ix_list (pv 0) (pv 1) (fun _ _ => rfl)) pe_non (nomark _)) (pw_and1 (pt_cmpR op_eq (pe_ix ix_tup (pe_ix ix_list (pv 0) (pv 1) (fun _ _ => rfl)) pe_int (fun _ _ => rfl)) pe_str (nomark _)))))))
          (pss_one (ps_set (i := 1) scLRes.nd rfl (Or.inl rfl) (pe_ix ix_tup (pe_ix ix_list (pv 0) (pv 1) (fun _ _ => rfl)) pe_int (fun _ _ => rfl)))))
        (pss_cons (ps_if (PW.pt (pw_or (pt_cmpR op_lt (pv 1) pe_int (nomark _)) (pw_or1 (pt_cmpR op_ge (pv 1) (pe_callB call_len_seq rfl T.z_len PyProof.Rows.Boot.«len» (pa_cons (pv 0) pa_nil)) (nomark _))))) (pss_one (ps_ret pe_non)) pss_nil)
        (pss_one (ps_ret (pv 1))))), ?_⟩
    have ly := L.len
    by_cases g : 0 ≤ a ∧ a < 50
    · rw [if_pos g] at k
      obtain ⟨rk, hr'⟩ := L.good.rk
      obtain ⟨v, wd, hv, hw, _⟩ := L.get g.1 g.2
      refine ⟨WLRes H l ys ws rk a, ⟨_, rfl, a, v, wd, g.1, g.2, hv, hw, rfl, fun z h => h, rfl⟩, ?_⟩
      rintro n σ Hx ⟨rfl, a1, v1, w1, g0, g1, hv1, hw1, rfl, hres, rfl⟩
      have wv := L.rel.2 _ _ _ hv1 hw1
      have t1 : decide ((0 : Int) ≤ a1) = true := decide_eq_true g0
      have t2 : decide (a1 < (ys.length : Int)) = true := decide_eq_true (by rw [ly]; exact g1)
      have f1 : decide (a1 < (0 : Int)) = false := decide_eq_false (by omega)
      have f2 : decide ((ys.length : Int) ≤ a1) = false := decide_eq_false (by rw [ly]; omega)
      refine ⟨_, rfl, 0, a1, rfl, rfl, _, rfl, ?_⟩
      rw [t1]
      refine iteT ⟨_, rfl, _, rfl, l, ys, rfl, .inl (SqL.of L.at_), a1, _, rfl, rfl, _, rfl, ?_⟩
      rw [t2]
      have ende : (∀ b n, w1 ≠ .mv b n) → Q (.int a1) Hx := fun hn => k _ (hres _ (.stop g0 hw1 hn))
      have aft : (∀ b n, w1 ≠ .mv b n) → tIfS (tOr (tTest (tOp (rI0 fun i j => V.bl (decide (i < j))) (tVar 1) (tC (.int 0)))) (tTest (tOp (rI0 fun i j => V.bl (decide (j ≤ i))) (tVar 1) (fun σ H Q => tCons (tVar 0) tNil σ H fun xs H' => ∃ p zs, xs = [V.ref p] ∧ (SqL K H' p zs ∨ SqT K H' p zs) ∧ Q (.int zs.length) H')))) (tRet (tC .non)) (fun D σ H => D.nx σ H) { nx := fun σ H' => tRet (tVar 1) { nx := fun _ H' => Q .non H', rt := Q } σ H', rt := Q } [some (.ref l), some (.int a1)] Hx := fun hn => by
        refine ⟨_, rfl, a1, 0, rfl, rfl, _, rfl, ?_⟩
        rw [f1]
        refine iteF ⟨_, rfl, _, rfl, l, ys, rfl, .inl (SqL.of L.at_), a1, _, rfl, rfl, _, rfl, ?_⟩
        rw [f2]
        exact iteF ⟨_, rfl, ende hn⟩
      refine iteT ⟨_, rfl, _, rfl, l, ys, a1, v1, rfl, rfl, SqL.of L.at_, at_int g0 hv1, rfl, _, rfl, ?_⟩
      cases w1 with
      | no =>
        obtain rfl : v1 = .non := wv
        exact ite2 (fun h => by simp at h) (fun _ => iteF (aft (fun _ _ e => by cases e)))
      | num n =>
        obtain ⟨p, rfl, hp⟩ := wv
        exact ite2 (fun _ => ⟨_, rfl, _, rfl, l, ys, a1, _, rfl, rfl, SqL.of L.at_, at_int g0 hv1, p, _, 0, _, rfl, rfl, SqT.of hp, rfl, rfl, _, rfl, ite2 (fun h => absurd h (Bool.eq_false_iff.mp (by kernel_rfl))) (fun _ => aft (fun _ _ e => by cases e))⟩) (fun h => absurd (by simp) h)
      | ad n =>
        obtain ⟨p, rfl, hp⟩ := wv
        exact ite2 (fun _ => ⟨_, rfl, _, rfl, l, ys, a1, _, rfl, rfl, SqL.of L.at_, at_int g0 hv1, p, _, 0, _, rfl, rfl, SqT.of hp, rfl, rfl, _, rfl, ite2 (fun h => absurd h (Bool.eq_false_iff.mp (by kernel_rfl))) (fun _ => aft (fun _ _ e => by cases e))⟩) (fun h => absurd (by simp) h)
      | hd t n =>
        obtain ⟨p, rfl, hp⟩ := wv
        exact ite2 (fun _ => ⟨_, rfl, _, rfl, l, ys, a1, _, rfl, rfl, SqL.of L.at_, at_int g0 hv1, p, _, 0, _, rfl, rfl, SqT.of hp, rfl, rfl, _, rfl, ite2 (fun h => absurd h (Bool.eq_false_iff.mp (by kernel_rfl))) (fun _ => aft (fun _ _ e => by cases e))⟩) (fun h => absurd (by simp) h)
      | mv b n =>
        obtain ⟨p, rfl, hp⟩ := wv
        obtain ⟨b0, b1, _, _⟩ := L.good.mv _ (List.mem_of_getElem? hw1) b n rfl
        obtain ⟨v2, w2, hv2, hw2, _⟩ := L.get b0 b1
        refine ite2 (fun _ => ⟨_, rfl, _, rfl, l, ys, a1, _, rfl, rfl, SqL.of L.at_, at_int g0 hv1, p, _, 0, _, rfl, rfl, SqT.of hp, rfl, rfl, _, rfl, ite2 (fun _ => ⟨fun σ' H' => ∃ m', m' < rk a1.toNat ∧ WLRes Hx l ys ws rk a m' σ' H', fun _ _ h => h, ?_⟩) (fun h => absurd (by kernel_rfl) h)⟩) (fun h => absurd (by simp) h)
        exact ⟨_, rfl, _, rfl, l, ys, a1, _, rfl, rfl, SqL.of L.at_, at_int g0 hv1, p, _, 1, .int b, rfl, rfl, SqT.of hp, rfl, rk b.toNat, hr' _ _ _ hw1, rfl, b, v2, w2, b0, b1, hv2, hw2, rfl, fun z h => hres z (.step g0 hw1 h), rfl⟩
    · rw [if_neg g] at k
      refine ⟨fun n σ Hx => Hx = H ∧ σ = [some (.ref l), some (.int a)], ⟨0, rfl, rfl⟩, ?_⟩
      rintro n σ Hx ⟨rfl, rfl⟩
      by_cases h0 : 0 ≤ a
      · have f2 : decide (a < (ys.length : Int)) = false := decide_eq_false (by rw [ly]; omega)
        refine ⟨_, rfl, 0, a, rfl, rfl, _, rfl, ite2 (fun _ => ⟨_, rfl, _, rfl, l, ys, rfl, .inl (SqL.of L.at_), a, _, rfl, rfl, _, rfl, ?_⟩) (fun h => absurd (decide_eq_true h0) h)⟩
        rw [f2]
        refine iteF (iteF ⟨_, rfl, a, 0, rfl, rfl, _, rfl, ite2 (fun h => absurd (of_decide_eq_true h) (by omega)) (fun _ => ⟨_, rfl, _, rfl, l, ys, rfl, .inl (SqL.of L.at_), a, _, rfl, rfl, _, rfl, ite2 (fun _ => k) (fun h => absurd (decide_eq_true (by rw [ly]; omega)) h)⟩)⟩)
      · refine ⟨_, rfl, 0, a, rfl, rfl, _, rfl, ite2 (fun h => absurd (of_decide_eq_true h) h0) (fun _ => iteF ⟨_, rfl, a, 0, rfl, rfl, _, rfl, ite2 (fun _ => iteT k) (fun h => absurd (decide_eq_true (by omega)) h)⟩)⟩
def spApart : Sp := fun vs H Q _ => ∃ l ys ws, ∃ a b : Int, vs = [.ref l, .int a, .int b] ∧ ML H l ys ws ∧ ∀ H', Same H H' → ∀ r : Bool, (r = true → ∀ p, thg ws a = some p → (∀ x ∈ seg ws a p.2, NotHd x) ∧ (a + p.2 < b ∨ b + p.2 < a)) → Q (.bl r) H'
theorem scAp : FnScope ["model", "a", "b", "thing", "word"] ["model", "a", "b"] (defScope sApart) := ⟨rfl, rfl, rfl, by decide +kernel, rfl, by decide +kernel, by decide +kernel⟩
theorem ok_apart {f fT : Addr} {fd fdT : FuncData} (F : Fun K "_law_apart" "_law_apart" sApart f fd) (T : Txt K mg CH d0 fXI)
    (GT : FnOk P w K mg base (CXE P w) 1 fT fdT ["model", "a"] spLT) (mT : mg "_law_thing" = some (.ref fT)) (kT : PySem.W.keepIn K (.ref fT) = true) (bT : Binds K fdT ["model", "a"] []) : FnOk P w K mg base (CXE P w) 2 f fd ["model", "a", "b"] spApart := by
  refine F.okE scAp (fun vs H Q E h => ?_) (fun cdv A outer s H vs Q E hr h => ?_)
  · obtain ⟨l, ys, ws, a, b, rfl, _⟩ := h
    rfl
  · obtain ⟨l, ys, ws, a, b, rfl, L, k⟩ := h
    refine ⟨_, PSs.nox (pss_cons (ps_set (i := 3) scAp.nd rfl (Or.inl rfl) (xe_call GT hr rfl mT kT bT .nil passN (pa_cons (pv 0) (pa_cons (pv 1) pa_nil))))
      (pss_cons (ps_if (pt_cmpR op_isN (pv 3) pe_non (nomark _)) (pss_one (ps_ret pe_bl)) pss_nil)
      (pss_cons (ps_for PassesOwn.never rfl (pi_list (pe_ix ix_tup (pv 3) pe_int (fun _ _ => rfl))) (pg_name (i := 4) scAp.nd rfl (Or.inl rfl))
        (pss_one (ps_if (PW.pt (pw_and (pt_cmpR op_notN (pv 4) pe_non (nomark _)) (pw_and1 (pt_cmpR op_in_seq (pe_ix ix_tup (pv 4) pe_int (fun _ _ => rfl)) (pe_tup (pa_cons pe_str (pa_cons pe_str pa_nil))) (by with_unfolding_all rfl))))) (pss_one (ps_ret pe_bl)) pss_nil)))
      (pss_one (ps_ret (pe_or (pe_cmpR op_gt (pv 2) (pe_op op_add (pv 1) (pe_callB call_len_seq rfl T.z_len PyProof.Rows.Boot.«len» (pa_cons (pe_ix ix_tup (pv 3) pe_int (fun _ _ => rfl)) pa_nil))) (nomark _)) (pe_one (pe_cmpR op_lt (pe_op op_add (pv 2) (pe_callB call_len_seq rfl T.z_len PyProof.Rows.Boot.«len» (pa_cons (pe_ix ix_tup (pv 3) pe_int (fun _ _ => rfl)) pa_nil))) (pv 1) (nomark _))))))))), ?_⟩
    refine ⟨_, rfl, _, rfl, l, ys, ws, a, rfl, L, ?_⟩
    cases e : thg ws a with
    | none => exact ⟨_, rfl, rfl, _, rfl, ite2 (fun _ => k H (Same.refl _) true (fun _ p h => by rw [e] at h; cases h)) (fun h => by simp at h)⟩
    | some p =>
      obtain ⟨t, n⟩ := p
      obtain ⟨a0, hw, al⟩ := thg_some e
      obtain ⟨n0, n6⟩ := L.good.hd _ (List.mem_of_getElem? hw) t n rfl
      have ls : (seg ws a n).length = n.toNat := seg_len a0 n0 al
      intro q r zs H1 s1 hr0 hq hr1 hR
      refine ⟨_, rfl, rfl, _, rfl, ite2 (fun h => by simp at h) (fun _ => ⟨_, rfl, q, _, 1, .ref r, rfl, rfl, SqT.of hq, rfl, r, rfl, ⟨_, SqL.of hr1⟩, ?_⟩)⟩
      refine for_list (K := K) (a := r) (xs := zs) (fun i σ Hx => ∃ v4 : Option V, σ = [some (.ref l), some (.int a), some (.int b), some (.ref q), v4] ∧ Same H1 Hx ∧ ∀ j < i, ∀ x, (seg ws a n)[j]? = some x → NotHd x) ⟨none, rfl, Same.refl _, fun j hj => absurd hj (Nat.not_lt_zero _)⟩ (fun i σ Hx _ ⟨_, _, sx, _⟩ => SqL.of (sx _ _ hr1)) ?_ ?_
      · rintro i x σ Hx hx ⟨v4, rfl, sx, hn⟩
        have hi : i < zs.length := (List.getElem?_eq_some_iff.mp hx).1
        obtain ⟨wd, hwd⟩ : ∃ wd, (seg ws a n)[i]? = some wd := ⟨_, List.getElem?_eq_getElem (by rw [← hR.1]; exact hi)⟩
        have wv : WV Hx x wd := (hR.2 i x wd hx hwd).keep (Tups.of sx)
        have go : NotHd wd → ∀ {Hy : Hp}, Same Hx Hy → ∃ v4 : Option V, [some (V.ref l), some (.int a), some (.int b), some (.ref q), some x] = [some (.ref l), some (.int a), some (.int b), some (.ref q), v4] ∧ Same H1 Hy ∧ ∀ j < i + 1, ∀ x, (seg ws a n)[j]? = some x → NotHd x := fun nw {Hy} sy => ⟨_, rfl, sx.trans sy, fun j hj x hxj => by
          by_cases hji : j = i
          · subst hji; rw [hwd] at hxj; cases hxj; exact nw
          · exact hn j (by omega) x hxj⟩
        cases wd with
        | no =>
          obtain rfl : x = .non := wv
          exact ⟨_, rfl, rfl, _, rfl, ite2 (fun h => by simp at h) (fun _ => iteF (go ⟨(fun _ _ z => nomatch z), (fun _ _ z => nomatch z)⟩ (Same.refl _)))⟩
        | num m =>
          obtain ⟨p, rfl, hp⟩ := wv
          exact ⟨_, rfl, rfl, _, rfl, ite2 (fun _ => ⟨_, rfl, p, _, 0, _, rfl, rfl, SqT.of hp, rfl, by show 2 ≤ sizeLine; decide, fun tp htp => ⟨tp, _, rfl, .inr (SqT.of upd_same), rfl, rfl, _, rfl, ite2 (fun h => absurd h (Bool.eq_false_iff.mp (by kernel_rfl))) (fun _ => go ⟨(fun _ _ z => nomatch z), (fun _ _ z => nomatch z)⟩ (Same.upd htp))⟩⟩) (fun h => absurd (by simp) h)⟩
        | ad m =>
          obtain ⟨p, rfl, hp⟩ := wv
          exact ⟨_, rfl, rfl, _, rfl, ite2 (fun _ => ⟨_, rfl, p, _, 0, _, rfl, rfl, SqT.of hp, rfl, by show 2 ≤ sizeLine; decide, fun tp htp => ⟨tp, _, rfl, .inr (SqT.of upd_same), rfl, rfl, _, rfl, ite2 (fun h => absurd h (Bool.eq_false_iff.mp (by kernel_rfl))) (fun _ => go ⟨(fun _ _ z => nomatch z), (fun _ _ z => nomatch z)⟩ (Same.upd htp))⟩⟩) (fun h => absurd (by simp) h)⟩
        | hd t' m =>
          obtain ⟨p, rfl, hp⟩ := wv
          exact ⟨_, rfl, rfl, _, rfl, ite2 (fun _ => ⟨_, rfl, p, _, 0, _, rfl, rfl, SqT.of hp, rfl, by show 2 ≤ sizeLine; decide, fun tp htp => ⟨tp, _, rfl, .inr (SqT.of upd_same), rfl, rfl, _, rfl, ite2 (fun _ => k _ ((s1.trans sx).trans (Same.upd htp)) false (fun h => by cases h)) (fun h => absurd (by kernel_rfl) h)⟩⟩) (fun h => absurd (by simp) h)⟩
        | mv b' m =>
          obtain ⟨p, rfl, hp⟩ := wv
          exact ⟨_, rfl, rfl, _, rfl, ite2 (fun _ => ⟨_, rfl, p, _, 0, _, rfl, rfl, SqT.of hp, rfl, by show 2 ≤ sizeLine; decide, fun tp htp => ⟨tp, _, rfl, .inr (SqT.of upd_same), rfl, rfl, _, rfl, ite2 (fun _ => k _ ((s1.trans sx).trans (Same.upd htp)) false (fun h => by cases h)) (fun h => absurd (by kernel_rfl) h)⟩⟩) (fun h => absurd (by simp) h)⟩
      · rintro σ Hx ⟨v4, rfl, sx, hn⟩
        have all : ∀ x ∈ seg ws a n, NotHd x := fun x hx => by
          obtain ⟨i, hi, e⟩ := List.getElem_of_mem hx
          exact hn i (by rw [hR.1]; exact hi) x (by rw [List.getElem?_eq_getElem hi, e])
        have lz : (zs.length : Int) = n := by rw [hR.1, ls]; omega
        have hqx := sx _ _ hq
        have hrx := sx _ _ hr1
        have fin : ∀ r : Bool, (r = true → (a + n < b ∨ b + n < a)) → Q (.bl r) Hx := fun r hr => k Hx (s1.trans sx) r (fun h p hp => by rw [e] at hp; cases hp; exact ⟨all, hr h⟩)
        refine ⟨_, rfl, _, rfl, _, rfl, q, _, 1, .ref r, rfl, rfl, SqT.of hqx, rfl, r, zs, rfl, .inl (SqL.of hrx), a, _, rfl, rfl, b, _, rfl, rfl, _, rfl, ite2 (fun h => ?_) (fun _ => ?_)⟩
        · exact fin true (fun _ => .inl (by have := of_decide_eq_true h; omega))
        · refine ⟨_, rfl, _, rfl, q, _, 1, .ref r, rfl, rfl, SqT.of hqx, rfl, r, zs, rfl, .inl (SqL.of hrx), b, _, rfl, rfl, _, rfl, _, a, rfl, rfl, ?_⟩
          exact fin _ (fun h => .inr (by have := of_decide_eq_true h; omega))
end
end K34
end
section
set_option Elab.async false
set_option linter.all false
set_option maxRecDepth 100000
set_option maxHeartbeats 4000000
set_option exponentiation.threshold 4000
namespace K34
open PySem L2 LX
/-- a deed -/
inductive Dd where
  | lay (a t : Int) (vl : Addr) (wv : List Wc)
  | thing (a : Int)
  | put (a k : Int) (v : V) (wd : Wc)
  | field (a k : Int)
  | move (a b : Int)
  | wh (a : Int)
  | walk (a b : Int)
def Few (n : Int) : Prop := -100 ≤ n ∧ n ≤ 100
theorem Few.log {n : Int} (h : Few n) : n.natAbs.log2 < 1920 := log7 (by have := h.1; omega) (by have := h.2; omega)
def DV (H : Hp) (q : Addr) : Dd → Prop
  | .lay a t vl wv => H q = some (.tup [.str "lay", .int a, .int t, .ref vl]) ∧ (∃ us, H vl = some (.lst us) ∧ Rel H us wv ∧ us.length ≤ 6) ∧ (∀ x ∈ wv, NotHd x) ∧ Few a
  | .thing a => H q = some (.tup [.str "thing", .int a]) ∧ Few a
  | .put a k v wd => H q = some (.tup [.str "put", .int a, .int k, v]) ∧ WV H v wd ∧ NotHd wd ∧ Few a ∧ Few k
  | .field a k => H q = some (.tup [.str "field", .int a, .int k]) ∧ Few a ∧ Few k
  | .move a b => H q = some (.tup [.str "move", .int a, .int b]) ∧ Few a ∧ Few b
  | .wh a => H q = some (.tup [.str "where", .int a]) ∧ Few a
  | .walk a b => H q = some (.tup [.str "walk", .int a, .int b]) ∧ Few a ∧ Few b
def Free (c : Addr) : Dd → Prop
  | .lay _ _ vl _ => vl ≠ c
  | _ => True
def Fresh (H : Hp) : Dd → Prop
  | .lay _ _ vl _ => H vl = none
  | _ => True
theorem Fresh.free {H : Hp} {c : Addr} {u : HO} {dd : Dd} (h : Fresh H dd) (hc : H c = some u) : Free c dd := by
  cases dd with
  | lay a t vl wv => exact Ne.symm (ne_of_none hc h)
  | _ => exact True.intro
theorem DV.but {c : Addr} {H H' : Hp} {zs : List V} {q : Addr} {dd : Dd} (h : DV H q dd) (b : But c H H') (hc : H c = some (.lst zs)) (f : Free c dd) : DV H' q dd := by
  have t := b.tups hc
  cases dd with
  | lay a t' vl wv =>
    obtain ⟨h1, ⟨us, h2, h3, h4⟩, h5, h6⟩ := h
    exact ⟨t _ _ h1, ⟨us, b _ _ f h2, h3.keep t, h4⟩, h5, h6⟩
  | thing a => exact ⟨t _ _ h.1, h.2⟩
  | put a k v wd => exact ⟨t _ _ h.1, h.2.1.keep t, h.2.2⟩
  | field a k => exact ⟨t _ _ h.1, h.2⟩
  | move a b => exact ⟨t _ _ h.1, h.2⟩
  | wh a => exact ⟨t _ _ h.1, h.2⟩
  | walk a b => exact ⟨t _ _ h.1, h.2⟩
theorem DV.same {H H' : Hp} {q : Addr} {dd : Dd} (h : DV H q dd) (s : Same H H') : DV H' q dd := by
  cases dd with
  | lay a t vl wv =>
    obtain ⟨h1, ⟨us, h2, h3, h4⟩, h5, h6⟩ := h
    exact ⟨s _ _ h1, ⟨us, s _ _ h2, h3.keep (Tups.of s), h4⟩, h5, h6⟩
  | thing a => exact ⟨s _ _ h.1, h.2⟩
  | put a k v wd => exact ⟨s _ _ h.1, h.2.1.keep (Tups.of s), h.2.2⟩
  | field a k => exact ⟨s _ _ h.1, h.2⟩
  | move a b => exact ⟨s _ _ h.1, h.2⟩
  | wh a => exact ⟨s _ _ h.1, h.2⟩
  | walk a b => exact ⟨s _ _ h.1, h.2⟩
/-- what a deed brings -/
inductive Rs where
  | ref
  | non
  | thing (t : Int) (wz : List Wc)
  | word (wd : Wc)
  | int (z : Int)
  | adrs (fs : List Int)
def AV (H0 H : Hp) (v : V) : Rs → Prop
  | .ref => False
  | .non => v = .non
  | .thing t wz => ∃ q r zs, v = .ref q ∧ H q = some (.tup [.int t, .ref r]) ∧ H r = some (.lst zs) ∧ Rel H zs wz ∧ H0 r = none ∧ wz.length ≤ 50
  | .word wd => WV H v wd
  | .int z => v = .int z
  | .adrs fs => ∃ r, v = .ref r ∧ H r = some (.lst (fs.map V.int)) ∧ H0 r = none
def RV (H0 H : Hp) (v : V) (rs : Rs) : Prop := match rs with
  | .ref => ∃ p, v = .ref p ∧ H p = some (.tup [.str "refused"])
  | _ => ∃ p u, v = .ref p ∧ H p = some (.tup [.str "told", u]) ∧ AV H0 H u rs
theorem AV.same {H0 H H' : Hp} {v : V} {rs : Rs} (h : AV H0 H v rs) (s : Same H H') : AV H0 H' v rs := by
  cases rs with
  | ref => exact h
  | non => exact h
  | thing t wz =>
    obtain ⟨q, r, zs, e1, e2, e3, e4, e5, e6⟩ := h
    exact ⟨q, r, zs, e1, s _ _ e2, s _ _ e3, e4.keep (Tups.of s), e5, e6⟩
  | word wd => exact WV.keep h (Tups.of s)
  | int z => exact h
  | adrs fs =>
    obtain ⟨r, e1, e2, e3⟩ := h
    exact ⟨r, e1, s _ _ e2, e3⟩
theorem RV.of {H0 H : Hp} {u : V} {p : Addr} {rs : Rs} (h : AV H0 H u rs) (hp : H p = some (.tup [.str "told", u])) : RV H0 H (.ref p) rs := by
  cases rs with
  | ref => exact h.elim
  | _ => exact ⟨p, u, rfl, hp, h⟩
theorem RV.same {H0 H H' : Hp} {v : V} {rs : Rs} (h : RV H0 H v rs) (s : Same H H') : RV H0 H' v rs := by
  cases rs with
  | ref =>
    obtain ⟨p, e1, e2⟩ := h
    exact ⟨p, e1, s _ _ e2⟩
  | _ =>
    obtain ⟨p, u, e1, e2, e3⟩ := h
    exact ⟨p, u, e1, s _ _ e2, e3.same s⟩
/-- where the forwards lead; what a walk tells -/
noncomputable def resZ (ws : List Wc) (a : Int) : Int := Classical.epsilon (fun z => Res ws a z)
theorem resZ_eq {ws : List Wc} {a z : Int} (h : Res ws a z) : resZ ws a = z := h.one (Classical.epsilon_spec (p := fun z => Res ws a z) ⟨z, h⟩)
noncomputable def wkR (ws : List Wc) (b a : Int) : Option (List Int) := Classical.epsilon (fun r => Wk ws b a r)
theorem wkR_eq {ws : List Wc} {b a : Int} {r : Option (List Int)} (h : Wk ws b a r) : wkR ws b a = r := h.one (Classical.epsilon_spec (p := fun r => Wk ws b a r) ⟨r, h⟩)
/-- the words behind it -/
noncomputable def stp (ws : List Wc) : Dd → Rs × List Wc
  | .lay a t _ wv => if a < 0 ∨ 50 ≤ a + wv.length then (.ref, ws) else (.non, laidN ws a t wv wv.length)
  | .thing a => match thg ws a with
    | some p => (.thing p.1 (seg ws a p.2), ws)
    | none => (.ref, ws)
  | .put a k _ wd => match thg ws a with
    | some p => if 0 ≤ k ∧ k < p.2 then (.non, ws.set (a + 1 + k).toNat wd) else (.ref, ws)
    | none => (.ref, ws)
  | .field a k => match thg ws a with
    | some p => if 0 ≤ k ∧ k < p.2 then (match ws[(a + 1 + k).toNat]? with | some wd => (.word wd, ws) | none => (.ref, ws)) else (.ref, ws)
    | none => (.ref, ws)
  | .move a b => match thg ws a with
    | some p => if b < 0 ∨ 50 ≤ b + p.2 then (.ref, ws) else (.non, mvd ws a b p.1 (seg ws a p.2))
    | none => (.ref, ws)
  | .wh a => if 0 ≤ a ∧ a < 50 then (.int (resZ ws a), ws) else (.ref, ws)
  | .walk a b => match wkR ws b a with
    | some fs => (.adrs fs, ws)
    | none => (.ref, ws)
/-- a thing moves only onto other words, and holds no beginnings -/
def Okd (ws : List Wc) : Dd → Prop
  | .move a b => ∀ p, thg ws a = some p → (∀ x ∈ seg ws a p.2, NotHd x) ∧ (a + p.2 < b ∨ b + p.2 < a)
  | _ => True
theorem put_good {ws : List Wc} {i : Nat} {wd : Wc} (g : Good ws) (h : NotHd wd) : Good (ws.set i wd) := g.set (fun t n e => absurd e (h.1 t n)) h.2
theorem seg_le {ws : List Wc} {a n : Int} (g : Good ws) : (seg ws a n).length ≤ 50 := by
  unfold seg
  rw [List.length_take, List.length_drop, g.1]
  omega
def OutA (rs : Rs) (A B : Prop) : Prop := match rs with
  | .ref => A
  | _ => B
section
variable {P : Program} {w : World} {K : PySem.W.Frag} {mg : Str → Option Value} {base : Heap} {CH d0 fXI : Addr} {CM fMI fSz fAt fPut fCp fLk : Addr}

/-- _law_asked -/
def spAsked (CM BA : Addr) : Sp := fun vs H Q E => ∃ m c dx xs ws q dd, vs = [.ref m, .ref q] ∧ MW CM H m c dx xs ws ∧ DV H q dd ∧ Free c dd ∧ Okd ws dd ∧
  OutA (stp ws dd).1 (∀ H', Same H H' → E (.ref BA) none H') (∀ v xs' H', MW CM H' m c dx xs' (stp ws dd).2 → But c H H' → AV H H' v (stp ws dd).1 → Q v H')
theorem scAs : FnScope ["memory", "deed"] ["memory", "deed"] (defScope sAsked) := ⟨rfl, rfl, rfl, by decide +kernel, rfl, by decide +kernel, by decide +kernel⟩
theorem ok_asked {f fLy fPf fMo fTh fWk fFi fRe : Addr} {fd fdLy fdPf fdMo fdTh fdWk fdFi fdRe : FuncData} (F : Fun K "_law_asked" "_law_asked" sAsked f fd)
    (GLy : FnOk P w K mg base (CXE P w) 7 fLy fdLy ["memory", "a", "t", "values"] (spLay CM d0)) (mLy : mg "lay" = some (.ref fLy)) (kLy : PySem.W.keepIn K (.ref fLy) = true) (bLy : Binds K fdLy ["memory", "a", "t", "values"] [])
    (GPf : FnOk P w K mg base (CXE P w) 8 fPf fdPf ["memory", "a", "k", "word"] (spPutF CM d0)) (mPf : mg "put_field" = some (.ref fPf)) (kPf : PySem.W.keepIn K (.ref fPf) = true) (bPf : Binds K fdPf ["memory", "a", "k", "word"] [])
    (GMo : FnOk P w K mg base (CXE P w) 8 fMo fdMo ["memory", "a", "b"] (spMove CM d0)) (mMo : mg "move" = some (.ref fMo)) (kMo : PySem.W.keepIn K (.ref fMo) = true) (bMo : Binds K fdMo ["memory", "a", "b"] [])
    (GTh : FnOk P w K mg base (CXE P w) 7 fTh fdTh ["memory", "a"] (spThing CM d0)) (mTh : mg "thing_at" = some (.ref fTh)) (kTh : PySem.W.keepIn K (.ref fTh) = true) (bTh : Binds K fdTh ["memory", "a"] [])
    (GWk : FnOk P w K mg base (CXE P w) 6 fWk fdWk ["memory", "first", "behind"] (spWalk CM d0)) (mWk : mg "walked" = some (.ref fWk)) (kWk : PySem.W.keepIn K (.ref fWk) = true) (bWk : Binds K fdWk ["memory", "first", "behind"] [])
    (GFi : FnOk P w K mg base (CXE P w) 8 fFi fdFi ["memory", "a", "k"] (spField CM d0)) (mFi : mg "field_at" = some (.ref fFi)) (kFi : PySem.W.keepIn K (.ref fFi) = true) (bFi : Binds K fdFi ["memory", "a", "k"] [])
    (GRe : FnOk P w K mg base (CXE P w) 5 fRe fdRe ["memory", "a"] (spRes CM d0)) (mRe : mg "resolved" = some (.ref fRe)) (kRe : PySem.W.keepIn K (.ref fRe) = true) (bRe : Binds K fdRe ["memory", "a"] []) : FnOk P w K mg base (CXE P w) 9 f fd ["memory", "deed"] (spAsked CM d0) := by
  refine F.okE scAs (fun vs H Q E h => ?_) (fun cdv A outer s H vs Q E hr h => ?_)
  · obtain ⟨m, c, dx, xs, ws, q, dd, rfl, _⟩ := h
    rfl
  · obtain ⟨m, c, dx, xs, ws, q, dd, rfl, W, hd, hf, hok, k⟩ := h
    have hp : PassesX (CXE P w) (cxE P w K mg base ["memory", "deed"] "_law_asked" (defScope sAsked) f cdv A outer s H E) (fun _ => E) := Passes.x (passE fun _ _ _ q => q)
    refine ⟨_, pss_cons (ps_if (pt_cmpR op_eq (pe_ix ix_tup (pv 1) pe_int (fun _ _ => rfl)) pe_str (nomark _)) (pss_one (ps_ret (xe_call GLy (hr.mono (by decide)) rfl mLy kLy bLy .nil hp (pa_cons (pv 0) (pa_cons (pe_ix ix_tup (pv 1) pe_int (fun _ _ => rfl)) (pa_cons (pe_ix ix_tup (pv 1) pe_int (fun _ _ => rfl)) (pa_cons (pe_ix ix_tup (pv 1) pe_int (fun _ _ => rfl)) pa_nil))))))) pss_nil)
      (pss_cons (ps_if (pt_cmpR op_eq (pe_ix ix_tup (pv 1) pe_int (fun _ _ => rfl)) pe_str (nomark _)) (pss_one (ps_ret (xe_call GPf (hr.mono (by decide)) rfl mPf kPf bPf .nil hp (pa_cons (pv 0) (pa_cons (pe_ix ix_tup (pv 1) pe_int (fun _ _ => rfl)) (pa_cons (pe_ix ix_tup (pv 1) pe_int (fun _ _ => rfl)) (pa_cons (pe_ix ix_tup (pv 1) pe_int (fun _ _ => rfl)) pa_nil))))))) pss_nil)
      (pss_cons (ps_if (pt_cmpR op_eq (pe_ix ix_tup (pv 1) pe_int (fun _ _ => rfl)) pe_str (nomark _)) (pss_one (ps_ret (xe_call GMo (hr.mono (by decide)) rfl mMo kMo bMo .nil hp (pa_cons (pv 0) (pa_cons (pe_ix ix_tup (pv 1) pe_int (fun _ _ => rfl)) (pa_cons (pe_ix ix_tup (pv 1) pe_int (fun _ _ => rfl)) pa_nil)))))) pss_nil)
      (pss_cons (ps_if (pt_cmpR op_eq (pe_ix ix_tup (pv 1) pe_int (fun _ _ => rfl)) pe_str (nomark _)) (pss_one (ps_ret (xe_call GTh (hr.mono (by decide)) rfl mTh kTh bTh .nil hp (pa_cons (pv 0) (pa_cons (pe_ix ix_tup (pv 1) pe_int (fun _ _ => rfl)) pa_nil))))) pss_nil)
      (pss_cons (ps_if (pt_cmpR op_eq (pe_ix ix_tup (pv 1) pe_int (fun _ _ => rfl)) pe_str (nomark _)) (pss_one (ps_ret (xe_call GWk (hr.mono (by decide)) rfl mWk kWk bWk .nil hp (pa_cons (pv 0) (pa_cons (pe_ix ix_tup (pv 1) pe_int (fun _ _ => rfl)) (pa_cons (pe_ix ix_tup (pv 1) pe_int (fun _ _ => rfl)) pa_nil)))))) pss_nil)
      (pss_cons (ps_if (pt_cmpR op_eq (pe_ix ix_tup (pv 1) pe_int (fun _ _ => rfl)) pe_str (nomark _)) (pss_one (ps_ret (xe_call GFi (hr.mono (by decide)) rfl mFi kFi bFi .nil hp (pa_cons (pv 0) (pa_cons (pe_ix ix_tup (pv 1) pe_int (fun _ _ => rfl)) (pa_cons (pe_ix ix_tup (pv 1) pe_int (fun _ _ => rfl)) pa_nil)))))) pss_nil)
      (pss_one (ps_ret (xe_call GRe (hr.mono (by decide)) rfl mRe kRe bRe .nil hp (pa_cons (pv 0) (pa_cons (pe_ix ix_tup (pv 1) pe_int (fun _ _ => rfl)) pa_nil)))))))))), ?_⟩
    cases dd with
    | lay a t vl wv =>
      obtain ⟨hq, ⟨us, hu, hR, hlu⟩, hnh, fa⟩ := hd
      refine ⟨_, rfl, q, _, 0, .str "lay", rfl, rfl, SqT.of hq, rfl, rfl, _, rfl, ite2 (fun _ => ?_) (fun z => absurd (by decide +kernel) z)⟩
      refine ⟨_, rfl, _, rfl, q, _, 1, .int a, rfl, rfl, SqT.of hq, rfl, _, rfl, q, _, 2, .int t, rfl, rfl, SqT.of hq, rfl, _, rfl, q, _, 3, .ref vl, rfl, rfl, SqT.of hq, rfl, m, c, dx, xs, ws, vl, us, wv, a, t, rfl, W, hu, hR, hlu, hnh, hf, fa.log, ?_⟩
      by_cases g : a < 0 ∨ (50 : Int) ≤ a + wv.length
      · rw [if_pos g]
        rw [show stp ws (.lay a t vl wv) = (.ref, ws) from if_pos g] at k
        exact k
      · rw [if_neg g]
        rw [show stp ws (.lay a t vl wv) = (.non, laidN ws a t wv wv.length) from if_neg g] at k
        exact fun xs' H' W' b' => k _ xs' H' W' b' rfl
    | thing a =>
      obtain ⟨hq, fa⟩ := hd
      refine ⟨_, rfl, q, _, 0, .str "thing", rfl, rfl, SqT.of hq, rfl, rfl, _, rfl, ite2 (fun z => absurd z (by decide +kernel)) (fun _ => ?_)⟩
      refine ⟨_, rfl, q, _, 0, .str "thing", rfl, rfl, SqT.of hq, rfl, rfl, _, rfl, ite2 (fun z => absurd z (by decide +kernel)) (fun _ => ?_)⟩
      refine ⟨_, rfl, q, _, 0, .str "thing", rfl, rfl, SqT.of hq, rfl, rfl, _, rfl, ite2 (fun z => absurd z (by decide +kernel)) (fun _ => ?_)⟩
      refine ⟨_, rfl, q, _, 0, .str "thing", rfl, rfl, SqT.of hq, rfl, rfl, _, rfl, ite2 (fun _ => ?_) (fun z => absurd (by decide +kernel) z)⟩
      refine ⟨_, rfl, _, rfl, q, _, 1, .int a, rfl, rfl, SqT.of hq, rfl, m, c, dx, xs, ws, a, rfl, W, fa.log, ?_⟩
      cases e : thg ws a with
      | none =>
        rw [show stp ws (.thing a) = (.ref, ws) by simp only [stp, e]] at k
        exact k
      | some p =>
        rw [show stp ws (.thing a) = (.thing p.1 (seg ws a p.2), ws) by simp only [stp, e]] at k
        exact fun q' r zs H' s' hr0 h1 h2 h3 => k _ xs H' (W.same s') (But.of s') ⟨q', r, zs, rfl, h1, h2, h3, hr0, seg_le W.good⟩
    | put a kk v wd =>
      obtain ⟨hq, hv, hn, fa, fk⟩ := hd
      refine ⟨_, rfl, q, _, 0, .str "put", rfl, rfl, SqT.of hq, rfl, rfl, _, rfl, ite2 (fun z => absurd z (by decide +kernel)) (fun _ => ?_)⟩
      refine ⟨_, rfl, q, _, 0, .str "put", rfl, rfl, SqT.of hq, rfl, rfl, _, rfl, ite2 (fun _ => ?_) (fun z => absurd (by decide +kernel) z)⟩
      refine ⟨_, rfl, _, rfl, q, _, 1, .int a, rfl, rfl, SqT.of hq, rfl, _, rfl, q, _, 2, .int kk, rfl, rfl, SqT.of hq, rfl, _, rfl, q, _, 3, v, rfl, rfl, SqT.of hq, rfl, m, c, dx, xs, ws, v, a, kk, rfl, W, fa.log, fk.log, ?_⟩
      cases e : thg ws a with
      | none =>
        rw [show stp ws (.put a kk v wd) = (.ref, ws) by simp only [stp, e]] at k
        exact k
      | some p =>
        simp only
        by_cases g : 0 ≤ kk ∧ kk < p.2
        · rw [if_pos g]
          rw [show stp ws (.put a kk v wd) = (.non, ws.set (a + 1 + kk).toNat wd) by simp only [stp, e]; rw [if_pos g]] at k
          exact fun H' s' => k _ _ _ ((W.same s').put (hv.keep (Tups.of s')) (put_good W.good hn)) ((But.of s').trans But.set) rfl
        · rw [if_neg g]
          rw [show stp ws (.put a kk v wd) = (.ref, ws) by simp only [stp, e]; rw [if_neg g]] at k
          exact k
    | field a kk =>
      obtain ⟨hq, fa, fk⟩ := hd
      refine ⟨_, rfl, q, _, 0, .str "field", rfl, rfl, SqT.of hq, rfl, rfl, _, rfl, ite2 (fun z => absurd z (by decide +kernel)) (fun _ => ?_)⟩
      refine ⟨_, rfl, q, _, 0, .str "field", rfl, rfl, SqT.of hq, rfl, rfl, _, rfl, ite2 (fun z => absurd z (by decide +kernel)) (fun _ => ?_)⟩
      refine ⟨_, rfl, q, _, 0, .str "field", rfl, rfl, SqT.of hq, rfl, rfl, _, rfl, ite2 (fun z => absurd z (by decide +kernel)) (fun _ => ?_)⟩
      refine ⟨_, rfl, q, _, 0, .str "field", rfl, rfl, SqT.of hq, rfl, rfl, _, rfl, ite2 (fun z => absurd z (by decide +kernel)) (fun _ => ?_)⟩
      refine ⟨_, rfl, q, _, 0, .str "field", rfl, rfl, SqT.of hq, rfl, rfl, _, rfl, ite2 (fun z => absurd z (by decide +kernel)) (fun _ => ?_)⟩
      refine ⟨_, rfl, q, _, 0, .str "field", rfl, rfl, SqT.of hq, rfl, rfl, _, rfl, ite2 (fun _ => ?_) (fun z => absurd (by decide +kernel) z)⟩
      refine ⟨_, rfl, _, rfl, q, _, 1, .int a, rfl, rfl, SqT.of hq, rfl, _, rfl, q, _, 2, .int kk, rfl, rfl, SqT.of hq, rfl, m, c, dx, xs, ws, a, kk, rfl, W, fa.log, fk.log, ?_⟩
      cases e : thg ws a with
      | none =>
        rw [show stp ws (.field a kk) = (.ref, ws) by simp only [stp, e]] at k
        exact k
      | some p =>
        simp only
        by_cases g : 0 ≤ kk ∧ kk < p.2
        · rw [if_pos g]
          obtain ⟨h0, hw, hl⟩ := thg_some (show thg ws a = some (p.1, p.2) from e)
          obtain ⟨wd, hwd⟩ : ∃ wd, ws[(a + 1 + kk).toNat]? = some wd := ⟨_, List.getElem?_eq_getElem (by omega)⟩
          rw [show stp ws (.field a kk) = (.word wd, ws) by simp only [stp, e]; rw [if_pos g, hwd]] at k
          exact fun v H' s' hv => k v xs H' (W.same s') (But.of s') ((W.rel.2 _ _ _ hv hwd).keep (Tups.of s'))
        · rw [if_neg g]
          rw [show stp ws (.field a kk) = (.ref, ws) by simp only [stp, e]; rw [if_neg g]] at k
          exact k
    | move a b =>
      obtain ⟨hq, fa, fb⟩ := hd
      refine ⟨_, rfl, q, _, 0, .str "move", rfl, rfl, SqT.of hq, rfl, rfl, _, rfl, ite2 (fun z => absurd z (by decide +kernel)) (fun _ => ?_)⟩
      refine ⟨_, rfl, q, _, 0, .str "move", rfl, rfl, SqT.of hq, rfl, rfl, _, rfl, ite2 (fun z => absurd z (by decide +kernel)) (fun _ => ?_)⟩
      refine ⟨_, rfl, q, _, 0, .str "move", rfl, rfl, SqT.of hq, rfl, rfl, _, rfl, ite2 (fun _ => ?_) (fun z => absurd (by decide +kernel) z)⟩
      refine ⟨_, rfl, _, rfl, q, _, 1, .int a, rfl, rfl, SqT.of hq, rfl, _, rfl, q, _, 2, .int b, rfl, rfl, SqT.of hq, rfl, m, c, dx, xs, ws, a, b, rfl, W, fa.log, by have := fb.1; omega, by have := fb.2; omega, ?_⟩
      cases e : thg ws a with
      | none =>
        rw [show stp ws (.move a b) = (.ref, ws) by simp only [stp, e]] at k
        exact k
      | some p =>
        obtain ⟨h1, h2⟩ := hok p e
        refine ⟨h1, h2, ?_⟩
        by_cases g : b < 0 ∨ 50 ≤ b + p.2
        · rw [if_pos g]
          rw [show stp ws (.move a b) = (.ref, ws) by simp only [stp, e]; rw [if_pos g]] at k
          exact k
        · rw [if_neg g]
          rw [show stp ws (.move a b) = (.non, mvd ws a b p.1 (seg ws a p.2)) by simp only [stp, e]; rw [if_neg g]] at k
          exact fun xs' H' W' b' => k _ xs' H' W' b' rfl
    | wh a =>
      obtain ⟨hq, fa⟩ := hd
      refine ⟨_, rfl, q, _, 0, .str "where", rfl, rfl, SqT.of hq, rfl, rfl, _, rfl, ite2 (fun z => absurd z (by decide +kernel)) (fun _ => ?_)⟩
      refine ⟨_, rfl, q, _, 0, .str "where", rfl, rfl, SqT.of hq, rfl, rfl, _, rfl, ite2 (fun z => absurd z (by decide +kernel)) (fun _ => ?_)⟩
      refine ⟨_, rfl, q, _, 0, .str "where", rfl, rfl, SqT.of hq, rfl, rfl, _, rfl, ite2 (fun z => absurd z (by decide +kernel)) (fun _ => ?_)⟩
      refine ⟨_, rfl, q, _, 0, .str "where", rfl, rfl, SqT.of hq, rfl, rfl, _, rfl, ite2 (fun z => absurd z (by decide +kernel)) (fun _ => ?_)⟩
      refine ⟨_, rfl, q, _, 0, .str "where", rfl, rfl, SqT.of hq, rfl, rfl, _, rfl, ite2 (fun z => absurd z (by decide +kernel)) (fun _ => ?_)⟩
      refine ⟨_, rfl, q, _, 0, .str "where", rfl, rfl, SqT.of hq, rfl, rfl, _, rfl, ite2 (fun z => absurd z (by decide +kernel)) (fun _ => ?_)⟩
      refine ⟨_, rfl, _, rfl, q, _, 1, .int a, rfl, rfl, SqT.of hq, rfl, m, c, dx, xs, ws, a, rfl, W, fa.log, ?_⟩
      by_cases g : 0 ≤ a ∧ a < 50
      · rw [if_pos g]
        rw [show stp ws (.wh a) = (.int (resZ ws a), ws) from if_pos g] at k
        exact fun z hz => k _ xs H W (But.of (Same.refl _)) (by rw [resZ_eq hz]; rfl)
      · rw [if_neg g]
        rw [show stp ws (.wh a) = (.ref, ws) from if_neg g] at k
        exact k
    | walk a b =>
      obtain ⟨hq, fa, fb⟩ := hd
      refine ⟨_, rfl, q, _, 0, .str "walk", rfl, rfl, SqT.of hq, rfl, rfl, _, rfl, ite2 (fun z => absurd z (by decide +kernel)) (fun _ => ?_)⟩
      refine ⟨_, rfl, q, _, 0, .str "walk", rfl, rfl, SqT.of hq, rfl, rfl, _, rfl, ite2 (fun z => absurd z (by decide +kernel)) (fun _ => ?_)⟩
      refine ⟨_, rfl, q, _, 0, .str "walk", rfl, rfl, SqT.of hq, rfl, rfl, _, rfl, ite2 (fun z => absurd z (by decide +kernel)) (fun _ => ?_)⟩
      refine ⟨_, rfl, q, _, 0, .str "walk", rfl, rfl, SqT.of hq, rfl, rfl, _, rfl, ite2 (fun z => absurd z (by decide +kernel)) (fun _ => ?_)⟩
      refine ⟨_, rfl, q, _, 0, .str "walk", rfl, rfl, SqT.of hq, rfl, rfl, _, rfl, ite2 (fun _ => ?_) (fun z => absurd (by decide +kernel) z)⟩
      refine ⟨_, rfl, _, rfl, q, _, 1, .int a, rfl, rfl, SqT.of hq, rfl, _, rfl, q, _, 2, .int b, rfl, rfl, SqT.of hq, rfl, m, c, dx, xs, ws, a, b, rfl, W, fa.log, fb.log, fun fs hw l H' s' hl0 hl => ?_, fun hw => ?_⟩
      · rw [show stp ws (.walk a b) = (.adrs fs, ws) by simp only [stp, wkR_eq hw]] at k
        exact k _ xs H' (W.same s') (But.of s') ⟨l, rfl, hl, hl0⟩
      · rw [show stp ws (.walk a b) = (.ref, ws) by simp only [stp, wkR_eq hw]] at k
        exact k
/-- _law_done -/
def spDone (CM : Addr) : Sp := fun vs H Q _ => ∃ m c dx xs ws q dd, vs = [.ref m, .ref q] ∧ MW CM H m c dx xs ws ∧ DV H q dd ∧ Free c dd ∧ Okd ws dd ∧ ∀ v xs' H', MW CM H' m c dx xs' (stp ws dd).2 → But c H H' → RV H H' v (stp ws dd).1 → Q v H'
theorem scD : FnScope ["memory", "deed", "told"] ["memory", "deed"] (defScope sDone) := ⟨rfl, rfl, rfl, by decide +kernel, rfl, by decide +kernel, by decide +kernel⟩
theorem ref_stays {ws : List Wc} {dd : Dd} (e : (stp ws dd).1 = .ref) : (stp ws dd).2 = ws := by
  cases dd with
  | lay a t vl wv =>
    by_cases h : a < 0 ∨ 50 ≤ a + (wv.length : Int)
    · simp only [stp, if_pos h]
    · simp only [stp, if_neg h] at e
      cases e
  | thing a =>
    cases h : thg ws a with
    | none => simp only [stp, h]
    | some p => simp only [stp, h]
  | put a k v wd =>
    cases h : thg ws a with
    | none => simp only [stp, h]
    | some p =>
      by_cases g : 0 ≤ k ∧ k < p.2
      · simp only [stp, h, if_pos g] at e
        cases e
      · simp only [stp, h, if_neg g]
  | field a k =>
    cases h : thg ws a with
    | none => simp only [stp, h]
    | some p =>
      by_cases g : 0 ≤ k ∧ k < p.2
      · cases h2 : ws[(a + 1 + k).toNat]? with
        | none => simp only [stp, h, if_pos g, h2]
        | some wd => simp only [stp, h, if_pos g, h2]
      · simp only [stp, h, if_neg g]
  | move a b =>
    cases h : thg ws a with
    | none => simp only [stp, h]
    | some p =>
      by_cases g : b < 0 ∨ 50 ≤ b + p.2
      · simp only [stp, h, if_pos g]
      · simp only [stp, h, if_neg g] at e
        cases e
  | wh a =>
    by_cases g : 0 ≤ a ∧ a < 50
    · simp only [stp, if_pos g]
    · simp only [stp, if_neg g]
  | walk a b =>
    cases h : wkR ws b a with
    | none => simp only [stp, h]
    | some fs => simp only [stp, h]
theorem ok_done {f fA : Addr} {fd fdfA : FuncData} (F : Fun K "_law_done" "_law_done" sDone f fd) (T : Txt K mg CH d0 fXI) (GfA : FnOk P w K mg base (CXE P w) 9 fA fdfA ["memory", "deed"] (spAsked CM d0)) (mfA : mg "_law_asked" = some (.ref fA)) (kfA : PySem.W.keepIn K (.ref fA) = true) (bfA : Binds K fdfA ["memory", "deed"] []) : FnOk P w K mg base (CXE P w) 10 f fd ["memory", "deed"] (spDone CM) := by
  obtain ⟨cd0, x0, _⟩ := T.sub0
  refine F.okE scD (fun vs H Q E h => ?_) (fun cdv A outer s H vs Q E hr h => ?_)
  · obtain ⟨m, c, dx, xs, ws, q, dd, rfl, _⟩ := h
    rfl
  · obtain ⟨m, c, dx, xs, ws, q, dd, rfl, W, hd, hf, hok, k⟩ := h
    refine ⟨_, pss_cons (ps_set (i := 2) scD.nd rfl (Or.inl rfl) (pe_tup (pa_cons pe_str pa_nil)))
      (pss_cons (ps_try0 rfl rfl rfl T.m0 x0
        (fun pins E' EK hp => pss_one (ps_set (i := 2) scD.nd rfl (Or.inl rfl) (pe_tup (pa_cons pe_str (pa_cons (xe_call GfA hr rfl mfA kfA bfA .nil hp (pa_cons (pv 0) (pa_cons (pv 1) pa_nil))) pa_nil)))))
        (fun ea => pss_one (ps_set (i := 2) scD.nd rfl (Or.inl rfl) (pe_tup (pa_cons pe_str pa_nil)))))
      (pss_one (ps_ret (pv 2)))), ?_⟩
    refine ⟨by show 1 ≤ sizeLine; decide, fun p0 hp0 => ?_⟩
    have s0 := Same.upd (o := .tup [V.str "refused"]) hp0
    obtain ⟨H0, e0⟩ : ∃ H0, upd H p0 (.tup [V.str "refused"]) = H0 := ⟨_, rfl⟩
    show gName 2 (V.ref p0) _ (upd H p0 (.tup [V.str "refused"])) _
    rw [e0] at s0 ⊢
    clear e0
    refine ⟨_, rfl, _, rfl, m, c, dx, xs, ws, q, dd, rfl, W.same s0, hd.same s0, hf, hok, ?_⟩
    have av0 : ∀ {H' : Hp} {v : V} {rs : Rs}, AV H0 H' v rs → AV H H' v rs := fun {H'} {v} {rs} h => by
      cases rs with
      | thing t wz =>
        obtain ⟨q, r, zs, e1, e2, e3, e4, e5, e6⟩ := h
        exact ⟨q, r, zs, e1, e2, e3, e4, none_of_same s0 e5, e6⟩
      | adrs fs =>
        obtain ⟨r, e1, e2, e3⟩ := h
        exact ⟨r, e1, e2, none_of_same s0 e3⟩
      | _ => exact h
    have told : ∀ v xs' H', MW CM H' m c dx xs' (stp ws dd).2 → But c H0 H' → AV H0 H' v (stp ws dd).1 → ∀ p, H' p = none → Q (.ref p) (upd H' p (.tup [.str "told", v])) := fun v xs' H' W' b' av p hp =>
      k _ xs' _ (W'.same (Same.upd hp)) (((But.of s0).trans b').trans (But.of (Same.upd hp))) (RV.of ((av0 av).same (Same.upd hp)) upd_same)
    cases e : (stp ws dd).1 with
    | ref =>
      rw [e] at k
      intro H1 s1
      refine ⟨d0, cd0, rfl, x0, (by obtain ⟨r, e⟩ := x0.line; rw [e]; simp), by show 1 ≤ sizeLine; decide, fun p2 hp2 => ⟨_, rfl, ?_⟩⟩
      have st := (s0.trans s1).trans (Same.upd (o := .tup [.str "refused"]) hp2)
      exact k _ xs _ (by rw [ref_stays e]; exact W.same st) (But.of st) ⟨p2, rfl, upd_same⟩
    | _ =>
      rw [e] at told
      intro v xs' H' W' b' av
      exact ⟨by show 2 ≤ sizeLine; decide, fun p hp => ⟨_, rfl, told v xs' H' W' b' av p hp⟩⟩
end
end K34
end
section
set_option Elab.async false
set_option linter.all false
set_option maxRecDepth 100000
set_option maxHeartbeats 4000000
set_option exponentiation.threshold 4000
namespace K34
open PySem L2 LX
def NoWalk : Dd → Prop
  | .walk _ _ => False
  | _ => True
section
variable {P : Program} {w : World} {K : PySem.W.Frag} {mg : Str → Option Value} {base : Heap} {CH d0 fXI : Addr} {CM fMI fSz fAt fPut fCp fLk : Addr}
/-- _law_due -/
def spDue : Sp := fun vs H Q _ => ∃ l ys ws q dd, vs = [.ref l, .ref q] ∧ ML H l ys ws ∧ DV H q dd ∧ Free l dd ∧ Okd ws dd ∧ NoWalk dd ∧ ∀ v ys' H', ML H' l ys' (stp ws dd).2 → But l H H' → RV H H' v (stp ws dd).1 → Q v H'
theorem scU : FnScope ["model", "deed", "a", "goal", "thing"] ["model", "deed"] (defScope sDue) := ⟨rfl, rfl, rfl, by decide +kernel, rfl, by decide +kernel, by decide +kernel⟩
theorem ok_due {f fLL fLT fLR : Addr} {fd fdfLL fdfLT fdfLR : FuncData} (F : Fun K "_law_due" "_law_due" sDue f fd) (T : Txt K mg CH d0 fXI) (GfLL : FnOk P w K mg base (CXE P w) 1 fLL fdfLL ["model", "a", "t", "values"] spLL) (mfLL : mg "_law_lay" = some (.ref fLL)) (kfLL : PySem.W.keepIn K (.ref fLL) = true) (bfLL : Binds K fdfLL ["model", "a", "t", "values"] [])
    (GfLT : FnOk P w K mg base (CXE P w) 1 fLT fdfLT ["model", "a"] spLT) (mfLT : mg "_law_thing" = some (.ref fLT)) (kfLT : PySem.W.keepIn K (.ref fLT) = true) (bfLT : Binds K fdfLT ["model", "a"] [])
    (GfLR : FnOk P w K mg base (CXE P w) 1 fLR fdfLR ["model", "a"] spLRes) (mfLR : mg "_law_resolved" = some (.ref fLR)) (kfLR : PySem.W.keepIn K (.ref fLR) = true) (bfLR : Binds K fdfLR ["model", "a"] []) : FnOk P w K mg base (CXE P w) 2 f fd ["model", "deed"] spDue := by
  refine F.okE scU (fun vs H Q E h => ?_) (fun cdv A outer s H vs Q E hr h => ?_)
  · obtain ⟨l, ys, ws, q, dd, rfl, _⟩ := h
    rfl
  · obtain ⟨l, ys, ws, q, dd, rfl, W, hd, hf, hok, hnw, k⟩ := h
    refine ⟨_, PSs.nox (pss_cons (ps_set (i := 2) scU.nd rfl (Or.inl rfl) (pe_ix ix_tup (pv 1) pe_int (fun _ _ => rfl)))
      (pss_cons (ps_if (pt_cmpR op_eq (pe_ix ix_tup (pv 1) pe_int (fun _ _ => rfl)) pe_str (nomark _)) (pss_one (ps_ret (pe_ix ix_list (pe_lst (pa_cons (pe_tup (pa_cons pe_str pa_nil)) (pa_cons (pe_tup (pa_cons pe_str (pa_cons pe_non pa_nil))) pa_nil))) (pe_callTy call_int1 rfl T.z_int PyProof.Rows.Boot.«int» (pa_cons (xe_call GfLL hr rfl mfLL kfLL bfLL .nil passN (pa_cons (pv 0) (pa_cons (pv 2) (pa_cons (pe_ix ix_tup (pv 1) pe_int (fun _ _ => rfl)) (pa_cons (pe_ix ix_tup (pv 1) pe_int (fun _ _ => rfl)) pa_nil))))) pa_nil)) (fun _ _ => rfl)))) pss_nil)
      (pss_cons (ps_if (pt_cmpR op_eq (pe_ix ix_tup (pv 1) pe_int (fun _ _ => rfl)) pe_str (nomark _)) (pss_cons (ps_set (i := 3) scU.nd rfl (Or.inl rfl) (xe_call GfLR hr rfl mfLR kfLR bfLR .nil passN (pa_cons (pv 0) (pa_cons (pv 2) pa_nil)))) (pss_one (ps_ret (pe_ix ix_list (pe_lst (pa_cons (pe_tup (pa_cons pe_str (pa_cons (pv 3) pa_nil))) (pa_cons (pe_tup (pa_cons pe_str pa_nil)) pa_nil))) (pe_callTy call_intB0 rfl T.z_int PyProof.Rows.Boot.«int» (pa_cons (pe_cmpR op_isN (pv 3) pe_non (nomark _)) pa_nil)) (fun _ _ => rfl))))) pss_nil)
      (pss_cons (ps_set (i := 4) scU.nd rfl (Or.inl rfl) (xe_call GfLT hr rfl mfLT kfLT bfLT .nil passN (pa_cons (pv 0) (pa_cons (pv 2) pa_nil))))
      (pss_cons (ps_if (pt_cmpR op_isN (pv 4) pe_non (nomark _)) (pss_one (ps_ret (pe_tup (pa_cons pe_str pa_nil)))) pss_nil)
      (pss_cons (ps_if (pt_cmpR op_eq (pe_ix ix_tup (pv 1) pe_int (fun _ _ => rfl)) pe_str (nomark _)) (pss_one (ps_ret (pe_tup (pa_cons pe_str (pa_cons (pv 4) pa_nil))))) pss_nil)
      (pss_cons (ps_if (pt_cmpR op_eq (pe_ix ix_tup (pv 1) pe_int (fun _ _ => rfl)) pe_str (nomark _))
        (pss_cons (ps_if (pt_not (pt_val (xe_call GfLL hr rfl mfLL kfLL bfLL .nil passN (pa_cons (pv 0) (pa_cons (pe_ix ix_tup (pv 1) pe_int (fun _ _ => rfl)) (pa_cons (pe_ix ix_tup (pv 4) pe_int (fun _ _ => rfl)) (pa_cons (pe_ix ix_tup (pv 4) pe_int (fun _ _ => rfl)) pa_nil))))))) (pss_one (ps_ret (pe_tup (pa_cons pe_str pa_nil)))) pss_nil)
        (pss_cons (ps_asg (pe_tup (pa_cons pe_str (pa_cons (pe_ix ix_tup (pv 1) pe_int (fun _ _ => rfl)) (pa_cons (pe_callB call_len_seq rfl T.z_len PyProof.Rows.Boot.«len» (pa_cons (pe_ix ix_tup (pv 4) pe_int (fun _ _ => rfl)) pa_nil)) pa_nil)))) (pg_sub (pv 0) (pv 2) set_list))
        (pss_one (ps_ret (pe_tup (pa_cons pe_str (pa_cons pe_non pa_nil))))))) pss_nil)
      (pss_cons (ps_if (PW.pt (pw_or (pt_cmpR op_lt (pe_ix ix_tup (pv 1) pe_int (fun _ _ => rfl)) pe_int (nomark _)) (pw_or1 (pt_cmpR op_ge (pe_ix ix_tup (pv 1) pe_int (fun _ _ => rfl)) (pe_callB call_len_seq rfl T.z_len PyProof.Rows.Boot.«len» (pa_cons (pe_ix ix_tup (pv 4) pe_int (fun _ _ => rfl)) pa_nil)) (nomark _))))) (pss_one (ps_ret (pe_tup (pa_cons pe_str pa_nil)))) pss_nil)
      (pss_cons (ps_if (pt_cmpR op_eq (pe_ix ix_tup (pv 1) pe_int (fun _ _ => rfl)) pe_str (nomark _)) (pss_one (ps_ret (pe_tup (pa_cons pe_str (pa_cons (pe_ix ix_list (pe_ix ix_tup (pv 4) pe_int (fun _ _ => rfl)) (pe_ix ix_tup (pv 1) pe_int (fun _ _ => rfl)) (fun _ _ => rfl)) pa_nil))))) pss_nil)
      (pss_cons (ps_asg (pe_ix ix_tup (pv 1) pe_int (fun _ _ => rfl)) (pg_sub (pv 0) (pe_op op_add (pe_op op_add (pv 2) pe_int) (pe_ix ix_tup (pv 1) pe_int (fun _ _ => rfl))) set_list))
      (pss_one (ps_ret (pe_tup (pa_cons pe_str (pa_cons pe_non pa_nil))))))))))))))), ?_⟩
    have refd : (stp ws dd).1 = .ref → ∀ {H1 : Hp}, Same H H1 → ∀ p, H1 p = none → Q (.ref p) (upd H1 p (.tup [.str "refused"])) := fun e {H1} s1 p hp => by
      refine k _ ys _ (by rw [ref_stays e]; exact W.same (s1.trans (Same.upd hp))) (But.of (s1.trans (Same.upd hp))) ?_
      rw [e]
      exact ⟨p, rfl, upd_same⟩
    cases dd with
    | lay a t vl wv =>
      obtain ⟨hq, ⟨us, hu, hR, hlu⟩, hnh, fa⟩ := hd
      refine ⟨_, rfl, q, _, 1, .int a, rfl, rfl, SqT.of hq, rfl, ?_⟩
      refine ⟨_, rfl, q, _, 0, .str "lay", rfl, rfl, SqT.of hq, rfl, rfl, _, rfl, ite2 (fun _ => ?_) (fun z => absurd (by decide +kernel) z)⟩
      refine ⟨by show 1 ≤ sizeLine; decide, fun t1 h1 => ⟨by show 2 ≤ sizeLine; decide, fun t2 h2 => ⟨by show 2 ≤ sizeLine; decide, fun p hp => ?_⟩⟩⟩
      have s3 : Same _ (upd _ p (.lst [.ref t1, .ref t2])) := Same.upd hp
      have s2 := (Same.upd (o := .tup [.str "told", .non]) h2).trans s3
      have s1 := (Same.upd (o := .tup [.str "refused"]) h1).trans s2
      replace hq := s1 _ _ hq
      refine ⟨_, rfl, _, rfl, _, rfl, q, _, 2, .int t, rfl, rfl, SqT.of hq, rfl, _, rfl, q, _, 3, .ref vl, rfl, rfl, SqT.of hq, rfl, l, ys, ws, vl, us, wv, a, t, rfl, W.same s1, s1 _ _ hu, hR.keep (Tups.of s1), hlu, hnh, hf, ?_⟩
      by_cases g : a < 0 ∨ (50 : Int) ≤ a + wv.length
      · rw [if_pos g]
        rw [show stp ws (.lay a t vl wv) = (.ref, ws) from if_pos g] at k
        exact .inr ⟨false, rfl, p, _, 0, .ref t1, rfl, rfl, SqL.of upd_same, rfl, k _ ys _ (W.same s1) (But.of s1) ⟨t1, rfl, s2 _ _ upd_same⟩⟩
      · rw [if_neg g]
        rw [show stp ws (.lay a t vl wv) = (.non, laidN ws a t wv wv.length) from if_neg g] at k
        intro ys' H' W' b'
        have np : p ≠ l := Ne.symm (ne_of_none ((Same.upd (o := .tup [.str "told", .non]) h2) _ _ ((Same.upd (o := .tup [.str "refused"]) h1) _ _ W.at_)) hp)
        have nt : t2 ≠ l := Ne.symm (ne_of_none ((Same.upd (o := .tup [.str "refused"]) h1) _ _ W.at_) h2)
        exact .inr ⟨true, rfl, p, _, 1, .ref t2, rfl, rfl, SqL.of (b' _ _ np upd_same), rfl, k _ ys' H' W' ((But.of s1).trans b') ⟨t2, .non, rfl, b' _ _ nt (s3 _ _ upd_same), rfl⟩⟩
    | walk a b => exact hnw.elim
    | wh a =>
      obtain ⟨hq, fa⟩ := hd
      refine ⟨_, rfl, q, _, 1, .int a, rfl, rfl, SqT.of hq, rfl, ?_⟩
      refine ⟨_, rfl, q, _, 0, .str "where", rfl, rfl, SqT.of hq, rfl, rfl, _, rfl, ite2 (fun z => absurd z (by decide +kernel)) (fun _ => ?_)⟩
      refine ⟨_, rfl, q, _, 0, .str "where", rfl, rfl, SqT.of hq, rfl, rfl, _, rfl, ite2 (fun _ => ?_) (fun z => absurd (by decide +kernel) z)⟩
      refine ⟨_, rfl, _, rfl, l, ys, ws, a, rfl, W, ?_⟩
      by_cases g : 0 ≤ a ∧ a < 50
      · rw [if_pos g]
        intro z hz
        rw [show stp ws (.wh a) = (.int z, ws) by simp only [stp, if_pos g, resZ_eq hz]] at k
        refine ⟨_, rfl, by show 2 ≤ sizeLine; decide, fun t1 h1 => ⟨by show 1 ≤ sizeLine; decide, fun t2 h2 => ⟨by show 2 ≤ sizeLine; decide, fun p hp => ?_⟩⟩⟩
        have s2 := (Same.upd (o := .tup [.str "refused"]) h2).trans (Same.upd (o := .lst [.ref t1, .ref t2]) hp)
        have s1 := (Same.upd (o := .tup [.str "told", .int z]) h1).trans s2
        exact ⟨_, rfl, rfl, _, rfl, p, _, 0, .ref t1, rfl, rfl, SqL.of upd_same, rfl, k _ ys _ (W.same s1) (But.of s1) ⟨t1, .int z, rfl, s2 _ _ upd_same, rfl⟩⟩
      · rw [if_neg g]
        rw [show stp ws (.wh a) = (.ref, ws) from if_neg g] at k
        refine ⟨_, rfl, by show 2 ≤ sizeLine; decide, fun t1 h1 => ⟨by show 1 ≤ sizeLine; decide, fun t2 h2 => ⟨by show 2 ≤ sizeLine; decide, fun p hp => ?_⟩⟩⟩
        have s3 := Same.upd (o := .lst [.ref t1, .ref t2]) hp
        have s1 := (Same.upd (o := .tup [.str "told", .non]) h1).trans ((Same.upd (o := .tup [.str "refused"]) h2).trans s3)
        exact ⟨_, rfl, rfl, _, rfl, p, _, 1, .ref t2, rfl, rfl, SqL.of upd_same, rfl, k _ ys _ (W.same s1) (But.of s1) ⟨t2, rfl, s3 _ _ upd_same⟩⟩
    | thing a =>
      obtain ⟨hq, fa⟩ := hd
      refine ⟨_, rfl, q, _, 1, .int a, rfl, rfl, SqT.of hq, rfl, ?_⟩
      refine ⟨_, rfl, q, _, 0, .str "thing", rfl, rfl, SqT.of hq, rfl, rfl, _, rfl, ite2 (fun z => absurd z (by decide +kernel)) (fun _ => ?_)⟩
      refine ⟨_, rfl, q, _, 0, .str "thing", rfl, rfl, SqT.of hq, rfl, rfl, _, rfl, ite2 (fun z => absurd z (by decide +kernel)) (fun _ => ?_)⟩
      refine ⟨_, rfl, _, rfl, l, ys, ws, a, rfl, W, ?_⟩
      cases e : thg ws a with
      | none =>
        exact ⟨_, rfl, rfl, _, rfl, ite2 (fun _ => ⟨by show 1 ≤ sizeLine; decide, fun p hp => refd (by simp only [stp, e]) (Same.refl _) p hp⟩) (fun h => by simp at h)⟩
      | some p =>
        rw [show stp ws (.thing a) = (.thing p.1 (seg ws a p.2), ws) by simp only [stp, e]] at k
        intro q' r zs H1 s1 hr0 h1 h2 h3
        replace hq := s1 _ _ hq
        refine ⟨_, rfl, rfl, _, rfl, ite2 (fun h => by simp at h) (fun _ => ?_)⟩
        refine ⟨_, rfl, q, _, 0, .str "thing", rfl, rfl, SqT.of hq, rfl, rfl, _, rfl, ite2 (fun _ => ?_) (fun z => absurd (by decide +kernel) z)⟩
        refine ⟨_, rfl, by show 2 ≤ sizeLine; decide, fun p2 hp2 => ?_⟩
        have s2 : Same H1 (upd H1 p2 (.tup [.str "told", .ref q'])) := Same.upd hp2
        exact k _ ys _ (W.same (s1.trans s2)) (But.of (s1.trans s2)) ⟨p2, .ref q', rfl, upd_same, q', r, zs, rfl, s2 _ _ h1, s2 _ _ h2, h3.keep (Tups.of s2), hr0, seg_le W.good⟩
    | move a b =>
      obtain ⟨hq, fa, fb⟩ := hd
      refine ⟨_, rfl, q, _, 1, .int a, rfl, rfl, SqT.of hq, rfl, ?_⟩
      refine ⟨_, rfl, q, _, 0, .str "move", rfl, rfl, SqT.of hq, rfl, rfl, _, rfl, ite2 (fun z => absurd z (by decide +kernel)) (fun _ => ?_)⟩
      refine ⟨_, rfl, q, _, 0, .str "move", rfl, rfl, SqT.of hq, rfl, rfl, _, rfl, ite2 (fun z => absurd z (by decide +kernel)) (fun _ => ?_)⟩
      refine ⟨_, rfl, _, rfl, l, ys, ws, a, rfl, W, ?_⟩
      cases e : thg ws a with
      | none =>
        exact ⟨_, rfl, rfl, _, rfl, ite2 (fun _ => ⟨by show 1 ≤ sizeLine; decide, fun p hp => refd (by simp only [stp, e]) (Same.refl _) p hp⟩) (fun h => by simp at h)⟩
      | some p =>
        obtain ⟨t, n⟩ := p
        obtain ⟨hnh, ap⟩ := hok (t, n) e
        obtain ⟨a0, hw, al⟩ := thg_some e
        obtain ⟨n0, n6⟩ := W.good.hd _ (List.mem_of_getElem? hw) t n rfl
        have lw := W.good.len
        have ls : (seg ws a n).length = n.toNat := seg_len a0 n0 al
        intro q' r zs H1 s1 hr0 h1 hr1 hR
        replace hq := s1 _ _ hq
        have L1 := W.same s1
        have hrl : r ≠ l := fun z => by rw [z, W.at_] at hr0; cases hr0
        refine ⟨_, rfl, rfl, _, rfl, ite2 (fun h => by simp at h) (fun _ => ?_)⟩
        refine ⟨_, rfl, q, _, 0, .str "move", rfl, rfl, SqT.of hq, rfl, rfl, _, rfl, ite2 (fun z => absurd z (by decide +kernel)) (fun _ => ?_)⟩
        refine ⟨_, rfl, q, _, 0, .str "move", rfl, rfl, SqT.of hq, rfl, rfl, _, rfl, ite2 (fun _ => ?_) (fun z => absurd (by decide +kernel) z)⟩
        refine ⟨_, rfl, _, rfl, q, _, 2, .int b, rfl, rfl, SqT.of hq, rfl, _, rfl, q', _, 0, .int t, rfl, rfl, SqT.of h1, rfl, _, rfl, q', _, 1, .ref r, rfl, rfl, SqT.of h1, rfl, l, ys, ws, r, zs, seg ws a n, b, t, rfl, L1, hr1, hR, by rw [hR.1, ls]; omega, hnh, hrl, ?_⟩
        have eq : (50 ≤ b + ((seg ws a n).length : Int)) ↔ (50 ≤ b + n) := by rw [ls]; omega
        by_cases g : b < 0 ∨ 50 ≤ b + n
        · rw [if_pos (g.imp id eq.mpr)]
          exact ⟨_, rfl, iteT ⟨by show 1 ≤ sizeLine; decide, fun p hp => refd (by simp only [stp, e, if_pos g]) s1 p hp⟩⟩
        · rw [if_neg (fun z => g (z.imp id eq.mp))]
          rw [show stp ws (.move a b) = (.non, mvd ws a b t (seg ws a n)) by simp only [stp, e]; rw [if_neg g]] at k
          intro ys2 H2 L2 b2
          have hq2 : H2 q' = some (.tup [.int t, .ref r]) := b2 _ _ (ne_of h1 L1.at_ (by intro z; cases z)) h1
          have hr2 : H2 r = some (.lst zs) := b2 _ _ hrl hr1
          have hd2 := b2 _ _ (ne_of hq L1.at_ (by intro z; cases z)) hq
          refine ⟨_, rfl, iteF ⟨_, rfl, q, _, 2, .int b, rfl, rfl, SqT.of hd2, rfl, _, rfl, q', _, 1, .ref r, rfl, rfl, SqT.of hq2, rfl, r, zs, rfl, .inl (SqL.of hr2), by show 3 ≤ sizeLine; decide, fun pt hpt => ?_⟩⟩
          have s3 : Same H2 (upd H2 pt (.tup [.str "moved", .int b, .int zs.length])) := Same.upd hpt
          have L3 := L2.same s3
          refine ⟨_, rfl, _, rfl, l, ys2, a, a.toNat, rfl, rfl, L3.at_, ix_in a0 (by rw [L3.len]; omega), ?_⟩
          have hh : WV (upd H2 pt (.tup [.str "moved", .int b, .int zs.length])) (.ref pt) (.mv b (seg ws a n).length) := ⟨pt, rfl, by rw [upd_same, hR.1]; rfl⟩
          have L4 := L3.put (i := a.toNat) hh (mvd_good W.good hnh (by omega) (by omega) (by omega) a0 (by omega))
          refine ⟨by show 2 ≤ sizeLine; decide, fun p hp => ?_⟩
          exact k _ _ _ (L4.same (Same.upd hp)) ((((But.of s1).trans b2).trans ((But.of s3).trans But.set)).trans (But.of (Same.upd hp))) ⟨p, .non, rfl, upd_same, rfl⟩
    | put a kk v wd =>
      obtain ⟨hq, hv, hn, fa, fk⟩ := hd
      refine ⟨_, rfl, q, _, 1, .int a, rfl, rfl, SqT.of hq, rfl, ?_⟩
      refine ⟨_, rfl, q, _, 0, .str "put", rfl, rfl, SqT.of hq, rfl, rfl, _, rfl, ite2 (fun z => absurd z (by decide +kernel)) (fun _ => ?_)⟩
      refine ⟨_, rfl, q, _, 0, .str "put", rfl, rfl, SqT.of hq, rfl, rfl, _, rfl, ite2 (fun z => absurd z (by decide +kernel)) (fun _ => ?_)⟩
      refine ⟨_, rfl, _, rfl, l, ys, ws, a, rfl, W, ?_⟩
      cases e : thg ws a with
      | none =>
        exact ⟨_, rfl, rfl, _, rfl, ite2 (fun _ => ⟨by show 1 ≤ sizeLine; decide, fun p hp => refd (by simp only [stp, e]) (Same.refl _) p hp⟩) (fun h => by simp at h)⟩
      | some p =>
        obtain ⟨t, n⟩ := p
        obtain ⟨h0, hw, hl⟩ := thg_some e
        obtain ⟨n0, n6⟩ := W.good.hd _ (List.mem_of_getElem? hw) t n rfl
        intro q' r zs H1 s1 hr0 h1 h2 h3
        have lz : zs.length = n.toNat := by rw [h3.1, seg_len h0 n0 hl]
        replace hq := s1 _ _ hq
        refine ⟨_, rfl, rfl, _, rfl, ite2 (fun h => by simp at h) (fun _ => ?_)⟩
        refine ⟨_, rfl, q, _, 0, .str "put", rfl, rfl, SqT.of hq, rfl, rfl, _, rfl, ite2 (fun z => absurd z (by decide +kernel)) (fun _ => ?_)⟩
        refine ⟨_, rfl, q, _, 0, .str "put", rfl, rfl, SqT.of hq, rfl, rfl, _, rfl, ite2 (fun z => absurd z (by decide +kernel)) (fun _ => ?_)⟩
        refine ⟨_, rfl, q, _, 2, .int kk, rfl, rfl, SqT.of hq, rfl, kk, 0, rfl, rfl, _, rfl, ite2 (fun g => iteT ⟨by show 1 ≤ sizeLine; decide, fun p hp => refd ?_ s1 p hp⟩) (fun g => ?_)⟩
        · simp only [decide_eq_true_eq] at g
          simp only [stp, e, if_neg (show ¬ (0 ≤ kk ∧ kk < n) by omega)]
        simp only [decide_eq_true_eq] at g
        refine ⟨_, rfl, q, _, 2, .int kk, rfl, rfl, SqT.of hq, rfl, _, rfl, q', _, 1, .ref r, rfl, rfl, SqT.of h1, rfl, r, zs, rfl, .inl (SqL.of h2), kk, _, rfl, rfl, _, rfl, ite2 (fun g2 => ⟨by show 1 ≤ sizeLine; decide, fun p hp => refd ?_ s1 p hp⟩) (fun g2 => ?_)⟩
        · simp only [decide_eq_true_eq] at g2
          simp only [stp, e, if_neg (show ¬ (0 ≤ kk ∧ kk < n) by omega)]
        simp only [decide_eq_true_eq] at g2
        have gg : 0 ≤ kk ∧ kk < n := by omega
        have l60 := W.good.len
        rw [show stp ws (.put a kk v wd) = (.non, ws.set (a + 1 + kk).toNat wd) by simp only [stp, e]; rw [if_pos gg]] at k
        refine ⟨_, rfl, q, _, 0, .str "put", rfl, rfl, SqT.of hq, rfl, rfl, _, rfl, ite2 (fun z => absurd z (by decide +kernel)) (fun _ => ?_)⟩
        have W1 := W.same s1
        refine ⟨_, rfl, q, _, 3, v, rfl, rfl, SqT.of hq, rfl, _, rfl, _, rfl, a, 1, rfl, rfl, _, rfl, q, _, 2, .int kk, rfl, rfl, SqT.of hq, rfl, _, kk, rfl, rfl, l, ys, a + 1 + kk, (a + 1 + kk).toNat, rfl, rfl, W1.at_, (by rw [W1.len]; exact ix_in (by omega) (by omega)), ?_⟩
        have W2 := W1.put (i := (a + 1 + kk).toNat) (hv.keep (Tups.of s1)) (put_good W.good hn)
        refine ⟨by show 2 ≤ sizeLine; decide, fun p2 hp2 => ?_⟩
        exact k _ _ _ (W2.same (Same.upd hp2)) (((But.of s1).trans But.set).trans (But.of (Same.upd hp2))) ⟨p2, .non, rfl, upd_same, rfl⟩
    | field a kk =>
      obtain ⟨hq, fa, fk⟩ := hd
      refine ⟨_, rfl, q, _, 1, .int a, rfl, rfl, SqT.of hq, rfl, ?_⟩
      refine ⟨_, rfl, q, _, 0, .str "field", rfl, rfl, SqT.of hq, rfl, rfl, _, rfl, ite2 (fun z => absurd z (by decide +kernel)) (fun _ => ?_)⟩
      refine ⟨_, rfl, q, _, 0, .str "field", rfl, rfl, SqT.of hq, rfl, rfl, _, rfl, ite2 (fun z => absurd z (by decide +kernel)) (fun _ => ?_)⟩
      refine ⟨_, rfl, _, rfl, l, ys, ws, a, rfl, W, ?_⟩
      cases e : thg ws a with
      | none =>
        exact ⟨_, rfl, rfl, _, rfl, ite2 (fun _ => ⟨by show 1 ≤ sizeLine; decide, fun p hp => refd (by simp only [stp, e]) (Same.refl _) p hp⟩) (fun h => by simp at h)⟩
      | some p =>
        obtain ⟨t, n⟩ := p
        obtain ⟨h0, hw, hl⟩ := thg_some e
        obtain ⟨n0, n6⟩ := W.good.hd _ (List.mem_of_getElem? hw) t n rfl
        intro q' r zs H1 s1 hr0 h1 h2 h3
        have lz : zs.length = n.toNat := by rw [h3.1, seg_len h0 n0 hl]
        replace hq := s1 _ _ hq
        refine ⟨_, rfl, rfl, _, rfl, ite2 (fun h => by simp at h) (fun _ => ?_)⟩
        refine ⟨_, rfl, q, _, 0, .str "field", rfl, rfl, SqT.of hq, rfl, rfl, _, rfl, ite2 (fun z => absurd z (by decide +kernel)) (fun _ => ?_)⟩
        refine ⟨_, rfl, q, _, 0, .str "field", rfl, rfl, SqT.of hq, rfl, rfl, _, rfl, ite2 (fun z => absurd z (by decide +kernel)) (fun _ => ?_)⟩
        refine ⟨_, rfl, q, _, 2, .int kk, rfl, rfl, SqT.of hq, rfl, kk, 0, rfl, rfl, _, rfl, ite2 (fun g => iteT ⟨by show 1 ≤ sizeLine; decide, fun p hp => refd ?_ s1 p hp⟩) (fun g => ?_)⟩
        · simp only [decide_eq_true_eq] at g
          simp only [stp, e, if_neg (show ¬ (0 ≤ kk ∧ kk < n) by omega)]
        simp only [decide_eq_true_eq] at g
        refine ⟨_, rfl, q, _, 2, .int kk, rfl, rfl, SqT.of hq, rfl, _, rfl, q', _, 1, .ref r, rfl, rfl, SqT.of h1, rfl, r, zs, rfl, .inl (SqL.of h2), kk, _, rfl, rfl, _, rfl, ite2 (fun g2 => ⟨by show 1 ≤ sizeLine; decide, fun p hp => refd ?_ s1 p hp⟩) (fun g2 => ?_)⟩
        · simp only [decide_eq_true_eq] at g2
          simp only [stp, e, if_neg (show ¬ (0 ≤ kk ∧ kk < n) by omega)]
        simp only [decide_eq_true_eq] at g2
        have gg : 0 ≤ kk ∧ kk < n := by omega
        have l60 := W.good.len
        obtain ⟨wd, hwd⟩ : ∃ wd, ws[(a + 1 + kk).toNat]? = some wd := ⟨_, List.getElem?_eq_getElem (by omega)⟩
        rw [show stp ws (.field a kk) = (.word wd, ws) by simp only [stp, e]; rw [if_pos gg, hwd]] at k
        obtain ⟨u, hu⟩ : ∃ u, zs[kk.toNat]? = some u := ⟨_, List.getElem?_eq_getElem (by omega)⟩
        have wu : WV H1 u wd := h3.2 kk.toNat u wd hu (by rw [seg_at h0 (by omega), show a + 1 + (kk.toNat : Int) = a + 1 + kk by omega]; exact hwd)
        refine ⟨_, rfl, q, _, 0, .str "field", rfl, rfl, SqT.of hq, rfl, rfl, _, rfl, ite2 (fun _ => ?_) (fun z => absurd (by decide +kernel) z)⟩
        refine ⟨_, rfl, q', _, 1, .ref r, rfl, rfl, SqT.of h1, rfl, _, rfl, q, _, 2, .int kk, rfl, rfl, SqT.of hq, rfl, r, zs, kk, u, rfl, rfl, SqL.of h2, at_int gg.1 hu, by show 2 ≤ sizeLine; decide, fun p2 hp2 => ?_⟩
        have s2 : Same H1 (upd H1 p2 (.tup [.str "told", u])) := Same.upd hp2
        exact k _ ys _ (W.same (s1.trans s2)) (But.of (s1.trans s2)) ⟨p2, u, rfl, upd_same, WV.keep wu (Tups.of s2)⟩
end
end K34
end
section
set_option Elab.async false
set_option linter.all false
set_option maxRecDepth 100000
set_option maxHeartbeats 4000000
set_option exponentiation.threshold 4000
namespace K34
open PySem L2 LX
/-- a deed that may change the memory -/
def Mk : Dd → Prop
  | .lay _ _ _ _ => True
  | .put _ _ _ _ => True
  | .move _ _ => True
  | _ => False
section
variable {P : Program} {w : World} {K : PySem.W.Frag} {mg : Str → Option Value} {base : Heap} {CH d0 fXI : Addr} {CM fMI fSz fAt fPut fCp fLk : Addr}
theorem seq_gen {t u : TS} {D : Ends} {σ : St} {H : Hp} (h : ∀ N : St → Hp → Prop, (∀ σ' H', u D σ' H' → N σ' H') → t { D with nx := N } σ H) : tSeq t u D σ H := h (u D) (fun _ _ q => q)
/-- _law_deed -/
def spDeed : Sp := fun vs H Q _ => ∃ (n k : Int) (kn : Addr) (ks : List Int), vs = [.int n, .ref kn, .int k] ∧ H kn = some (.lst (ks.map V.int)) ∧ (∀ x ∈ ks, 0 ≤ x ∧ x ≤ 100) ∧ ks ≠ [] ∧ ∀ q dd H', Same H H' → DV H' q dd → Fresh H dd → Mk dd → Q (.ref q) H'
theorem scDe : FnScope ["number", "known", "k", "kind", "a", "values"] ["number", "known", "k"] (defScope sDeed) := ⟨rfl, rfl, rfl, by decide +kernel, rfl, by decide +kernel, by decide +kernel⟩
theorem few_mod {n m j : Int} (hm : 0 < m) (h1 : m ≤ 100) (h2 : 0 ≤ j ∧ j ≤ 100) : Few (n % m - j) := by
  have a := Int.emod_nonneg n (show m ≠ 0 by omega)
  have b := Int.emod_lt_of_pos n hm
  exact ⟨by omega, by omega⟩
theorem ok_deed {f fW : Addr} {fd fdfW : FuncData} (F : Fun K "_law_deed" "_law_deed" sDeed f fd) (T : Txt K mg CH d0 fXI) (GfW : FnOk P w K mg base (CXE P w) 1 fW fdfW ["cell"] spWord) (mfW : mg "_law_word" = some (.ref fW)) (kfW : PySem.W.keepIn K (.ref fW) = true) (bfW : Binds K fdfW ["cell"] []) : FnOk P w K mg base (CXE P w) 2 f fd ["number", "known", "k"] spDeed := by
  refine F.okE scDe (fun vs H Q E h => ?_) (fun cdv A outer s H vs Q E hr h => ?_)
  · obtain ⟨n, k, kn, ks, rfl, _⟩ := h
    rfl
  · obtain ⟨n, kk, kn, ks, rfl, hk, kb, k0, k⟩ := h
    refine ⟨_, PSs.nox (pss_cons (ps_set (i := 3) scDe.nd rfl (Or.inl rfl) (pe_op op_mod (pv 0) pe_int))
      (pss_cons (ps_set (i := 4) scDe.nd rfl (Or.inl rfl) (pe_op op_sub (pe_op op_mod (pe_op op_fdiv (pv 0) pe_int) pe_int) pe_int))
      (pss_cons (ps_if (pt_cmpR op_gt (pe_op op_mod (pe_op op_fdiv (pv 0) pe_int) pe_int) pe_int (nomark _)) (pss_one (ps_set (i := 4) scDe.nd rfl (Or.inl rfl) (pe_ix ix_list (pv 1) (pe_op op_mod (pe_op op_fdiv (pv 0) pe_int) (pe_callB call_len_seq rfl T.z_len PyProof.Rows.Boot.«len» (pa_cons (pv 1) pa_nil))) (fun _ _ => rfl)))) pss_nil)
      (pss_cons (ps_if (pt_cmpR op_lt (pv 3) pe_int (nomark _))
        (pss_cons (ps_comp (cl := [("number", s.heap.objs.size + 1)]) (x := "j") (idx := [0]) (NC := ["j", "number"]) (i := 5) scDe.nd rfl rfl ?co rfl (pi_range1 rfl T.z_range (pa_cons (pe_op op_mod (pe_op op_fdiv (pv 0) pe_int) pe_int) pa_nil)) (fun C fp s₀ H₀ => xe_call GfW (hr.mono (by decide)) rfl mfW kfW bfW .nil passF (pa_cons (pe_op op_add (pe_op op_fdiv (pv 1) (pe_op op_add pe_int (pv 0))) (pv 0)) pa_nil)))
        (pss_one (ps_ret (pe_tup (pa_cons pe_str (pa_cons (pe_ix ix_list (pe_lst (pa_cons (pv 4) (pa_cons (pe_op op_mod (pe_op op_fdiv (pv 0) pe_int) pe_int) pa_nil))) (pv 3) (fun _ _ => rfl)) (pa_cons (pv 2) (pa_cons (pv 5) pa_nil)))))))) pss_nil)
      (pss_cons (ps_if (pt_cmpR op_eq (pv 3) pe_int (nomark _)) (pss_one (ps_ret (pe_tup (pa_cons pe_str (pa_cons (pv 4) (pa_cons (pe_op op_sub (pe_op op_mod (pe_op op_fdiv (pv 0) pe_int) pe_int) pe_int) (pa_cons (xe_call GfW (hr.mono (by decide)) rfl mfW kfW bfW .nil passN (pa_cons (pe_op op_fdiv (pv 0) pe_int) pa_nil)) pa_nil))))))) pss_nil)
      (pss_one (ps_ret (pe_tup (pa_cons pe_str (pa_cons (pv 4) (pa_cons (pe_op op_sub (pe_op op_mod (pe_op op_fdiv (pv 0) pe_int) pe_int) pe_int) pa_nil))))))))))), ?_⟩
    case co =>
      exact comp_ok (sc := defScope sDeed) (N := ["number", "known", "k", "kind", "a", "values"]) (ns := ["number"]) rfl rfl rfl (by decide +kernel) rfl rfl (by
        intro q hq
        rw [List.mem_singleton.mp hq]
        rfl)
    have q0 := Int.emod_nonneg n (show (4 : Int) ≠ 0 by decide)
    have q1 := Int.emod_lt_of_pos n (show (0 : Int) < 4 by decide)
    refine ⟨_, rfl, n, 4, rfl, rfl, (by show (0 : Int) < 4; decide), _, rfl, n, 4, rfl, rfl, ⟨by decide, by decide⟩, _, 54, rfl, rfl, (by show (0 : Int) < 54; decide), _, 2, rfl, rfl, ?_⟩
    obtain ⟨kd, ekd⟩ : ∃ kd : Int, n % 4 = kd := ⟨_, rfl⟩
    rw [ekd] at q0 q1
    simp only [ekd]
    refine seq_gen fun N hN => ?_
    have rest : ∀ a : Int, Few a → N [some (.int n), some (.ref kn), some (.int kk), some (.int kd), some (.int a), none] H := by
      intro a fa
      refine hN _ _ ?_
      have c0 := Int.emod_nonneg (n / 4) (show (7 : Int) ≠ 0 by decide)
      have c1 := Int.emod_lt_of_pos (n / 4) (show (0 : Int) < 7 by decide)
      refine ⟨_, rfl, kd, 2, rfl, rfl, _, rfl, ite2 (fun hlt => ?_) (fun hge => ?_)⟩
      · have hlt := of_decide_eq_true hlt
        refine ⟨_, rfl, n, 4, rfl, rfl, ⟨by decide, by decide⟩, _, 7, rfl, rfl, (by show (0 : Int) < 7; decide), n / 4 % 7, rfl, by omega, by omega, fun D hD => ?_⟩
        refine comp_range (lo := 0) (n := (n / 4 % 7).toNat) (fun i zs H2 => zs.length = i ∧ Same H H2 ∧ H2 D = some (.lst zs) ∧ ∃ wv, Rel H2 zs wv ∧ ∀ x ∈ wv, NotHd x) ⟨rfl, Same.upd hD, upd_same, [], ⟨rfl, fun i v wd z => by simp at z⟩, fun x hx => by cases hx⟩ (fun i zs H2 hi ⟨e1, _, z, _⟩ => ⟨z, e1⟩)
          (Nat.le_trans (show (n / 4 % 7).toNat ≤ 100 by omega) sz_len) (fun i zs H2 hi ⟨e1, s2, z, wv, hR, hnh⟩ => ?_) (fun zs H8 ⟨e1, s8, zD, wv, hR, hnh⟩ => ?_)
        · refine ⟨_, rfl, _, rfl, 7, 0 + (i : Int), rfl, rfl, n, 7 + (0 + (i : Int)), rfl, rfl, ⟨by show (0 : Int) < _; omega, by show _ < (1073741824 : Int); omega⟩, _, rfl, _, _, rfl, rfl, _, rfl, fun v wd H3 s3 wv3 nh => ⟨s3 _ _ z, ?_⟩⟩
          refine ⟨by rw [List.length_append, e1]; rfl, fun b u q => by rw [upd_ne (ne_of_none q hD)]; exact s3 _ _ (s2 b u q), upd_same, wv ++ [wd], ?_, fun x hx => ?_⟩
          · have st : Tups H3 (upd H3 D (.lst (zs ++ [v]))) := Tups.set (s3 _ _ z)
            refine ⟨by rw [List.length_append, List.length_append, hR.1]; rfl, fun j u y a1 a2 => ?_⟩
            by_cases hj : j < zs.length
            · rw [List.getElem?_append_left hj] at a1
              rw [List.getElem?_append_left (by rw [← hR.1]; exact hj)] at a2
              exact ((hR.2 j u y a1 a2).keep (Tups.of s3)).keep st
            · rw [List.getElem?_append_right (by omega)] at a1
              rw [List.getElem?_append_right (by rw [← hR.1]; omega)] at a2
              have ej : j - zs.length = 0 := by
                have := (List.getElem?_eq_some_iff.mp a1).1
                simp only [List.length_singleton] at this
                omega
              rw [ej] at a1
              rw [← hR.1, ej] at a2
              cases a1
              cases a2
              exact wv3.keep st
          · rcases List.mem_append.mp hx with g | g
            · exact hnh x g
            · rw [List.mem_singleton.mp g]
              exact nh
        · have b0 := Int.emod_nonneg (n / 28) (show (50 : Int) ≠ 0 by decide)
          have b1 := Int.emod_lt_of_pos (n / 28) (show (0 : Int) < 50 by decide)
          obtain ⟨av, fav, hav⟩ : ∃ av : Int, Few av ∧ atI [V.int a, V.int (n / 28 % 50)] kd = some (.int av) := by
            rcases (show kd = 0 ∨ kd = 1 by omega) with rfl | rfl
            · exact ⟨a, fa, rfl⟩
            · exact ⟨n / 28 % 50, ⟨by omega, by omega⟩, rfl⟩
          refine ⟨_, rfl, _, rfl, n, 28, rfl, rfl, ⟨by decide, by decide⟩, _, 50, rfl, rfl, (by show (0 : Int) < 50; decide), by show 2 ≤ sizeLine; decide, fun p1 hp1 => ⟨_, rfl, p1, _, kd, .int av, rfl, rfl, SqL.of upd_same, hav, _, rfl, _, rfl, by show 4 ≤ sizeLine; decide, fun q hq => ?_⟩⟩
          have s9 := (Same.upd (o := .lst [V.int a, V.int (n / 28 % 50)]) hp1).trans (Same.upd (o := .tup [V.str "lay", V.int av, V.int kk, V.ref D]) hq)
          exact k q (.lay av kk D wv) _ (s8.trans s9) ⟨upd_same, ⟨zs, s9 _ _ zD, hR.keep (Tups.of s9), by omega⟩, hnh, fav⟩ hD True.intro
      · refine ⟨_, rfl, rfl, _, rfl, ite2 (fun _ => ?_) (fun _ => ?_)⟩
        · refine ⟨_, rfl, _, rfl, n, 13, rfl, rfl, ⟨by decide, by decide⟩, _, 8, rfl, rfl, (by show (0 : Int) < 8; decide), _, 1, rfl, rfl, _, rfl, n, 5, rfl, rfl, ⟨by decide, by decide⟩, _, rfl, fun v wd H3 s3 wv3 nh => ⟨by show 4 ≤ sizeLine; decide, fun q hq => ?_⟩⟩
          have s4 := Same.upd (o := .tup [V.str "put", V.int a, V.int (n / 13 % 8 - 1), v]) hq
          exact k q (.put a (n / 13 % 8 - 1) v wd) _ (s3.trans s4) ⟨upd_same, wv3.keep (Tups.of s4), nh, fa, few_mod (by decide) (by decide) (by decide)⟩ True.intro True.intro
        · refine ⟨_, rfl, _, rfl, n, 31, rfl, rfl, ⟨by decide, by decide⟩, _, 54, rfl, rfl, (by show (0 : Int) < 54; decide), _, 2, rfl, rfl, by show 3 ≤ sizeLine; decide, fun q hq => ?_⟩
          exact k q (.move a (n / 31 % 54 - 2)) _ (Same.upd hq) ⟨upd_same, fa, few_mod (by decide) (by decide) (by decide)⟩ True.intro True.intro
    refine ⟨_, rfl, n, 216, rfl, rfl, ⟨by decide, by decide⟩, _, 4, rfl, rfl, (by show (0 : Int) < 4; decide), _, 0, rfl, rfl, _, rfl, ite2 (fun _ => ?_) (fun _ => rest _ (few_mod (by decide) (by decide) (by decide)))⟩
    have hkl : (0 : Int) < ((ks.map V.int).length : Int) := by
      rw [List.length_map]
      have := List.length_pos_iff.mpr k0
      omega
    have x0 := Int.emod_nonneg (n / 864) (show ((ks.map V.int).length : Int) ≠ 0 by omega)
    have x1 := Int.emod_lt_of_pos (n / 864) hkl
    obtain ⟨jn, ejn⟩ : ∃ jn : Nat, n / 864 % ((ks.map V.int).length : Int) = (jn : Int) := ⟨(n / 864 % ((ks.map V.int).length : Int)).toNat, by omega⟩
    have hj : jn < ks.length := by rw [List.length_map] at ejn x1; omega
    have hat : atI (ks.map V.int) (n / 864 % ((ks.map V.int).length : Int)) = some (.int ks[jn]) := by rw [ejn]; exact atI_nat (by rw [List.getElem?_map, List.getElem?_eq_getElem hj]; rfl)
    have hb := kb ks[jn] (List.getElem_mem hj)
    exact ⟨_, rfl, _, rfl, n, 864, rfl, rfl, ⟨by decide, by decide⟩, _, rfl, kn, _, rfl, .inl (SqL.of hk), _, _, rfl, rfl, hkl, kn, _, _, .int ks[jn], rfl, rfl, SqL.of hk, hat, rest _ ⟨by omega, by omega⟩⟩
end
end K34
end
section
set_option Elab.async false
set_option linter.all false
set_option maxRecDepth 100000
set_option maxHeartbeats 4000000
set_option exponentiation.threshold 4000
namespace K34
open PySem L2 LX
section
variable {P : Program} {w : World} {K : PySem.W.Frag} {mg : Str → Option Value} {base : Heap} {CH d0 fXI : Addr} {CM fMI fSz fAt fPut fCp fLk : Addr}
/-- _law_cell -/
def spCell (K : PySem.W.Frag) : Sp := fun vs H Q _ => ∃ (a : Addr) (ns : List Int) (j : Nat), vs = [.ref a, .int j] ∧ SqL K H a (ns.map V.int) ∧ ∀ n : Int, Q (.int n) H
theorem ok_cell {f : Addr} {fd : FuncData} (F : Fun K "_law_cell" "_law_cell" sCell f fd) (zl : mg "len" = none) : FnOk P w K mg base (CXE P w) 1 f fd ["script", "k"] (spCell K) := by
  refine F.okE (N := ["script", "k"]) ⟨rfl, rfl, rfl, by decide +kernel, rfl, by decide +kernel, by decide +kernel⟩ (fun vs H Q E h => ?_) (fun cdv A outer s H vs Q E hr h => ?_)
  · obtain ⟨a, ns, j, rfl, _⟩ := h
    rfl
  · obtain ⟨a, ns, j, rfl, hS, k⟩ := h
    refine ⟨_, PSs.nox (pss_cons (ps_if (pt_cmpR op_lt (pv 1) (pe_callB call_len_seq rfl zl PyProof.Rows.Boot.«len» (pa_cons (pv 0) pa_nil)) (nomark _)) (pss_one (ps_ret (pe_ix ix_list (pv 0) (pv 1) (fun _ _ => rfl)))) pss_nil) (pss_one (ps_ret pe_int))), ?_⟩
    refine ⟨_, rfl, _, rfl, a, _, rfl, .inl hS, _, _, rfl, rfl, _, rfl, ite2 (fun h => ?_) (fun _ => k 0)⟩
    simp only [List.length_map, decide_eq_true_eq] at h
    have hj : j < ns.length := by omega
    exact ⟨_, rfl, _, rfl, a, _, _, .int (ns[j]'hj), rfl, rfl, hS, atI_nat (by rw [List.getElem?_map, List.getElem?_eq_getElem hj]; rfl), k _⟩
/-- _law_numbers -/
def spNums (K : PySem.W.Frag) : Sp := fun vs H Q _ => ∃ (a : Addr) (ns : List Int), vs = [.ref a] ∧ SqL K H a (ns.map V.int) ∧ ns.length ≤ 63 ∧ ∀ p (ms : List Int) H', Same H H' → H p = none → H' p = some (.lst (ms.map V.int)) → ms.length ≤ 300 → Q (.ref p) H'
abbrev NNu : List Str := ["script", "numbers", "way", "k", "cell", "rest", "turn"]
theorem scNu : FnScope NNu ["script"] (defScope sNumbers) := ⟨rfl, rfl, rfl, by decide +kernel, rfl, by decide +kernel, by decide +kernel⟩
theorem ok_nums {f fC fM : Addr} {fd fdC fdM : FuncData} (F : Fun K "_law_numbers" "_law_numbers" sNumbers f fd) (T : Txt K mg CH d0 fXI) (GC : FnOk P w K mg base (CXE P w) 1 fC fdC ["script", "k"] (spCell K)) (mC : mg "_law_cell" = some (.ref fC)) (kC : PySem.W.keepIn K (.ref fC) = true) (bC : Binds K fdC ["script", "k"] [])
    (GM : FnOk P w K mg base (CXE P w) 1 fM fdM ["cell", "k"] spMixed) (mM : mg "_law_mixed" = some (.ref fM)) (kM : PySem.W.keepIn K (.ref fM) = true) (bM : Binds K fdM ["cell", "k"] []) : FnOk P w K mg base (CXE P w) 2 f fd ["script"] (spNums K) := by
  refine F.okE scNu (fun vs H Q E h => ?_) (fun cdv A outer s H vs Q E hr h => ?_)
  · obtain ⟨a, ns, rfl, _⟩ := h
    rfl
  · obtain ⟨a, ns, rfl, hS, hlen, k⟩ := h
    refine ⟨_, PSs.nox (pss_cons (ps_set (i := 1) scNu.nd rfl (Or.inl rfl) (pe_lst (pa_cons pe_int pa_nil)))
      (pss_cons (ps_set (i := 2) scNu.nd rfl (Or.inl rfl) (pe_op op_mod (xe_call GC hr rfl mC kC bC .nil passN (pa_cons (pv 0) (pa_cons pe_int pa_nil))) pe_int))
      (pss_cons (ps_for PassesOwn.never rfl (pi_enum rfl T.z_enumerate (pa_cons (pv 0) pa_nil)) (pg_tup rfl (pgs_cons (pg_name (i := 3) scNu.nd rfl (Or.inl rfl)) (pgs_cons (pg_name (i := 4) scNu.nd rfl (Or.inl rfl)) pgs_nil)))
        (pss_cons (ps_set (i := 5) scNu.nd rfl (Or.inl rfl) (pe_op op_mod (pv 4) (pe_op op_pow pe_int pe_int)))
        (pss_one (ps_for PassesOwn.never rfl (pi_range1 rfl T.z_range (pa_cons (pe_op op_add pe_int (pe_op op_mod (pv 5) pe_int)) pa_nil)) (pg_name (i := 6) scNu.nd rfl (Or.inl rfl))
          (pss_cons (ps_expr (pe_bm PySem.F.plainAttrs_list PySem.F.slot_list_append PySem.F.type_list_append mt_append (pv 1) (pa_cons (pe_op op_mod (pe_ix ix_list (pe_lst (pa_cons (pe_op op_fdiv (pv 5) pe_int) (pa_cons (xe_call GM hr rfl mM kM bM .nil passN (pa_cons (pv 5) (pa_cons (pe_op op_add (pv 3) (pv 6)) pa_nil))) pa_nil))) (pv 2) (fun _ _ => rfl)) (pe_op op_pow pe_int pe_int)) pa_nil)))
          (pss_one (ps_set (i := 5) scNu.nd rfl (Or.inl rfl) (pe_op op_fdiv (pv 5) (pe_op op_pow pe_int pe_int)))))))))
      (pss_one (ps_ret (pv 1)))))), ?_⟩
    refine ⟨by show 1 ≤ sizeLine; decide, fun p hp => ?_⟩
    have s1 := Same.upd (o := .lst [V.int 0]) hp
    have zp : upd H p (.lst [V.int 0]) p = some (.lst (([0] : List Int).map V.int)) := upd_same
    obtain ⟨H1, e1⟩ : ∃ H1, upd H p (.lst [V.int 0]) = H1 := ⟨_, rfl⟩
    show gName 1 (V.ref p) _ (upd H p (.lst [V.int 0])) _
    rw [e1] at s1 zp ⊢
    clear e1
    refine ⟨_, rfl, a, ns, 0, rfl, s1.seq hS, fun z => ⟨z, 2, rfl, rfl, (by show (0 : Int) < 2; decide), ?_⟩⟩
    have w0 := Int.emod_nonneg z (show (2 : Int) ≠ 0 by decide)
    have w1 := Int.emod_lt_of_pos z (show (0 : Int) < 2 by decide)
    obtain ⟨way, ew⟩ : ∃ way : Int, z % 2 = way := ⟨_, rfl⟩
    rw [ew] at w0 w1
    simp only [ew]
    have lns : (ns.map V.int).length = ns.length := List.length_map _
    refine ⟨_, rfl, a, rfl, ⟨_, s1.seq hS⟩, for_enum (K := K) (a := a) (xs := ns.map V.int) (fun i σ Hx => ∃ (v3 v4 v5 v6 : Option V) (ms : List Int), σ = [some (.ref a), some (.ref p), some (.int way), v3, v4, v5, v6] ∧ Same H Hx ∧ Hx p = some (.lst (ms.map V.int)) ∧ ms.length ≤ 1 + 3 * i)
      ⟨none, none, none, none, [0], rfl, s1, zp, Nat.le_refl _⟩ (fun i σ Hx _ ⟨_, _, _, _, _, _, sx, _⟩ => sx.seq hS) ?_ ?_⟩
    · rintro i x σ H6 t hi ⟨v3, v4, v5, v6, ms, rfl, s6, z6, l6⟩ ht
      have hil : i < 63 := by have := (List.getElem?_eq_some_iff.mp hi).1; rw [lns] at this; omega
      obtain ⟨y, rfl⟩ : ∃ y : Int, x = .int y := by
        obtain ⟨y, _, e⟩ := List.mem_map.mp (List.mem_of_getElem? hi)
        exact ⟨y, e.symm⟩
      refine ⟨t, _, rfl, SqT.of upd_same, rfl, _, _, rfl, _, _, rfl, rfl, ?_⟩
      have s7 := s6.trans (Same.upd (o := .tup [.int (i : Int), .int y]) ht)
      have z7 := Same.upd (o := .tup [.int (i : Int), .int y]) ht _ _ z6
      obtain ⟨H7, e7⟩ : ∃ H7, upd H6 t (.tup [.int (i : Int), .int y]) = H7 := ⟨_, rfl⟩
      rw [e7] at s7 z7 ⊢
      clear e7
      have p60 : (0 : Int) < 10 ^ (60 : Int).toNat := by decide
      refine ⟨_, rfl, 10, 60, rfl, rfl, ⟨by decide, by decide, by decide⟩, y, _, rfl, rfl, p60, ?_⟩
      obtain ⟨rs, ers⟩ : ∃ rs : Int, y % 10 ^ (60 : Int).toNat = rs := ⟨_, rfl⟩
      simp only [ers]
      have r0 := Int.emod_nonneg rs (show (3 : Int) ≠ 0 by decide)
      have r1 := Int.emod_lt_of_pos rs (show (0 : Int) < 3 by decide)
      refine ⟨_, rfl, rs, 3, rfl, rfl, (by show (0 : Int) < 3; decide), 1, _, rfl, rfl, 1 + rs % 3, rfl, by omega, by omega, for_range (lo := 0) (n := (1 + rs % 3).toNat) (fun j σ Hx => ∃ (r6 : Int) (v6 : Option V) (ms : List Int), σ = [some (.ref a), some (.ref p), some (.int way), some (.int (i : Int)), some (.int y), some (.int r6), v6] ∧ Same H Hx ∧ Hx p = some (.lst (ms.map V.int)) ∧ ms.length ≤ 1 + 3 * i + j) ⟨rs, _, ms, rfl, s7, z7, l6⟩ ?_ ?_⟩
      · rintro j σ Hx hj ⟨r6, v6, ms, rfl, sx, zx, lx⟩
        have hj3 : j < 3 := by omega
        refine ⟨_, rfl, .inl ⟨rfl, _, SqL.of zx⟩, _, rfl, r6, 3, rfl, rfl, ⟨by decide, by decide⟩, _, rfl, _, rfl, _, rfl, (i : Int), _, rfl, rfl, r6, _, rfl, by omega, by omega, fun n1 hn1 => ⟨by show 2 ≤ sizeLine; decide, fun q hq => ?_⟩⟩
        obtain ⟨y1, hy1⟩ : ∃ y1 : Int, atI [V.int (r6 / 3), V.int n1] way = some (.int y1) := by
          rcases (show way = 0 ∨ way = 1 by omega) with rfl | rfl
          · exact ⟨_, rfl⟩
          · exact ⟨_, rfl⟩
        have p15 : (0 : Int) < 10 ^ (15 : Int).toNat := by decide
        have zq := Same.upd (o := .lst [V.int (r6 / 3), V.int n1]) hq
        have sq := sx.trans zq
        refine ⟨_, rfl, q, _, way, .int y1, rfl, rfl, SqL.of upd_same, hy1, 10, 15, rfl, rfl, ⟨by decide, by decide, by decide⟩, y1, _, rfl, rfl, p15, p, _, _, rfl, rfl, zq _ _ zx, Nat.lt_of_le_of_lt (show (ms.map V.int).length ≤ 1000 by rw [List.length_map]; omega) (by decide), ?_⟩
        refine ⟨_, rfl, 10, 4, rfl, rfl, ⟨by decide, by decide, by decide⟩, r6, _, rfl, rfl, ⟨by decide, by decide⟩, _, _, ms ++ [y1 % 10 ^ (15 : Int).toNat], rfl, fun b u g => by rw [upd_ne (ne_of_none g hp)]; exact sq b u g, by rw [upd_same, List.map_append]; rfl, by rw [List.length_append]; show ms.length + 1 ≤ _; omega⟩
      · rintro σ Hx ⟨r6, v6, ms, rfl, sx, zx, lx⟩
        exact ⟨_, _, _, _, ms, rfl, sx, zx, by omega⟩
    · rintro σ Hx ⟨v3, v4, v5, v6, ms, rfl, sx, zx, lx⟩
      exact ⟨_, rfl, k p ms Hx sx hp zx (by rw [lns] at lx; omega)⟩
end
end K34
end
section
set_option Elab.async false
set_option linter.all false
set_option maxRecDepth 100000
set_option maxHeartbeats 4000000
set_option exponentiation.threshold 4000
namespace K34
open PySem L2 LX
/-- what stands at each turn of _law_walk -/
def WI (H : Hp) (l lg : Addr) (ws : List Wc) (a be : Int) (n : Nat) (σ : St) (Hx : Hp) : Prop := ∃ (a1 : Int) (fs : List Int), n = (be - a1).toNat ∧ σ = [some (.ref l), some (.int a), some (.int be), some (.ref lg), some (.int a1)] ∧ Same H Hx ∧ Hx lg = some (.lst (fs.map V.int)) ∧ (fs.length : Int) ≤ a1 ∧ a1 ≤ 60 ∧
  (((∀ r, Wk ws be a1 r → Wk ws be a (r.map (fs ++ ·))) ∧ a1 ≤ be ∧ a1 ≤ 50) ∨ (Wk ws be a none ∧ (be < a1 ∨ 50 < a1)))
theorem thk_word {ws : List Wc} {a : Int} {wd : Wc} (h0 : 0 ≤ a) (h : ws[a.toNat]? = some wd) (hn : NotHd wd) : thk true ws a = none := by
  unfold thk
  rw [if_pos h0, h]
  cases wd with
  | hd t n => exact absurd rfl (hn.1 t n)
  | mv b n => exact absurd rfl (hn.2 b n)
  | _ => rfl
theorem wk_more {ws : List Wc} {a be a1 n : Int} {fs : List Int} (hw : ∀ r, Wk ws be a1 r → Wk ws be a (r.map (fs ++ ·))) (hlt : a1 < be) (h5 : a1 < 50) (n0 : 0 ≤ n) (ht : thk true ws a1 = if a1 + n < 50 then some n else none) :
    ((∀ r, Wk ws be (a1 + 1 + n) r → Wk ws be a (r.map ((fs ++ [a1]) ++ ·))) ∧ a1 + 1 + n ≤ be ∧ a1 + 1 + n ≤ 50) ∨ (Wk ws be a none ∧ (be < a1 + 1 + n ∨ 50 < a1 + 1 + n)) := by
  by_cases g : a1 + n < 50
  · rw [if_pos g] at ht
    by_cases g2 : a1 + n + 1 ≤ be
    · refine .inl ⟨fun r hr => ?_, by omega, by omega⟩
      have h1 := hw _ (.step hlt ht g2 (show Wk ws be (a1 + n + 1) r by rw [show a1 + n + 1 = a1 + 1 + n by omega]; exact hr))
      cases r with
      | none => exact h1
      | some fs' =>
        have e : (fs ++ [a1]) ++ fs' = fs ++ (a1 :: fs') := by simp
        show Wk ws be a (some ((fs ++ [a1]) ++ fs'))
        rw [e]
        exact h1
    · exact .inr ⟨hw none (.over hlt ht (by omega)), .inl (by omega)⟩
  · rw [if_neg g] at ht
    exact .inr ⟨hw none (.bad hlt ht), .inr (by omega)⟩
section
variable {P : Program} {w : World} {K : PySem.W.Frag} {mg : Str → Option Value} {base : Heap} {CH d0 fXI : Addr} {CM fMI fSz fAt fPut fCp fLk : Addr}
/-- _law_walk -/
def spLWalk : Sp := fun vs H Q _ => ∃ l ys ws, ∃ a be : Int, vs = [.ref l, .int a, .int be] ∧ ML H l ys ws ∧ 0 ≤ a ∧ a ≤ 49 ∧ a ≤ be ∧ be ≤ 60 ∧ ∀ v H', Same H H' → RV H H' v (stp ws (.walk a be)).1 → Q v H'
theorem scLW : FnScope ["model", "first", "behind", "told", "a"] ["model", "first", "behind"] (defScope sLWalk) := ⟨rfl, rfl, rfl, by decide +kernel, rfl, by decide +kernel, by decide +kernel⟩
theorem ok_lwalk {f : Addr} {fd : FuncData} (F : Fun K "_law_walk" "_law_walk" sLWalk f fd) (T : Txt K mg CH d0 fXI) : FnOk P w K mg base (CXE P w) 1 f fd ["model", "first", "behind"] spLWalk := by
  refine F.okE scLW (fun vs H Q E h => ?_) (fun cdv A outer s H vs Q E hr h => ?_)
  · obtain ⟨l, ys, ws, a, be, rfl, _⟩ := h
    rfl
  · obtain ⟨l, ys, ws, a, be, rfl, L, a0, a49, abe, b60, k⟩ := h
    refine ⟨_, PSs.nox (pss_cons (ps_set (i := 3) scLW.nd rfl (Or.inl rfl) (pe_lst pa_nil))
      (pss_cons (ps_set (i := 4) scLW.nd rfl (Or.inl rfl) (pv 1))
      (pss_cons (ps_while PassesOwn.never (pt_cmpR op_lt (pv 4) (pv 2) (nomark _))
        (pss_cons (ps_if (PW.pt (pw_or (pt_cmpR op_ge (pv 4) (pe_callB call_len_seq rfl T.z_len PyProof.Rows.Boot.«len» (pa_cons (pv 0) pa_nil)) (nomark _)) (pw_or (pt_cmpR op_isN (pe_ix ix_list (pv 0) (pv 4) (fun _ _ => rfl)) pe_non (nomark _)) (pw_or1 (pt_cmpR op_notIn_seq (pe_ix ix_tup (pe_ix ix_list (pv 0) (pv 4) (fun _ _ => rfl)) pe_int (fun _ _ => rfl)) (pe_tup (pa_cons pe_str (pa_cons pe_str pa_nil))) (by with_unfolding_all rfl)))))) (pss_one (ps_ret (pe_tup (pa_cons pe_str pa_nil)))) pss_nil)
        (pss_cons (ps_expr (pe_bm PySem.F.plainAttrs_list PySem.F.slot_list_append PySem.F.type_list_append mt_append (pv 3) (pa_cons (pv 4) pa_nil)))
        (pss_one (ps_set (i := 4) scLW.nd rfl (Or.inl rfl) (pe_op op_add (pe_op op_add (pv 4) pe_int) (pe_ix ix_tup (pe_ix ix_list (pv 0) (pv 4) (fun _ _ => rfl)) pe_int (fun _ _ => rfl))))))))
      (pss_one (ps_ret (pe_ix ix_list (pe_lst (pa_cons (pe_tup (pa_cons pe_str pa_nil)) (pa_cons (pe_tup (pa_cons pe_str (pa_cons (pv 3) pa_nil))) pa_nil))) (pe_callTy call_intB0 rfl T.z_int PyProof.Rows.Boot.«int» (pa_cons (pe_and (pe_cmpR op_eq (pv 4) (pv 2) (nomark _)) (pe_one (pe_cmpR op_le (pv 4) (pe_callB call_len_seq rfl T.z_len PyProof.Rows.Boot.«len» (pa_cons (pv 0) pa_nil)) (nomark _)))) pa_nil)) (fun _ _ => rfl))))))), ?_⟩
    have ly := L.len
    have lw := L.good.len
    refine ⟨by show 0 ≤ sizeLine; decide, fun lg hlg => ?_⟩
    have s1 := Same.upd (o := .lst []) hlg
    have zlg : upd H lg (.lst []) lg = some (.lst (([] : List Int).map V.int)) := upd_same
    obtain ⟨H1, e1⟩ : ∃ H1, upd H lg (.lst []) = H1 := ⟨_, rfl⟩
    show gName 3 (V.ref lg) _ (upd H lg (.lst [])) _
    rw [e1] at s1 zlg ⊢
    clear e1
    have nll : l ≠ lg := ne_of_none L.at_ hlg
    have refu : Wk ws be a none → ∀ {Hy : Hp}, Same H Hy → 1 ≤ sizeLine ∧ ∀ p, Hy p = none → Q (.ref p) (upd Hy p (.tup [.str "refused"])) := fun hw {Hy} sy => ⟨by decide, fun p hp => k _ _ (sy.trans (Same.upd hp)) (by
      rw [show (stp ws (.walk a be)).1 = .ref by simp only [stp, wkR_eq hw]]
      exact ⟨p, rfl, upd_same⟩)⟩
    refine ⟨_, rfl, WI H l lg ws a be, ⟨_, a, [], rfl, rfl, s1, zlg, by simpa using a0, by omega, .inl ⟨fun r h => by cases r <;> exact h, abe, by omega⟩⟩, ?_⟩
    rintro n σ Hx ⟨a1, fs, rfl, rfl, sx, zl, hfl, h60, hst⟩
    have a10 : 0 ≤ a1 := by omega
    have Lx := L.same sx
    refine ⟨_, rfl, _, rfl, a1, be, rfl, rfl, _, rfl, ite2 (fun h => ?_) (fun h => ?_)⟩
    · have hlt := of_decide_eq_true h
      refine ⟨fun σ' H' => ∃ m', m' < (be - a1).toNat ∧ WI H l lg ws a be m' σ' H', fun _ _ h => h, ?_⟩
      refine seq_gen fun N hN => ?_
      refine ⟨_, rfl, _, rfl, l, ys, rfl, .inl (SqL.of Lx.at_), a1, _, rfl, rfl, _, rfl, ite2 (fun g => iteT (refu ?_ sx)) (fun g => ?_)⟩
      · have g := of_decide_eq_true g
        rw [ly] at g
        rcases hst with ⟨hw, _, _⟩ | ⟨hw, _⟩
        · exact hw none (.bad hlt (thk_out (by rw [lw]; omega)))
        · exact hw
      have g5 : a1 < 50 := by
        have : ¬ ((ys.length : Int) ≤ a1) := fun z => g (decide_eq_true z)
        rw [ly] at this
        omega
      have hw : ∀ r, Wk ws be a1 r → Wk ws be a (r.map (fs ++ ·)) := by
        rcases hst with ⟨hw, _, _⟩ | ⟨_, h | h⟩
        · exact hw
        · omega
        · omega
      obtain ⟨v1, w1, hv1, hw1, wv⟩ := Lx.get a10 g5
      have go : ∀ (t : Addr) (n : Int) (z : Str) (y : V), v1 = .ref t → Hx t = some (.tup [.str z, y, .int n]) → 0 ≤ n → n ≤ 6 → thk true ws a1 = (if a1 + n < 50 then some n else none) → ∀ {Hy : Hp}, Same Hx Hy → N [some (.ref l), some (.int a), some (.int be), some (.ref lg), some (.int a1)] Hy := by
        intro t n z y ev ht n0 n6 hth Hy sy
        refine hN _ _ ?_
        have zy := sy _ _ zl
        refine ⟨_, rfl, .inl ⟨rfl, _, SqL.of zy⟩, _, rfl, lg, _, _, rfl, rfl, zy, Nat.lt_of_le_of_lt (show (fs.map V.int).length ≤ 100 by rw [List.length_map]; omega) (by decide), ?_⟩
        have s2 : Same H (upd Hy lg (.lst (fs.map V.int ++ [V.int a1]))) := fun b u q => by rw [upd_ne (ne_of_none q hlg)]; exact sy _ _ (sx b u q)
        have z2 : upd Hy lg (.lst (fs.map V.int ++ [V.int a1])) lg = some (.lst ((fs ++ [a1]).map V.int)) := by rw [upd_same, List.map_append]; rfl
        have zt : upd Hy lg (.lst (fs.map V.int ++ [V.int a1])) t = some (.tup [.str z, y, .int n]) := by rw [upd_ne (ne_of ht zl (by intro z; cases z))]; exact sy _ _ ht
        have zl2 := (L.same s2).at_
        refine ⟨_, rfl, a1, 1, rfl, rfl, _, rfl, _, rfl, l, ys, a1, v1, rfl, rfl, SqL.of zl2, at_int a10 hv1, t, _, 2, .int n, ev, rfl, SqT.of zt, rfl, _, n, rfl, rfl, (be - (a1 + 1 + n)).toNat, by omega, a1 + 1 + n, fs ++ [a1], rfl, rfl, s2, z2, by rw [List.length_append, List.length_singleton]; omega, by omega, wk_more hw hlt g5 n0 hth⟩
      have hlen : (ws.length : Int) = 50 := by rw [lw]; rfl
      refine ⟨_, rfl, _, rfl, l, ys, a1, v1, rfl, rfl, SqL.of Lx.at_, at_int a10 hv1, rfl, _, rfl, ?_⟩
      cases w1 with
      | no =>
        obtain rfl : v1 = .non := wv
        exact ite2 (fun _ => iteT (refu (hw none (.bad hlt (thk_word a10 hw1 ⟨(fun _ _ z => nomatch z), (fun _ _ z => nomatch z)⟩))) sx)) (fun h => absurd (by simp) h)
      | num m =>
        obtain ⟨t, rfl, ht⟩ := wv
        refine ite2 (fun h => by simp at h) (fun _ => ⟨_, rfl, _, rfl, l, ys, a1, _, rfl, rfl, SqL.of Lx.at_, at_int a10 hv1, t, _, 0, _, rfl, rfl, SqT.of ht, rfl, by show 2 ≤ sizeLine; decide, fun tp htp => ⟨tp, _, rfl, .inr (SqT.of upd_same), rfl, rfl, _, rfl, ite2 (fun _ => refu (hw none (.bad hlt (thk_word a10 hw1 ⟨(fun _ _ z => nomatch z), (fun _ _ z => nomatch z)⟩))) (sx.trans (Same.upd htp))) (fun h => absurd (by kernel_rfl) h)⟩⟩)
      | ad m =>
        obtain ⟨t, rfl, ht⟩ := wv
        refine ite2 (fun h => by simp at h) (fun _ => ⟨_, rfl, _, rfl, l, ys, a1, _, rfl, rfl, SqL.of Lx.at_, at_int a10 hv1, t, _, 0, _, rfl, rfl, SqT.of ht, rfl, by show 2 ≤ sizeLine; decide, fun tp htp => ⟨tp, _, rfl, .inr (SqT.of upd_same), rfl, rfl, _, rfl, ite2 (fun _ => refu (hw none (.bad hlt (thk_word a10 hw1 ⟨(fun _ _ z => nomatch z), (fun _ _ z => nomatch z)⟩))) (sx.trans (Same.upd htp))) (fun h => absurd (by kernel_rfl) h)⟩⟩)
      | hd t' n =>
        obtain ⟨t, rfl, ht⟩ := wv
        obtain ⟨n0, n6⟩ := L.good.hd _ (List.mem_of_getElem? hw1) t' n rfl
        refine ite2 (fun h => by simp at h) (fun _ => ⟨_, rfl, _, rfl, l, ys, a1, _, rfl, rfl, SqL.of Lx.at_, at_int a10 hv1, t, _, 0, _, rfl, rfl, SqT.of ht, rfl, by show 2 ≤ sizeLine; decide, fun tp htp => ⟨tp, _, rfl, .inr (SqT.of upd_same), rfl, rfl, _, rfl, ite2 (fun h => absurd h (Bool.eq_false_iff.mp (by kernel_rfl))) (fun _ => go t n _ _ rfl ht n0 n6 ?_ (Same.upd htp))⟩⟩)
        unfold thk
        rw [if_pos a10, hw1, hlen]
      | mv b n =>
        obtain ⟨t, rfl, ht⟩ := wv
        obtain ⟨_, _, n0, n6⟩ := L.good.mv _ (List.mem_of_getElem? hw1) b n rfl
        refine ite2 (fun h => by simp at h) (fun _ => ⟨_, rfl, _, rfl, l, ys, a1, _, rfl, rfl, SqL.of Lx.at_, at_int a10 hv1, t, _, 0, _, rfl, rfl, SqT.of ht, rfl, by show 2 ≤ sizeLine; decide, fun tp htp => ⟨tp, _, rfl, .inr (SqT.of upd_same), rfl, rfl, _, rfl, ite2 (fun h => absurd h (Bool.eq_false_iff.mp (by kernel_rfl))) (fun _ => go t n _ _ rfl ht n0 n6 ?_ (Same.upd htp))⟩⟩)
        unfold thk
        rw [if_pos a10, hw1, hlen]
    · have hge : ¬ a1 < be := fun z => h (decide_eq_true z)
      refine ⟨by show 1 ≤ sizeLine; decide, fun t1 h1 => ⟨_, rfl, by show 2 ≤ sizeLine; decide, fun t2 h2 => ⟨by show 2 ≤ sizeLine; decide, fun p hp => ?_⟩⟩⟩
      have s4 := Same.upd (o := .lst [V.ref t1, V.ref t2]) hp
      have s3 := (Same.upd (o := .tup [V.str "told", V.ref lg]) h2).trans s4
      have s2 := sx.trans ((Same.upd (o := .tup [V.str "refused"]) h1).trans s3)
      have zt1 := s3 _ _ (show upd Hx t1 (.tup [V.str "refused"]) t1 = some (.tup [V.str "refused"]) from upd_same)
      have zt2 := s4 _ _ (show upd (upd Hx t1 (.tup [V.str "refused"])) t2 (.tup [V.str "told", V.ref lg]) t2 = some (.tup [V.str "told", V.ref lg]) from upd_same)
      have zlg2 := ((Same.upd (o := .tup [V.str "refused"]) h1).trans s3) _ _ zl
      have no : Wk ws be a none → RV H (upd (upd (upd Hx t1 (.tup [V.str "refused"])) t2 (.tup [V.str "told", V.ref lg])) p (.lst [V.ref t1, V.ref t2])) (.ref t1) (stp ws (.walk a be)).1 := fun hw => by
        rw [show (stp ws (.walk a be)).1 = .ref by simp only [stp, wkR_eq hw]]
        exact ⟨t1, rfl, zt1⟩
      refine ⟨_, rfl, _, rfl, rfl, _, rfl, ite2 (fun he => ?_) (fun hne => ?_)⟩
      · have he : a1 = be := by simpa [eqV] using he
        refine ⟨_, rfl, _, rfl, l, ys, rfl, .inl (SqL.of (L.same s2).at_), a1, _, rfl, rfl, _, rfl, ?_⟩
        rcases hst with ⟨hw, _, h50⟩ | ⟨hw, hb⟩
        · have hd : decide (a1 ≤ (ys.length : Int)) = true := decide_eq_true (by rw [ly]; exact h50)
          rw [hd]
          refine ⟨p, _, 1, .ref t2, rfl, rfl, SqL.of upd_same, rfl, k _ _ s2 ?_⟩
          have hw1 := hw (some []) (.done (by omega))
          rw [show (stp ws (.walk a be)).1 = .adrs (fs ++ []) by simp only [stp, wkR_eq hw1]; rfl]
          exact ⟨t2, .ref lg, rfl, zt2, lg, rfl, by rw [List.append_nil]; exact zlg2, hlg⟩
        · have hd : decide (a1 ≤ (ys.length : Int)) = false := decide_eq_false (by rw [ly]; omega)
          rw [hd]
          exact ⟨p, _, 0, .ref t1, rfl, rfl, SqL.of upd_same, rfl, k _ _ s2 (no hw)⟩
      · have hne : a1 ≠ be := fun z => hne (by simp [z, eqV])
        refine ⟨_, rfl, p, _, 0, .ref t1, rfl, rfl, SqL.of upd_same, rfl, k _ _ s2 (no ?_)⟩
        rcases hst with ⟨_, h1, _⟩ | ⟨hw, _⟩
        · omega
        · exact hw
end
end K34
end
section
set_option Elab.async false
set_option linter.all false
set_option maxRecDepth 100000
set_option maxHeartbeats 4000000
set_option exponentiation.threshold 4000
namespace K34
open PySem L2 LX

theorem dp_rv {H0 H1 H : Hp} {u v : V} {rs : Rs} (hu : RV H0 H u rs) (hv : RV H1 H v rs) (hl : ∀ fs, rs = .adrs fs → fs.length ≤ 100) : Dp 4 H u v := by
  cases rs with
  | ref =>
    obtain ⟨p, rfl, hp⟩ := hu
    obtain ⟨q, rfl, hq⟩ := hv
    refine dp_tup hp hq rfl (by show 1 ≤ 100; decide) (fun i x y hx hy => ?_)
    rw [hx] at hy
    cases hy
    rw [List.mem_singleton.mp (List.mem_of_getElem? hx)]
    exact dp_flat (.inr (.inr ⟨_, rfl⟩)) 3
  | non =>
    obtain ⟨p, x, rfl, hp, rfl⟩ := hu
    obtain ⟨q, y, rfl, hq, rfl⟩ := hv
    exact dp_pair hp hq (dp_flat (.inr (.inr ⟨_, rfl⟩)) 3) (dp_flat (.inl rfl) 3)
  | thing t wz =>
    obtain ⟨p, x, rfl, hp, q1, r1, z1, rfl, a1, b1, c1, _, l1⟩ := hu
    obtain ⟨q, y, rfl, hq, q2, r2, z2, rfl, a2, b2, c2, _, _⟩ := hv
    refine dp_pair hp hq (dp_flat (.inr (.inr ⟨_, rfl⟩)) 3) (dp_pair a1 a2 (dp_flat (.inr (.inl ⟨_, rfl⟩)) 2) (.inr ⟨r1, r2, z1, z2, rfl, rfl, .inr ⟨b1, b2⟩, c1.1.trans c2.1.symm, by rw [c2.1]; omega, fun i x y hx hy => ?_⟩))
    obtain ⟨wd, hw⟩ : ∃ wd, wz[i]? = some wd := ⟨_, List.getElem?_eq_getElem (by rw [← c1.1]; exact (List.getElem?_eq_some_iff.mp hx).1)⟩
    exact dp_wv (c1.2 i x wd hx hw) (c2.2 i y wd hy hw)
  | word wd =>
    obtain ⟨p, x, rfl, hp, hx⟩ := hu
    obtain ⟨q, y, rfl, hq, hy⟩ := hv
    exact dp_pair hp hq (dp_flat (.inr (.inr ⟨_, rfl⟩)) 3) ((dp_wv hx hy).up.up)
  | int z =>
    obtain ⟨p, x, rfl, hp, rfl⟩ := hu
    obtain ⟨q, y, rfl, hq, rfl⟩ := hv
    exact dp_pair hp hq (dp_flat (.inr (.inr ⟨_, rfl⟩)) 3) (dp_flat (.inr (.inl ⟨_, rfl⟩)) 3)
  | adrs fs =>
    obtain ⟨p, x, rfl, hp, r1, rfl, b1, _⟩ := hu
    obtain ⟨q, y, rfl, hq, r2, rfl, b2, _⟩ := hv
    refine dp_pair hp hq (dp_flat (.inr (.inr ⟨_, rfl⟩)) 3) (.inr ⟨r1, r2, _, _, rfl, rfl, .inr ⟨b1, b2⟩, rfl, by rw [List.length_map]; exact hl fs rfl, fun i x y hx hy => ?_⟩)
    rw [hx] at hy
    cases hy
    obtain ⟨z, _, rfl⟩ := List.mem_map.mp (List.mem_of_getElem? hx)
    exact dp_flat (.inr (.inl ⟨_, rfl⟩)) 2
theorem RV.but {H0 H H' : Hp} {v : V} {rs : Rs} {c : Addr} {zs : List V} {u0 : HO} (h : RV H0 H v rs) (b : But c H H') (hc : H c = some (.lst zs)) (h0 : H0 c = some u0) : RV H0 H' v rs := by
  have t := b.tups hc
  cases rs with
  | ref => obtain ⟨p, e, hp⟩ := h; exact ⟨p, e, t _ _ hp⟩
  | non => obtain ⟨p, u, e, hp, a⟩ := h; exact ⟨p, u, e, t _ _ hp, a⟩
  | thing tt wz =>
    obtain ⟨p, u, e, hp, q, r, ws, e1, e2, e3, e4, e5, e6⟩ := h
    exact ⟨p, u, e, t _ _ hp, q, r, ws, e1, t _ _ e2, b _ _ (Ne.symm (ne_of_none h0 e5)) e3, e4.keep t, e5, e6⟩
  | word wd => obtain ⟨p, u, e, hp, a⟩ := h; exact ⟨p, u, e, t _ _ hp, WV.keep a t⟩
  | int z => obtain ⟨p, u, e, hp, a⟩ := h; exact ⟨p, u, e, t _ _ hp, a⟩
  | adrs fs =>
    obtain ⟨p, u, e, hp, r, e1, e2, e3⟩ := h
    exact ⟨p, u, e, t _ _ hp, r, e1, b _ _ (Ne.symm (ne_of_none h0 e3)) e2, e3⟩
theorem wk_tot {ws : List Wc} {be : Int} (g : Good ws) : ∀ (n : Nat) (a : Int), (be - a).toNat = n → ∃ r, Wk ws be a r ∧ ∀ fs, r = some fs → fs.length ≤ n := by
  intro n
  induction n using Nat.strongRecOn with
  | _ n ih =>
    intro a hn
    by_cases h : a < be
    · cases e : thk true ws a with
      | none => exact ⟨none, .bad h e, fun fs z => by cases z⟩
      | some k =>
        obtain ⟨k1, k2, k3, k4⟩ := thk_some e g
        by_cases h2 : a + k + 1 ≤ be
        · obtain ⟨r, hr, hl⟩ := ih (be - (a + k + 1)).toNat (by omega) (a + k + 1) rfl
          refine ⟨_, .step h e h2 hr, fun fs z => ?_⟩
          cases r with
          | none => cases z
          | some gs =>
            obtain rfl : a :: gs = fs := Option.some.inj z
            have := hl gs rfl
            rw [List.length_cons]
            omega
        · exact ⟨none, .over h e (by omega), fun fs z => by cases z⟩
    · exact ⟨some [], .done (by omega), fun fs z => by obtain rfl : [] = fs := Option.some.inj z; exact Nat.zero_le _⟩
theorem walk_len {ws : List Wc} {a be : Int} (g : Good ws) (a0 : 0 ≤ a) (b1 : be ≤ 100) : ∀ fs, (stp ws (.walk a be)).1 = .adrs fs → fs.length ≤ 100 := by
  intro fs h
  obtain ⟨r, hr, hl⟩ := wk_tot (be := be) g _ a rfl
  simp only [stp, wkR_eq hr] at h
  cases r with
  | none => cases h
  | some gs =>
    have e : gs = fs := by injection h
    have := hl gs rfl
    rw [← e]
    omega
/-- deeds that only read -/
def RO : Dd → Prop
  | .thing _ => True
  | .field _ _ => True
  | .wh _ => True
  | _ => False
theorem RO.st {ws : List Wc} {dd : Dd} (h : RO dd) : (stp ws dd).2 = ws ∧ NoWalk dd ∧ (∀ c, Free c dd) ∧ Okd ws dd ∧ ∀ fs, (stp ws dd).1 = .adrs fs → fs.length ≤ 100 := by
  cases dd with
  | thing a =>
    refine ⟨?_, True.intro, fun _ => True.intro, True.intro, fun fs e => ?_⟩
    · simp only [stp]; cases thg ws a <;> rfl
    · simp only [stp] at e; cases q : thg ws a <;> rw [q] at e <;> cases e
  | field a k =>
    refine ⟨?_, True.intro, fun _ => True.intro, True.intro, fun fs e => ?_⟩
    · simp only [stp]
      cases thg ws a with
      | none => rfl
      | some p =>
        simp only
        by_cases h : 0 ≤ k ∧ k < p.2
        · rw [if_pos h]; cases ws[(a + 1 + k).toNat]? <;> rfl
        · rw [if_neg h]
    · simp only [stp] at e
      cases q : thg ws a with
      | none => rw [q] at e; cases e
      | some p =>
        rw [q] at e
        simp only at e
        by_cases h : 0 ≤ k ∧ k < p.2
        · rw [if_pos h] at e
          cases q2 : ws[(a + 1 + k).toNat]? <;> rw [q2] at e <;> cases e
        · rw [if_neg h] at e; cases e
  | wh a =>
    refine ⟨?_, True.intro, fun _ => True.intro, True.intro, fun fs e => ?_⟩
    · simp only [stp]; split <;> rfl
    · simp only [stp] at e
      by_cases h : 0 ≤ a ∧ a < 50
      · rw [if_pos h] at e; cases e
      · rw [if_neg h] at e; cases e
  | _ => exact h.elim
theorem walk_st {ws : List Wc} {a be : Int} : (stp ws (.walk a be)).2 = ws := by
  simp only [stp]; cases wkR ws be a <;> rfl
theorem cut_ints (ns : List Int) (lo hi : Option Int) : ∃ cs : List Int, cutV (ns.map V.int) lo hi = cs.map V.int ∧ cs.length ≤ ns.length ∧ ∀ c ∈ cs, c ∈ ns := by
  refine ⟨(ns.drop (HT.sIx ns.length 0 lo)).take (HT.sIx ns.length ns.length hi - HT.sIx ns.length 0 lo), ?_, ?_, fun c hc => List.mem_of_mem_drop (List.mem_of_mem_take hc)⟩
  · unfold cutV
    rw [List.length_map, List.map_take, List.map_drop]
  · rw [List.length_take, List.length_drop]
    omega
section
variable {P : Program} {w : World} {K : PySem.W.Frag} {mg : Str → Option Value} {base : Heap} {CH d0 fXI : Addr} {CM fMI fSz fAt fPut fCp fLk : Addr}

/-- memory and model, and what else stood there -/
structure EJ (CM : Addr) (H0 H : Hp) (m c dx l : Addr) (xs ys : List V) (ws : List Wc) : Prop where
  mw : MW CM H m c dx xs ws
  ml : ML H l ys ws
  bt : ∀ b u, b ≠ c → b ≠ l → H0 b = some u → H b = some u
theorem EJ.same {H0 H H' : Hp} {m c dx l : Addr} {xs ys : List V} {ws : List Wc} (J : EJ CM H0 H m c dx l xs ys ws) (s : Same H H') : EJ CM H0 H' m c dx l xs ys ws := ⟨J.mw.same s, J.ml.same s, fun b u n1 n2 q => s _ _ (J.bt b u n1 n2 q)⟩
def spEw (CM : Addr) : Sp := fun vs H Q _ => ∃ m c dx xs ws l ys kn, ∃ ks : List Int, vs = [.ref m, .ref l, .ref kn] ∧ MW CM H m c dx xs ws ∧ ML H l ys ws ∧ H kn = some (.lst (ks.map V.int)) ∧ (∀ x ∈ ks, (0 : Int) ≤ x ∧ x ≤ 100) ∧ c ≠ l ∧ kn ≠ c ∧ kn ≠ l ∧
  ∀ xs' ys' H', EJ CM H H' m c dx l xs' ys' ws → Q (.bl true) H'
abbrev NEw : List Str := ["memory", "model", "known", "a", "deed", "first", "at", "behind", "told"]
theorem scEw : FnScope NEw ["memory", "model", "known"] (defScope sEnds) := ⟨rfl, rfl, rfl, by decide +kernel, rfl, by decide +kernel, by decide +kernel⟩
theorem ok_ew {f fDn fDu fAl fLW : Addr} {fd fdDn fdDu fdAl fdLW : FuncData} (F : Fun K "_law_ends_well" "_law_ends_well" sEnds f fd) (T : Txt K mg CH d0 fXI)
    (GDn : FnOk P w K mg base (CXE P w) 10 fDn fdDn ["memory", "deed"] (spDone CM)) (mDn : mg "_law_done" = some (.ref fDn)) (kDn : PySem.W.keepIn K (.ref fDn) = true) (bDn : Binds K fdDn ["memory", "deed"] [])
    (GDu : FnOk P w K mg base (CXE P w) 2 fDu fdDu ["model", "deed"] spDue) (mDu : mg "_law_due" = some (.ref fDu)) (kDu : PySem.W.keepIn K (.ref fDu) = true) (bDu : Binds K fdDu ["model", "deed"] [])
    (GAl : FnOk P w K mg base (CXE P w) 5 fAl fdAl ["found", "due"] (spAl 4)) (mAl : mg "_law_alike" = some (.ref fAl)) (kAl : PySem.W.keepIn K (.ref fAl) = true) (bAl : Binds K fdAl ["found", "due"] [])
    (GLW : FnOk P w K mg base (CXE P w) 1 fLW fdLW ["model", "first", "behind"] spLWalk) (mLW : mg "_law_walk" = some (.ref fLW)) (kLW : PySem.W.keepIn K (.ref fLW) = true) (bLW : Binds K fdLW ["model", "first", "behind"] []) : FnOk P w K mg base (CXE P w) 11 f fd ["memory", "model", "known"] (spEw CM) := by
  refine F.okE scEw (fun vs H Q E h => ?_) (fun cdv A outer s H vs Q E hr h => ?_)
  · obtain ⟨m, c, dx, xs, ws, l, ys, kn, ks, rfl, _⟩ := h
    rfl
  · obtain ⟨m, c, dx, xs, ws, l, ys, kn, ks, rfl, W, L, hk, kb, ncl, nkc, nkl, k⟩ := h
    refine ⟨_, PSs.nox (pss_cons (ps_for PassesOwn.never rfl (pi_range2 rfl T.z_range (pa_cons (pe_un un_neg pe_int) (pa_cons pe_int pa_nil))) (pg_name (i := 3) scEw.nd rfl (Or.inr rfl))
        (pss_one (ps_for PassesOwn.never rfl (pi_list (pe_op op_catS (pe_lst (pa_cons (pe_tup (pa_cons pe_str (pa_cons (pv 3) pa_nil))) (pa_cons (pe_tup (pa_cons pe_str (pa_cons (pv 3) pa_nil))) pa_nil))) (pe_comp (cl := [("a", s.heap.objs.size + 1)]) (x := "k") (idx := [3]) (NC := ["k", "a"]) ?co1 rfl (pi_range2 rfl T.z_range (pa_cons (pe_un un_neg pe_int) (pa_cons pe_int pa_nil))) (fun C fp s₀ H₀ => (pe_tup (pa_cons pe_str (pa_cons (pv 1) (pa_cons (pv 0) pa_nil)))))))) (pg_name (i := 4) scEw.nd rfl (Or.inl rfl))
          (pss_one (ps_if (pt_not (pt_val (xe_call GAl (hr.mono (by decide)) rfl mAl kAl bAl .nil passN (pa_cons (xe_call GDn (hr.mono (by decide)) rfl mDn kDn bDn .nil passN (pa_cons (pv 0) (pa_cons (pv 4) pa_nil))) (pa_cons (xe_call GDu (hr.mono (by decide)) rfl mDu kDu bDu .nil passN (pa_cons (pv 1) (pa_cons (pv 4) pa_nil))) pa_nil)))))
            (pss_one (ps_ret pe_bl))
            pss_nil)))))
      (pss_cons (ps_for PassesOwn.never rfl (pi_list (pe_slice sl_list (pv 2) po_none (po_some pe_int))) (pg_name (i := 5) scEw.nd rfl (Or.inl rfl))
        (pss_cons (ps_set (i := 6) scEw.nd rfl (Or.inl rfl) (pe_callB (call_min2 rfl) rfl T.z_min PyProof.Rows.Boot.«min» (pa_cons (pv 5) (pa_cons pe_int pa_nil))))
        (pss_one (ps_for PassesOwn.never rfl (pi_list (pe_lst (pa_cons (pv 6) (pa_cons (pe_op op_add (pv 6) pe_int) (pa_cons (pe_op op_add (pv 6) pe_int) (pa_cons pe_int pa_nil)))))) (pg_name (i := 7) scEw.nd rfl (Or.inl rfl))
          (pss_cons (ps_set (i := 8) scEw.nd rfl (Or.inl rfl) (xe_call GDn (hr.mono (by decide)) rfl mDn kDn bDn .nil passN (pa_cons (pv 0) (pa_cons (pe_tup (pa_cons pe_str (pa_cons (pv 6) (pa_cons (pv 7) pa_nil)))) pa_nil))))
          (pss_one (ps_if (pt_not (pt_val (xe_call GAl (hr.mono (by decide)) rfl mAl kAl bAl .nil passN (pa_cons (pv 8) (pa_cons (xe_call GLW (hr.mono (by decide)) rfl mLW kLW bLW .nil passN (pa_cons (pv 1) (pa_cons (pv 6) (pa_cons (pv 7) pa_nil)))) pa_nil)))))
            (pss_one (ps_ret pe_bl))
            pss_nil)))))))
      (pss_one (ps_ret pe_bl)))), ?_⟩
    case co1 =>
      exact comp_ok (sc := defScope sEnds) (N := NEw) (ns := ["a"]) rfl rfl rfl (by decide +kernel) rfl rfl (by
        intro q hq
        rw [List.mem_singleton.mp hq]
        rfl)

    have J0 : EJ CM H H m c dx l xs ys ws := ⟨W, L, fun _ _ _ _ q => q⟩
    refine ⟨1, rfl, -1, 51, rfl, ⟨by decide, by decide, by decide, by decide⟩, for_range (lo := -1) (n := 52) (fun i σ Hx => ∃ xs ys v3 v4, σ = [some (.ref m), some (.ref l), some (.ref kn), v3, v4, none, none, none, none] ∧ EJ CM H Hx m c dx l xs ys ws) ⟨xs, ys, none, none, rfl, J0⟩ ?_ ?_⟩
    · rintro i σ Hx hi ⟨xs, ys, v3, v4, rfl, J⟩
      obtain ⟨a, ea⟩ : ∃ a : Int, -1 + (i : Int) = a := ⟨_, rfl⟩
      have fa : Few a := ⟨by omega, by omega⟩
      show gName 3 (V.int (-1 + (i : Int))) _ _ _
      rw [ea]
      clear ea
      refine ⟨_, rfl, by show 2 ≤ sizeLine; decide, fun t1 h1 => ⟨_, rfl, by show 2 ≤ sizeLine; decide, fun t2 h2 => ⟨by show 2 ≤ sizeLine; decide, fun p1 hp1 => ⟨1, rfl, -1, 7, rfl, ⟨by decide, by decide, by decide, by decide⟩, fun D hD => ?_⟩⟩⟩⟩
      have s1 := Same.upd (o := .tup [V.str "thing", V.int a]) h1
      have s2 := Same.upd (o := .tup [V.str "where", V.int a]) h2
      have s3 := Same.upd (o := .lst [V.ref t1, V.ref t2]) hp1
      have z1 := (s2.trans s3) _ _ (upd_same (H := Hx) (a := t1) (o := .tup [V.str "thing", V.int a]))
      have z2 := s3 _ _ (upd_same (H := upd Hx t1 (.tup [V.str "thing", V.int a])) (a := t2) (o := .tup [V.str "where", V.int a]))
      have z3 : upd (upd (upd Hx t1 (.tup [V.str "thing", V.int a])) t2 (.tup [V.str "where", V.int a])) p1 (.lst [V.ref t1, V.ref t2]) p1 = some (.lst [V.ref t1, V.ref t2]) := upd_same
      have J1 := J.same ((s1.trans s2).trans s3)
      show CompTo (Itr (-1) 8) D _ _ _ _
      obtain ⟨H1, e1⟩ : ∃ H1, upd (upd (upd Hx t1 (.tup [V.str "thing", V.int a])) t2 (.tup [V.str "where", V.int a])) p1 (.lst [V.ref t1, V.ref t2]) = H1 := ⟨_, rfl⟩
      rw [e1] at z1 z2 z3 J1 hD ⊢
      clear e1 s3 s2 s1 hp1 h2 h1
      refine comp_range (lo := -1) (n := 8) (fun i zs H2 => zs.length = i ∧ Same H1 H2 ∧ H2 D = some (.lst zs) ∧ ∀ x ∈ zs, ∃ q kk, x = .ref q ∧ H2 q = some (.tup [.str "field", .int a, .int kk]) ∧ Few kk) ⟨rfl, Same.upd hD, upd_same, fun x hx => by cases hx⟩ (fun i zs H2 hi ⟨e1, _, z, _⟩ => ⟨z, e1⟩) (by decide) (fun j zs H2 hj ⟨e1, s2, z, hz⟩ => ?_) (fun zs H2 ⟨e1, s2, z, hz⟩ => ?_)
      · refine ⟨_, rfl, _, rfl, by show 3 ≤ sizeLine; decide, fun q hq => ⟨Same.upd hq _ _ z, by rw [List.length_append, e1]; rfl, fun b u g => by rw [upd_ne (ne_of_none g hD)]; exact Same.upd hq _ _ (s2 b u g), upd_same, fun x hx => ?_⟩⟩
        have nq : ∀ {b : Addr} {xs : List V}, upd H2 q (.tup [.str "field", .int a, .int (-1 + (j : Int))]) b = some (.tup xs) → upd (upd H2 q (.tup [.str "field", .int a, .int (-1 + (j : Int))])) D (.lst (zs ++ [V.ref q])) b = some (.tup xs) := fun {b xs} g => by
          rw [upd_ne (ne_of g (Same.upd hq _ _ z) (by intro z; cases z))]
          exact g
        rcases List.mem_append.mp hx with g | g
        · obtain ⟨q', kk, e, hq', fk⟩ := hz x g
          exact ⟨q', kk, e, nq (Same.upd hq _ _ hq'), fk⟩
        · rw [List.mem_singleton.mp g]
          exact ⟨q, _, rfl, nq upd_same, ⟨by omega, by omega⟩⟩
      · refine ⟨p1, D, _, _, rfl, rfl, SqL.of (s2 _ _ z3), SqL.of z, Nat.le_trans (show 2 + zs.length ≤ 100 by omega) sz_len, fun p hp => ?_⟩
        have s4 := s2.trans (Same.upd (o := .lst ([V.ref t1, V.ref t2] ++ zs)) hp)
        have J2 := J1.same s4
        have hds : ∀ x ∈ [V.ref t1, V.ref t2] ++ zs, ∃ q dd, x = .ref q ∧ DV (upd H2 p (.lst ([V.ref t1, V.ref t2] ++ zs))) q dd ∧ RO dd := fun x hx => by
          rcases List.mem_append.mp hx with g | g
          · rcases List.mem_cons.mp g with rfl | g
            · exact ⟨t1, .thing a, rfl, ⟨s4 _ _ z1, fa⟩, True.intro⟩
            · rw [List.mem_singleton.mp g]
              exact ⟨t2, .wh a, rfl, ⟨s4 _ _ z2, fa⟩, True.intro⟩
          · obtain ⟨q', kk, e, hq', fk⟩ := hz x g
            exact ⟨q', .field a kk, e, ⟨Same.upd hp _ _ hq', fa, fk⟩, True.intro⟩
        have npc : p ≠ c := Ne.symm (ne_of_none (s2 _ _ J1.mw.mem.2) hp)
        have npl : p ≠ l := Ne.symm (ne_of_none (s2 _ _ J1.ml.at_) hp)
        have zp : upd H2 p (.lst ([V.ref t1, V.ref t2] ++ zs)) p = some (.lst ([V.ref t1, V.ref t2] ++ zs)) := upd_same
        obtain ⟨H3, e3⟩ : ∃ H3, upd H2 p (.lst ([V.ref t1, V.ref t2] ++ zs)) = H3 := ⟨_, rfl⟩
        obtain ⟨ds, eds⟩ : ∃ ds, [V.ref t1, V.ref t2] ++ zs = ds := ⟨_, rfl⟩
        rw [eds] at e3 zp hds J2
        rw [e3] at J2 hds zp
        rw [eds, e3]
        refine ⟨p, rfl, ⟨_, SqL.of zp⟩, for_list (K := K) (a := p) (xs := ds) (fun j σ Hy => ∃ xs ys v4, σ = [some (.ref m), some (.ref l), some (.ref kn), some (.int a), v4, none, none, none, none] ∧ EJ CM H Hy m c dx l xs ys ws ∧ Hy p = some (.lst ds) ∧ ∀ x ∈ ds, ∃ q dd, x = .ref q ∧ DV Hy q dd ∧ RO dd) ⟨xs, ys, v4, rfl, J2, zp, hds⟩ (fun j σ Hy _ ⟨_, _, _, _, _, z, _⟩ => SqL.of z) ?_ ?_⟩
        · rintro j x σ Hy hj ⟨xs, ys, v4, rfl, Jy, zy, hy⟩
          obtain ⟨q, dd, rfl, hdv, ro⟩ := hy x (List.mem_of_getElem? hj)
          obtain ⟨e2, nw, fr, ok, hl⟩ := ro.st (ws := ws)
          refine ⟨_, rfl, _, rfl, m, c, dx, xs, ws, q, dd, rfl, Jy.mw, hdv, fr c, ok, fun v xs' H4 W4 b4 rv => ?_⟩
          rw [e2] at W4
          have L4 := Jy.ml.but b4 Jy.mw.mem.2 (Ne.symm ncl)
          have D4 := hdv.but b4 Jy.mw.mem.2 (fr c)
          refine ⟨_, rfl, _, rfl, l, ys, ws, q, dd, rfl, L4, D4, fr l, ok, nw, fun u ys' H5 L5 b5 ru => ?_⟩
          rw [e2] at L5
          have rv5 := rv.but b5 L4.at_ Jy.ml.at_
          refine ⟨v, u, rfl, dp_rv rv5 ru hl, fun H6 s6 => ⟨true, rfl, iteF ⟨xs', ys', _, rfl, ?_⟩⟩⟩
          have W5 := W4.but b5 L4.at_ ncl
          refine ⟨⟨W5.same s6, L5.same s6, fun b u n1 n2 g => s6 _ _ (b5 _ _ n2 (b4 _ _ n1 (Jy.bt b u n1 n2 g)))⟩, s6 _ _ (b5 _ _ npl (b4 _ _ npc zy)), fun x hx => ?_⟩
          obtain ⟨q, dd, e, hdv, ro⟩ := hy x hx
          obtain ⟨_, _, fr, _⟩ := ro.st (ws := ws)
          exact ⟨q, dd, e, ((hdv.but b4 Jy.mw.mem.2 (fr c)).but b5 L4.at_ (fr l)).same s6, ro⟩
        · rintro σ Hy ⟨xs, ys, v4, rfl, Jy, _⟩
          exact ⟨xs, ys, _, _, rfl, Jy⟩
    · rintro σ Hx ⟨xs, ys, v3, v4, rfl, J⟩
      have hkx := J.bt _ _ nkc nkl hk
      obtain ⟨cs, ec, cl, cm⟩ := cut_ints ks none (some 9)
      refine ⟨_, rfl, _, rfl, kn, _, rfl, SqL.of hkx, fun sl hsl => ?_⟩
      rw [ec]
      have nsc : sl ≠ c := Ne.symm (ne_of_none J.mw.mem.2 hsl)
      have nsl : sl ≠ l := Ne.symm (ne_of_none J.ml.at_ hsl)
      refine ⟨sl, rfl, ⟨_, SqL.of upd_same⟩, for_list (K := K) (a := sl) (xs := cs.map V.int) (fun j σ Hy => ∃ xs ys v5 v6 v7 v8, σ = [some (.ref m), some (.ref l), some (.ref kn), v3, v4, v5, v6, v7, v8] ∧ EJ CM H Hy m c dx l xs ys ws ∧ Hy sl = some (.lst (cs.map V.int))) ⟨xs, ys, none, none, none, none, rfl, J.same (Same.upd hsl), upd_same⟩ (fun j σ Hy _ ⟨_, _, _, _, _, _, _, _, z⟩ => SqL.of z) ?_ ?_⟩
      · rintro j x σ Hy hj ⟨xs, ys, v5, v6, v7, v8, rfl, Jy, zy⟩
        obtain ⟨z, hz, rfl⟩ := List.mem_map.mp (List.mem_of_getElem? hj)
        have hb := kb z (cm z hz)
        refine ⟨_, rfl, _, _, rfl, ?_⟩
        obtain ⟨at_, eat, h0, h49⟩ : ∃ at_ : Int, (if (49 : Int) < z then 49 else z) = at_ ∧ 0 ≤ at_ ∧ at_ ≤ 49 := by
          by_cases g : (49 : Int) < z
          · exact ⟨49, if_pos g, by decide, by decide⟩
          · exact ⟨z, if_neg g, hb.1, by omega⟩
        show gName 6 (V.int (if (49 : Int) < z then 49 else z)) _ _ _
        rw [eat]
        clear eat
        refine ⟨_, rfl, _, rfl, at_, 1, rfl, rfl, _, rfl, at_, 5, rfl, rfl, by show 4 ≤ sizeLine; decide, fun p hp => ?_⟩
        have npc : p ≠ c := Ne.symm (ne_of_none Jy.mw.mem.2 hp)
        have npl : p ≠ l := Ne.symm (ne_of_none Jy.ml.at_ hp)
        have nps : p ≠ sl := Ne.symm (ne_of_none zy hp)
        refine ⟨p, rfl, ⟨_, SqL.of upd_same⟩, for_list (K := K) (a := p) (xs := [V.int at_, V.int (at_ + 1), V.int (at_ + 5), V.int 50]) (fun i σ Hz => ∃ xs ys v7 v8, σ = [some (.ref m), some (.ref l), some (.ref kn), v3, v4, some (.int z), some (.int at_), v7, v8] ∧ EJ CM H Hz m c dx l xs ys ws ∧ Hz sl = some (.lst (cs.map V.int)) ∧ Hz p = some (.lst [V.int at_, V.int (at_ + 1), V.int (at_ + 5), V.int 50])) ⟨xs, ys, _, _, rfl, Jy.same (Same.upd hp), Same.upd hp _ _ zy, upd_same⟩ (fun j σ Hy _ ⟨_, _, _, _, _, _, _, z⟩ => SqL.of z) ?_ ?_⟩
        · rintro i x σ Hz hi ⟨xs, ys, v7, v8, rfl, Jz, zs, zp⟩
          obtain ⟨be, rfl, b0, b1⟩ : ∃ be : Int, x = .int be ∧ at_ ≤ be ∧ be ≤ 60 := by
            have hx := List.mem_of_getElem? hi
            simp only [List.mem_cons, List.not_mem_nil, or_false] at hx
            rcases hx with rfl | rfl | rfl | rfl
            · exact ⟨_, rfl, by omega, by omega⟩
            · exact ⟨_, rfl, by omega, by omega⟩
            · exact ⟨_, rfl, by omega, by omega⟩
            · exact ⟨_, rfl, by omega, by omega⟩
          refine ⟨_, rfl, _, rfl, _, rfl, by show 3 ≤ sizeLine; decide, fun q hq => ?_⟩
          have J1 := Jz.same (Same.upd (o := .tup [V.str "walk", V.int at_, V.int be]) hq)
          refine ⟨m, c, dx, xs, ws, q, .walk at_ be, rfl, J1.mw, ⟨upd_same, ⟨by omega, by omega⟩, ⟨by omega, by omega⟩⟩, True.intro, True.intro, fun v xs' H4 W4 b4 rv => ?_⟩
          rw [walk_st] at W4
          have L4 := J1.ml.but b4 J1.mw.mem.2 (Ne.symm ncl)
          refine ⟨_, rfl, _, rfl, _, rfl, _, rfl, l, ys, ws, at_, be, rfl, L4, h0, h49, b0, b1, fun u H5 s5 ru => ?_⟩
          refine ⟨v, u, rfl, dp_rv (rv.same s5) ru (walk_len L4.good h0 (by omega)), fun H6 s6 => ⟨true, rfl, iteF ⟨xs', ys, _, _, rfl, ?_⟩⟩⟩
          have s56 := s5.trans s6
          refine ⟨⟨W4.same s56, L4.same s56, fun b u n1 n2 g => s56 _ _ (b4 _ _ n1 (J1.bt b u n1 n2 g))⟩, s56 _ _ (b4 _ _ nsc (Same.upd hq _ _ zs)), s56 _ _ (b4 _ _ npc (Same.upd hq _ _ zp))⟩
        · rintro σ Hz ⟨xs, ys, v7, v8, rfl, Jz, zs, _⟩
          exact ⟨xs, ys, _, _, _, _, rfl, Jz, zs⟩
      · rintro σ Hy ⟨xs, ys, v5, v6, v7, v8, rfl, Jy, _⟩
        exact k xs ys Hy Jy
end
end K34
end
section
set_option Elab.async false
set_option linter.all false
set_option maxRecDepth 100000
set_option maxHeartbeats 4000000
set_option exponentiation.threshold 4000
namespace K34
open PySem L2 LX
section
variable {P : Program} {w : World} {K : PySem.W.Frag} {mg : Str → Option Value} {base : Heap} {CH d0 fXI : Addr} {CM fMI fSz fAt fPut fCp fLk : Addr}
/-- copy_of: another memory with the same words -/
def spCp (CM : Addr) : Sp := fun vs H Q _ => ∃ m c dx xs, vs = [.ref m] ∧ Mem CM H m c dx xs ∧ xs.length ≤ 1000 ∧ ∀ o c' dx' H', Same H H' → H c' = none → H o = none → c' ≠ o → Mem CM H' o c' dx' xs → Q (.ref o) H'
theorem ok_cp {f : Addr} {fd fdI : FuncData} (F : Fun K "copy_of" "Memory.copy_of" sCopy f fd) (T : Txt K mg CH d0 fXI) (M : MemC K CM fMI fSz fAt fPut fCp fLk) (mM : mg "Memory" = some (.ref CM)) (GI : FnOk P w K mg base (CXE P w) 1 fMI fdI ["self", "size"] (spMI CM)) (bI : Binds K fdI ["self", "size"] []) :
    FnOk P w K mg base (CXE P w) 3 f fd ["self"] (spCp CM) := by
  refine F.okE (N := ["self", "other"]) ⟨rfl, rfl, rfl, by decide +kernel, rfl, by decide +kernel, by decide +kernel⟩ (fun vs H Q E h => ?_) (fun cdv A outer s H vs Q E hr h => ?_)
  · obtain ⟨m, c, dx, xs, rfl, _⟩ := h
    rfl
  · obtain ⟨m, c, dx, xs, rfl, ⟨hm, hc⟩, hz, k⟩ := h
    refine ⟨_, pss_cons (ps_set (i := 1) (show (["self", "other"] : List Str).Nodup by decide +kernel) rfl (Or.inl rfl) (pe_make M.mke GI hr rfl mM bI .nil (passE fun _ _ _ q => q) (pa_cons (pe_callB call_len_seq rfl T.z_len PyProof.Rows.Boot.«len» (pa_cons (pe_fld (pv 0) rfl) pa_nil)) pa_nil)))
      (pss_cons (ps_fld (pv 1) (pe_callTy call_list_of rfl T.z_list PyProof.Rows.Boot.«list» (pa_cons (pe_fld (pv 0) rfl) pa_nil)) rfl) (pss_one (ps_ret (pv 1)))), ?_⟩
    refine ⟨_, rfl, m, CM, dx, _, .ref c, rfl, hm, M.c, M.n, rfl, c, xs, rfl, .inl (SqL.of hc), fun o dx' ho hdx nd => ?_⟩
    have n1 : m ≠ o := ne_of_none hm ho
    have n2 : m ≠ dx' := ne_of_none hm hdx
    have n3 : c ≠ o := ne_of_none hc ho
    have n4 : c ≠ dx' := ne_of_none hc hdx
    refine ⟨o, dx', (xs.length : Int), rfl, upd_same, by omega, by omega, fun c1 H1 b1 hn1 hc1 ho1 => ⟨rfl, ?_⟩⟩
    have sm : Same H H1 := fun b u q => b1 b u (ne_of_none q ho) (by rw [upd_ne (ne_of_none q ho), upd_ne (ne_of_none q hdx)]; exact q)
    refine ⟨_, rfl, m, CM, dx, _, .ref c, rfl, sm _ _ hm, M.c, M.n, rfl, c, xs, rfl, .inl (SqL.of (sm _ _ hc)), fun l hl => ?_⟩
    have no : o ≠ l := ne_of_none ho1 hl
    have hlH : H l = none := by
      cases q : H l with
      | none => rfl
      | some u => rw [sm _ _ q] at hl; cases hl
    refine ⟨_, rfl, o, CM, dx', _, rfl, (by rw [upd_ne no]; exact ho1), M.c, M.n, by show 1 < 1000; decide, _, rfl, ?_⟩
    refine k o l dx' _ (fun b u q => ?_) hlH ho (Ne.symm no) ⟨upd_same, by rw [upd_ne (Ne.symm no)]; exact upd_same⟩
    rw [upd_ne (ne_of_none q ho), upd_ne (ne_of_none q hlH)]
    exact sm b u q

theorem if_gen {t : TT} {b e : TS} {D : Ends} {σ : St} {H : Hp} (h : ∀ B : St → Hp → Prop, (∀ σ' H', b D σ' H' → B σ' H') → t σ H fun c H1 => if c = true then B σ H1 else e D σ H1) : tIfS t b e D σ H := h (b D) (fun _ _ q => q)
theorem no50 {H0 : Hp} : Rel H0 (List.replicate 50 V.non) (List.replicate 50 Wc.no) ∧ Good (List.replicate 50 Wc.no) := by
  refine ⟨⟨rfl, fun i v wd h1 h2 => ?_⟩, rfl, fun wd hw t n e => ?_, fun wd hw t n e => ?_, fun _ => 0, fun i b n e => ?_⟩
  · have e1 := List.eq_of_mem_replicate (List.mem_of_getElem? h1)
    have e2 := List.eq_of_mem_replicate (List.mem_of_getElem? h2)
    subst e1 e2
    rfl
  · rw [List.eq_of_mem_replicate hw] at e
    cases e
  · rw [List.eq_of_mem_replicate hw] at e
    cases e
  · have := List.eq_of_mem_replicate (List.mem_of_getElem? e)
    cases this
def spLaw (K : PySem.W.Frag) : Sp := fun vs H Q _ => ∃ (a : Addr) (ns : List Int), vs = [.ref a] ∧ SqL K H a (ns.map V.int) ∧ ns.length ≤ 63 ∧ ∀ H', Q (.bl true) H'
/-- what stands at each turn -/
structure LJ (CM : Addr) (H0 H : Hp) (m c dx l kn p : Addr) (ms : List Int) (o c2 dx2 kp : Addr) (xs ys xs2 ys2 : List V) (ws ws2 : List Wc) (ks : List Int) (n : Nat) : Prop where
  mw : MW CM H m c dx xs ws
  ml : ML H l ys ws
  zk : H kn = some (.lst (ks.map V.int))
  kb : ∀ x ∈ ks, (0 : Int) ≤ x ∧ x ≤ 100
  k0 : ks ≠ []
  kl : ks.length ≤ n
  om : MW CM H o c2 dx2 xs2 ws2
  ol : ML H kp ys2 ws2
  n1 : c2 ≠ c
  n2 : c2 ≠ l
  n3 : c2 ≠ kn
  n4 : kp ≠ c
  n5 : kp ≠ l
  n6 : kp ≠ kn
  pp : H p = some (.lst (ms.map V.int))
  sm : Same H0 H
variable {H0 H H' : Hp} {m c dx l kn p o c2 dx2 kp : Addr} {ms ks : List Int} {xs ys xs2 ys2 xs' ys' : List V} {ws ws2 ws' : List Wc} {n n' : Nat}
theorem LJ.same (J : LJ CM H0 H m c dx l kn p ms o c2 dx2 kp xs ys xs2 ys2 ws ws2 ks n) (s : Same H H') (hn : n ≤ n') : LJ CM H0 H' m c dx l kn p ms o c2 dx2 kp xs ys xs2 ys2 ws ws2 ks n' :=
  ⟨J.mw.same s, J.ml.same s, s _ _ J.zk, J.kb, J.k0, Nat.le_trans J.kl hn, J.om.same s, J.ol.same s, J.n1, J.n2, J.n3, J.n4, J.n5, J.n6, s _ _ J.pp, J.sm.trans s⟩
abbrev NL : List Str := ["script", "memory", "model", "known", "other", "kept", "k", "number", "deed", "due"]
theorem scL : FnScope NL ["script"] (defScope sLaw) := ⟨rfl, rfl, rfl, by decide +kernel, rfl, by decide +kernel, by decide +kernel⟩
theorem ok_law {f fDn fDu fAl fNu fDe fAp fSh fCe fEw : Addr} {fd fdDn fdDu fdAl fdNu fdDe fdAp fdSh fdCe fdEw : FuncData} {fdI fdCp : FuncData} (F : Fun K "law" "law" sLaw f fd) (T : Txt K mg CH d0 fXI) (M : MemC K CM fMI fSz fAt fPut fCp fLk) (mM : mg "Memory" = some (.ref CM)) (GI : FnOk P w K mg base (CXE P w) 1 fMI fdI ["self", "size"] (spMI CM)) (bI : Binds K fdI ["self", "size"] [])
    (GCp : FnOk P w K mg base (CXE P w) 3 fCp fdCp ["self"] (spCp CM)) (bCp : Binds K fdCp ["self"] [])
    (GDn : FnOk P w K mg base (CXE P w) 10 fDn fdDn ["memory", "deed"] (spDone CM)) (mDn : mg "_law_done" = some (.ref fDn)) (kDn : PySem.W.keepIn K (.ref fDn) = true) (bDn : Binds K fdDn ["memory", "deed"] [])
    (GDu : FnOk P w K mg base (CXE P w) 2 fDu fdDu ["model", "deed"] spDue) (mDu : mg "_law_due" = some (.ref fDu)) (kDu : PySem.W.keepIn K (.ref fDu) = true) (bDu : Binds K fdDu ["model", "deed"] [])
    (GAl : FnOk P w K mg base (CXE P w) 5 fAl fdAl ["found", "due"] (spAl 4)) (mAl : mg "_law_alike" = some (.ref fAl)) (kAl : PySem.W.keepIn K (.ref fAl) = true) (bAl : Binds K fdAl ["found", "due"] [])
    (GNu : FnOk P w K mg base (CXE P w) 2 fNu fdNu ["script"] (spNums K)) (mNu : mg "_law_numbers" = some (.ref fNu)) (kNu : PySem.W.keepIn K (.ref fNu) = true) (bNu : Binds K fdNu ["script"] [])
    (GDe : FnOk P w K mg base (CXE P w) 2 fDe fdDe ["number", "known", "k"] spDeed) (mDe : mg "_law_deed" = some (.ref fDe)) (kDe : PySem.W.keepIn K (.ref fDe) = true) (bDe : Binds K fdDe ["number", "known", "k"] [])
    (GAp : FnOk P w K mg base (CXE P w) 2 fAp fdAp ["model", "a", "b"] spApart) (mAp : mg "_law_apart" = some (.ref fAp)) (kAp : PySem.W.keepIn K (.ref fAp) = true) (bAp : Binds K fdAp ["model", "a", "b"] [])
    (GSh : FnOk P w K mg base (CXE P w) 5 fSh fdSh ["memory", "model"] (spShows CM)) (mSh : mg "_law_shows" = some (.ref fSh)) (kSh : PySem.W.keepIn K (.ref fSh) = true) (bSh : Binds K fdSh ["memory", "model"] [])
    (GCe : FnOk P w K mg base (CXE P w) 1 fCe fdCe ["script", "k"] (spCell K)) (mCe : mg "_law_cell" = some (.ref fCe)) (kCe : PySem.W.keepIn K (.ref fCe) = true) (bCe : Binds K fdCe ["script", "k"] [])
    (GEw : FnOk P w K mg base (CXE P w) 11 fEw fdEw ["memory", "model", "known"] (spEw CM)) (mEw : mg "_law_ends_well" = some (.ref fEw)) (kEw : PySem.W.keepIn K (.ref fEw) = true) (bEw : Binds K fdEw ["memory", "model", "known"] []) : FnOk P w K mg base (CXE P w) 12 f fd ["script"] (spLaw K) := by
  refine F.okE scL (fun vs H Q E h => ?_) (fun cdv A outer s H vs Q E hr h => ?_)
  · obtain ⟨a, ns, rfl, _⟩ := h
    rfl
  · obtain ⟨a, ns, rfl, hS, hlen, k⟩ := h
    refine ⟨_, PSs.nox (pss_cons (ps_set (i := 1) scL.nd rfl (Or.inl rfl) (pe_make M.mke GI (hr.mono (by decide)) rfl mM bI .nil passF0 (pa_cons pe_int pa_nil)))
      (pss_cons (ps_set (i := 2) scL.nd rfl (Or.inl rfl) (pe_op op_rep (pe_lst (pa_cons pe_non pa_nil)) pe_int))
      (pss_cons (ps_set (i := 3) scL.nd rfl (Or.inl rfl) (pe_lst (pa_cons pe_int pa_nil)))
      (pss_cons (ps_set (i := 4) scL.nd rfl (Or.inl rfl) (xe_meth0 (pv 1) M.c M.cp GCp (hr.mono (by decide)) bCp .nil passN))
      (pss_cons (ps_set (i := 5) scL.nd rfl (Or.inl rfl) (pe_callTy call_list_of rfl T.z_list PyProof.Rows.Boot.«list» (pa_cons (pv 2) pa_nil)))
      (pss_cons (ps_for PassesOwn.never rfl (pi_enum rfl T.z_enumerate (pa_cons (xe_call GNu (hr.mono (by decide)) rfl mNu kNu bNu .nil passN (pa_cons (pv 0) pa_nil)) pa_nil)) (pg_tup rfl (pgs_cons (pg_name (i := 6) scL.nd rfl (Or.inl rfl)) (pgs_cons (pg_name (i := 7) scL.nd rfl (Or.inl rfl)) pgs_nil)))
        (pss_cons (ps_set (i := 8) scL.nd rfl (Or.inl rfl) (xe_call GDe (hr.mono (by decide)) rfl mDe kDe bDe .nil passN (pa_cons (pv 7) (pa_cons (pv 3) (pa_cons (pv 6) pa_nil)))))
        (pss_cons (ps_if (PW.pt (pw_or (pt_cmpR op_ne (pe_ix ix_tup (pv 8) pe_int (fun _ _ => rfl)) pe_str (nomark _)) (pw_or1 (pt_val (xe_call GAp (hr.mono (by decide)) rfl mAp kAp bAp .nil passN (pa_cons (pv 2) (pa_cons (pe_ix ix_tup (pv 8) pe_int (fun _ _ => rfl)) (pa_cons (pe_ix ix_tup (pv 8) pe_int (fun _ _ => rfl)) pa_nil))))))))
          (pss_cons (ps_set (i := 9) scL.nd rfl (Or.inl rfl) (xe_call GDu (hr.mono (by decide)) rfl mDu kDu bDu .nil passN (pa_cons (pv 2) (pa_cons (pv 8) pa_nil))))
          (pss_cons (ps_if (PW.pt (pw_or (pt_not (pt_val (xe_call GAl (hr.mono (by decide)) rfl mAl kAl bAl .nil passN (pa_cons (xe_call GDn (hr.mono (by decide)) rfl mDn kDn bDn .nil passN (pa_cons (pv 1) (pa_cons (pv 8) pa_nil))) (pa_cons (pv 9) pa_nil))))) (pw_or1 (pt_not (pt_val (xe_call GSh (hr.mono (by decide)) rfl mSh kSh bSh .nil passN (pa_cons (pv 1) (pa_cons (pv 2) pa_nil))))))))
            (pss_one (ps_ret pe_bl))
            pss_nil)
          (pss_one (ps_if (pt_cmpR op_ne (pe_ix ix_tup (pv 8) pe_int (fun _ _ => rfl)) pe_str (nomark _))
            (pss_one (ps_expr (pe_bm PySem.F.plainAttrs_list PySem.F.slot_list_append PySem.F.type_list_append mt_append (pv 3) (pa_cons (pe_callB (call_max2 rfl) rfl T.z_max PyProof.Rows.Boot.«max» (pa_cons pe_int (pa_cons (pe_ix ix_tup (pv 8) (pe_op op_add pe_int (pe_callTy call_intB0 rfl T.z_int PyProof.Rows.Boot.«int» (pa_cons (pe_cmpR op_eq (pe_ix ix_tup (pv 8) pe_int (fun _ _ => rfl)) pe_str (nomark _)) pa_nil))) (fun _ _ => rfl)) pa_nil))) pa_nil))))
            pss_nil))))
          pss_nil)
        (pss_one (ps_if (pt_cmpR op_eq (pv 6) (pe_op op_mod (xe_call GCe (hr.mono (by decide)) rfl mCe kCe bCe .nil passN (pa_cons (pv 0) (pa_cons pe_int pa_nil))) pe_int) (nomark _))
          (pss_cons (ps_set (i := 4) scL.nd rfl (Or.inl rfl) (xe_meth0 (pv 1) M.c M.cp GCp (hr.mono (by decide)) bCp .nil passN))
          (pss_one (ps_set (i := 5) scL.nd rfl (Or.inl rfl) (pe_callTy call_list_of rfl T.z_list PyProof.Rows.Boot.«list» (pa_cons (pv 2) pa_nil)))))
          pss_nil)))))
      (pss_one (ps_ret (pe_and (xe_call GEw (hr.mono (by decide)) rfl mEw kEw bEw .nil passN (pa_cons (pv 1) (pa_cons (pv 2) (pa_cons (pv 3) pa_nil)))) (pe_and (xe_call GSh (hr.mono (by decide)) rfl mSh kSh bSh .nil passN (pa_cons (pv 1) (pa_cons (pv 2) pa_nil))) (pe_one (xe_call GSh (hr.mono (by decide)) rfl mSh kSh bSh .nil passN (pa_cons (pv 4) (pa_cons (pv 5) pa_nil)))))))))))))), ?_⟩

    intro m dx hm hdx nd
    refine ⟨m, dx, 50, rfl, upd_same, by decide, by decide, fun c H1 b1 hc0 hc1 hm1 => ⟨rfl, ?_⟩⟩
    have s1 : Same H H1 := fun b u q => b1 b u (ne_of_none q hm) (by rw [upd_ne (ne_of_none q hm), upd_ne (ne_of_none q hdx)]; exact q)
    replace hc1 : H1 c = some (.lst (List.replicate 50 V.non)) := hc1
    have hcH : H c = none := by
      cases e : H c with
      | none => rfl
      | some u =>
        rw [upd_ne (ne_of_none e hm), upd_ne (ne_of_none e hdx), e] at hc0
        cases hc0
    refine ⟨by show 1 ≤ sizeLine; decide, fun q hq => ⟨q, 50, _, rfl, rfl, upd_same, by decide, by decide, by show 1 * 50 ≤ sizeLine; decide, fun l hl => ?_⟩⟩
    have r50 : (List.replicate (50 : Int).toNat [V.non]).flatten = List.replicate 50 .non := rep_one 50
    rw [r50]
    have s2 : Same H1 (upd (upd H1 q (.lst [.non])) l (.lst (List.replicate 50 .non))) := (Same.upd hq).trans (Same.upd hl)
    have ncl : c ≠ l := ne_of_none ((Same.upd hq) _ _ hc1) hl
    have hlH : H l = none := by
      cases e : H l with
      | none => rfl
      | some u => rw [Same.upd hq _ _ (s1 _ _ e)] at hl; cases hl
    obtain ⟨H2, e2⟩ : ∃ H2, upd (upd H1 q (.lst [.non])) l (.lst (List.replicate 50 .non)) = H2 := ⟨_, rfl⟩
    have l2 : H2 l = some (.lst (List.replicate 50 .non)) := by rw [← e2]; exact upd_same
    rw [e2] at s2 ⊢
    clear e2
    refine ⟨by show 1 ≤ sizeLine; decide, fun kn hkn => ?_⟩
    have s3 := Same.upd (o := .lst [V.int 0]) hkn
    have nkc : kn ≠ c := Ne.symm (ne_of_none (s2 _ _ hc1) hkn)
    have nkl : kn ≠ l := Ne.symm (ne_of_none l2 hkn)
    have hkH : H kn = none := by
      cases e : H kn with
      | none => rfl
      | some u => rw [s2 _ _ (s1 _ _ e)] at hkn; cases hkn
    have zk3 : upd H2 kn (.lst [V.int 0]) kn = some (.lst (([0] : List Int).map V.int)) := upd_same
    show gName 3 (V.ref kn) _ (upd H2 kn (.lst [V.int 0])) _
    obtain ⟨H3, e3⟩ : ∃ H3, upd H2 kn (.lst [V.int 0]) = H3 := ⟨_, rfl⟩
    rw [e3] at s3 zk3 ⊢
    clear e3
    have s13 := s2.trans s3
    have W3 : MW CM H3 m c dx (List.replicate 50 .non) (List.replicate 50 .no) := ⟨⟨s13 _ _ hm1, s13 _ _ hc1⟩, no50.1, (no50 (H0 := H)).2⟩
    have L3 : ML H3 l (List.replicate 50 .non) (List.replicate 50 .no) := ⟨s3 _ _ l2, no50.1, (no50 (H0 := H)).2⟩
    refine ⟨_, rfl, m, dx, _, rfl, W3.mem.1, rfl, m, c, dx, _, rfl, W3.mem, by rw [W3.len]; decide, fun o c2 dx2 H4 s4 hc2 ho nco M4 => ?_⟩
    have L4 := L3.same s4
    have O4 : MW CM H4 o c2 dx2 (List.replicate 50 .non) (List.replicate 50 .no) := ⟨M4, no50.1, (no50 (H0 := H)).2⟩
    refine ⟨_, rfl, l, _, rfl, .inl (SqL.of L4.at_), fun kp hkp => ?_⟩
    have s5 := Same.upd (o := .lst (List.replicate 50 V.non)) hkp
    have K5 : ML (upd H4 kp (.lst (List.replicate 50 V.non))) kp (List.replicate 50 .non) (List.replicate 50 .no) := ⟨upd_same, no50.1, (no50 (H0 := H)).2⟩
    show gName 5 (V.ref kp) _ (upd H4 kp (.lst (List.replicate 50 V.non))) _
    obtain ⟨H5, e5⟩ : ∃ H5, upd H4 kp (.lst (List.replicate 50 V.non)) = H5 := ⟨_, rfl⟩
    rw [e5] at s5 K5 ⊢
    clear e5
    have s15 := ((s1.trans s13).trans s4).trans s5
    refine ⟨_, rfl, a, ns, rfl, s15.seq hS, hlen, fun p ms H6 s6 hp0 hp6 hml => ?_⟩
    have npc : p ≠ c := Ne.symm (ne_of_none (s5 _ _ (s4 _ _ W3.mem.2)) hp0)
    have npl : p ≠ l := Ne.symm (ne_of_none (s5 _ _ L4.at_) hp0)
    have npk : p ≠ kn := Ne.symm (ne_of_none (s5 _ _ (s4 _ _ zk3)) hp0)
    have J6 : LJ CM H H6 m c dx l kn p ms o c2 dx2 kp (List.replicate 50 .non) (List.replicate 50 .non) (List.replicate 50 .non) (List.replicate 50 .non) (List.replicate 50 .no) (List.replicate 50 .no) [0] 1 :=
      ⟨W3.same ((s4.trans s5).trans s6), L4.same (s5.trans s6), s6 _ _ (s5 _ _ (s4 _ _ zk3)), fun x hx => by rw [List.mem_singleton.mp hx]; decide, by simp, Nat.le_refl _, O4.same (s5.trans s6), K5.same s6, Ne.symm (ne_of_none W3.mem.2 hc2), Ne.symm (ne_of_none L3.at_ hc2), Ne.symm (ne_of_none zk3 hc2),
        Ne.symm (ne_of_none (s4 _ _ W3.mem.2) hkp), Ne.symm (ne_of_none L4.at_ hkp), Ne.symm (ne_of_none (s4 _ _ zk3) hkp), hp6, s15.trans s6⟩
    refine ⟨p, rfl, ⟨_, SqL.of hp6⟩, for_enum (K := K) (a := p) (xs := ms.map V.int) (fun i σ Hx => ∃ (o c2 dx2 kp : Addr) (xs ys xs2 ys2 : List V) (ws ws2 : List Wc) (ks : List Int) (v6 v7 v8 v9 : Option V), σ = [some (.ref a), some (.ref m), some (.ref l), some (.ref kn), some (.ref o), some (.ref kp), v6, v7, v8, v9] ∧ LJ CM H Hx m c dx l kn p ms o c2 dx2 kp xs ys xs2 ys2 ws ws2 ks (i + 1))
      ⟨o, c2, dx2, kp, _, _, _, _, _, _, _, none, none, none, none, rfl, J6⟩ (fun i σ Hx _ ⟨_, _, _, _, _, _, _, _, _, _, _, _, _, _, _, _, J⟩ => SqL.of J.pp) ?_ ?_⟩
    · rintro i x σ Hx t hi ⟨o, c2, dx2, kp, xs, ys, xs2, ys2, ws, ws2, ks, v6, v7, v8, v9, rfl, J⟩ ht
      have hil : i < ms.length := by have := (List.getElem?_eq_some_iff.mp hi).1; rw [List.length_map] at this; exact this
      obtain ⟨z, _, rfl⟩ := List.mem_map.mp (List.mem_of_getElem? hi)
      refine ⟨t, _, rfl, SqT.of upd_same, rfl, _, _, rfl, _, _, rfl, rfl, ?_⟩
      have st : Same Hx (upd Hx t (.tup [.int (i : Int), .int z])) := Same.upd ht
      have J1 := J.same st (Nat.le_refl _)
      refine ⟨_, rfl, _, rfl, _, rfl, z, (i : Int), kn, ks, rfl, J1.zk, J1.kb, J1.k0, fun q dd Hd sd hdv hfr hmk => ?_⟩
      have J2 := J1.same sd (Nat.le_refl _)
      have fc : Free c dd := hfr.free J1.mw.mem.2
      have fl : Free l dd := hfr.free J1.ml.at_
      simp only [gName]
      refine seq_gen fun N hN => ?_
      -- behind the deed
      have rest : ∀ (v9 : Option V) (xs ys : List V) (ws : List Wc) (ks : List Int) (Hy : Hp), LJ CM H Hy m c dx l kn p ms o c2 dx2 kp xs ys xs2 ys2 ws ws2 ks (i + 1 + 1) → N [some (.ref a), some (.ref m), some (.ref l), some (.ref kn), some (.ref o), some (.ref kp), some (.int (i : Int)), some (.int z), some (.ref q), v9] Hy := by
        intro v9 xs ys ws ks Hy Jy
        refine hN _ _ ?_
        refine ⟨_, rfl, _, rfl, a, ns, 1, rfl, Jy.sm.seq hS, fun y => ⟨y, 90, rfl, rfl, (by show (0 : Int) < 90; decide), rfl, _, rfl, ite2 (fun _ => ?_) (fun _ => ⟨o, c2, dx2, kp, xs, ys, xs2, ys2, ws, ws2, ks, _, _, _, _, rfl, Jy⟩)⟩⟩
        refine ⟨_, rfl, m, dx, _, rfl, Jy.mw.mem.1, rfl, m, c, dx, xs, rfl, Jy.mw.mem, by rw [Jy.mw.len]; decide, fun o3 c3 dx3 H4 s4 hc3 ho3 nco3 M4 => ?_⟩
        have Ly := Jy.ml.same s4
        refine ⟨_, rfl, l, ys, rfl, .inl (SqL.of Ly.at_), fun kp3 hkp3 => ?_⟩
        have s5 := Same.upd (o := .lst ys) hkp3
        have s45 := s4.trans s5
        exact ⟨o3, c3, dx3, kp3, xs, ys, xs, ys, ws, ws, ks, _, _, _, _, rfl, Jy.mw.same s45, Jy.ml.same s45, s45 _ _ Jy.zk, Jy.kb, Jy.k0, Jy.kl, (show MW CM H4 o3 c3 dx3 xs ws from ⟨M4, Jy.mw.rel.keep (Tups.of s4), Jy.mw.good⟩).same s5, ⟨upd_same, Jy.ml.rel.keep (Tups.of s45), Jy.ml.good⟩,
          Ne.symm (ne_of_none Jy.mw.mem.2 hc3), Ne.symm (ne_of_none Jy.ml.at_ hc3), Ne.symm (ne_of_none Jy.zk hc3), Ne.symm (ne_of_none (s4 _ _ Jy.mw.mem.2) hkp3), Ne.symm (ne_of_none Ly.at_ hkp3), Ne.symm (ne_of_none (s4 _ _ Jy.zk) hkp3), s45 _ _ Jy.pp, Jy.sm.trans s45⟩
      refine if_gen fun B hB => ?_
      -- the deed itself
      have mid : ∀ He, Same Hd He → Okd ws dd → B [some (.ref a), some (.ref m), some (.ref l), some (.ref kn), some (.ref o), some (.ref kp), some (.int (i : Int)), some (.int z), some (.ref q), v9] He := by
        intro He se hok
        refine hB _ _ ?_
        have J3 := J2.same se (Nat.le_refl _)
        have D3 := hdv.same se
        have nw : NoWalk dd := by cases dd <;> first | exact True.intro | exact hmk.elim
        refine ⟨_, rfl, _, rfl, l, ys, ws, q, dd, rfl, J3.ml, D3, fl, hok, nw, fun v ys' H4 L4 b4 rv => ?_⟩
        have W4 := J3.mw.but b4 J3.ml.at_ ncl
        have D4 := D3.but b4 J3.ml.at_ fl
        refine ⟨_, rfl, _, rfl, m, c, dx, xs, ws, q, dd, rfl, W4, D4, fc, hok, fun v2 xs' H5 W5 b5 rv2 => ?_⟩
        have rv' := rv.but b5 W4.mem.2 J3.mw.mem.2
        have L5 := L4.but b5 W4.mem.2 (Ne.symm ncl)
        have J5 : LJ CM H H5 m c dx l kn p ms o c2 dx2 kp xs' ys' xs2 ys2 (stp ws dd).2 ws2 ks (i + 1) :=
          ⟨W5, L5, b5 _ _ nkc (b4 _ _ nkl J3.zk), J3.kb, J3.k0, J3.kl, (J3.om.but b4 J3.ml.at_ J3.n2).but b5 W4.mem.2 J3.n1, (J3.ol.but b4 J3.ml.at_ J3.n5).but b5 W4.mem.2 J3.n4, J3.n1, J3.n2, J3.n3, J3.n4, J3.n5, J3.n6, b5 _ _ npc (b4 _ _ npl J3.pp),
            fun b u g => b5 _ _ (ne_of_none g hcH) (b4 _ _ (ne_of_none g hlH) (J3.sm b u g))⟩
        have D5 := D4.but b5 W4.mem.2 fc
        have hl : ∀ fs, (stp ws dd).1 = .adrs fs → fs.length ≤ 100 := fun fs e => by
          cases dd with
          | lay a' t' vl wv => simp only [stp] at e; split at e <;> cases e
          | put a' k' v' wd =>
            simp only [stp] at e
            cases q2 : thg ws a' with
            | none => rw [q2] at e; cases e
            | some p2 => rw [q2] at e; simp only at e; split at e <;> cases e
          | move a' b' =>
            simp only [stp] at e
            cases q2 : thg ws a' with
            | none => rw [q2] at e; cases e
            | some p2 => rw [q2] at e; simp only at e; split at e <;> cases e
          | _ => exact hmk.elim
        refine ⟨_, rfl, v2, v, rfl, dp_rv rv2 rv' hl, fun H6 s6 => ⟨true, rfl, iteF ?_⟩⟩
        have J6 := J5.same s6 (Nat.le_refl _)
        refine ⟨_, rfl, _, rfl, m, c, dx, xs', _, l, ys', rfl, J6.mw, J6.ml, fun H7 s7 => ⟨true, rfl, iteF ?_⟩⟩
        have J7 := J6.same s7 (Nat.le_refl _)
        have D7 := (D5.same s6).same s7
        have app : ∀ (w9 : Option V) (y : Int), 0 ≤ y → y ≤ 100 → LJ CM H (upd H7 kn (.lst (ks.map V.int ++ [V.int y]))) m c dx l kn p ms o c2 dx2 kp xs' ys' xs2 ys2 (stp ws dd).2 ws2 (ks ++ [y]) (i + 1 + 1) := fun w9 y y0 y1 => by
          have bk : But kn H7 (upd H7 kn (.lst (ks.map V.int ++ [V.int y]))) := But.set
          have hk7 := J7.zk
          exact ⟨J7.mw.but bk hk7 (Ne.symm nkc), J7.ml.but bk hk7 (Ne.symm nkl), by rw [upd_same, List.map_append]; rfl, fun x hx => by
            rcases List.mem_append.mp hx with g | g
            · exact J7.kb x g
            · rw [List.mem_singleton.mp g]; exact ⟨y0, y1⟩, by simp, by rw [List.length_append, List.length_singleton]; exact Nat.succ_le_succ J7.kl, J7.om.but bk hk7 J7.n3, J7.ol.but bk hk7 J7.n6, J7.n1, J7.n2, J7.n3, J7.n4, J7.n5, J7.n6, bk _ _ npk J7.pp, fun b u g => bk _ _ (ne_of_none g hkH) (J7.sm b u g)⟩
        have kll : (ks.map V.int).length < sizeLine := Nat.lt_of_le_of_lt (show (ks.map V.int).length ≤ 1000 by rw [List.length_map]; have := J7.kl; omega) (by decide)
        cases dd with
        | lay a' t' vl wv =>
          have hq := D7.1
          have fa := D7.2.2.2
          refine ⟨_, rfl, q, _, 0, .str "lay", rfl, rfl, SqT.of hq, rfl, rfl, _, rfl, ite2 (fun _ => ?_) (fun z => absurd (by decide +kernel) z)⟩
          refine ⟨_, rfl, .inl ⟨rfl, _, SqL.of J7.zk⟩, _, rfl, _, rfl, q, _, 0, .str "lay", rfl, rfl, SqT.of hq, rfl, rfl, _, rfl, 1, 0, rfl, (by decide +kernel), q, _, 1, .int a', rfl, rfl, SqT.of hq, rfl, _, _, rfl, kn, _, _, rfl, rfl, J7.zk, kll, ?_⟩
          have y0 : 0 ≤ (if a' > 0 then a' else 0) := by split <;> omega
          have y1 : (if a' > 0 then a' else 0) ≤ 100 := by have := fa.2; split <;> omega
          exact rest _ _ _ _ _ _ (app none _ y0 y1)
        | put a' k' v' wd =>
          have hq := D7.1
          exact ⟨_, rfl, q, _, 0, .str "put", rfl, rfl, SqT.of hq, rfl, rfl, _, rfl, ite2 (fun z => absurd z (by decide +kernel)) (fun _ => rest _ _ _ _ _ _ (J7.same (Same.refl _) (Nat.le_succ _)))⟩
        | move a' b' =>
          have hq := D7.1
          have fb := D7.2.2
          refine ⟨_, rfl, q, _, 0, .str "move", rfl, rfl, SqT.of hq, rfl, rfl, _, rfl, ite2 (fun _ => ?_) (fun z => absurd (by decide +kernel) z)⟩
          refine ⟨_, rfl, .inl ⟨rfl, _, SqL.of J7.zk⟩, _, rfl, _, rfl, q, _, 0, .str "move", rfl, rfl, SqT.of hq, rfl, rfl, _, rfl, 1, 1, rfl, (by decide +kernel), q, _, 2, .int b', rfl, rfl, SqT.of hq, rfl, _, _, rfl, kn, _, _, rfl, rfl, J7.zk, kll, ?_⟩
          have y0 : 0 ≤ (if b' > 0 then b' else 0) := by split <;> omega
          have y1 : (if b' > 0 then b' else 0) ≤ 100 := by have := fb.2; split <;> omega
          exact rest _ _ _ _ _ _ (app none _ y0 y1)
        | _ => exact hmk.elim
      cases dd with
      | lay a' t' vl wv =>
        have hq := hdv.1
        exact ⟨_, rfl, q, _, 0, .str "lay", rfl, rfl, SqT.of hq, rfl, rfl, _, rfl, ite2 (fun _ => iteT (mid Hd (Same.refl _) True.intro)) (fun z => absurd (by decide +kernel) z)⟩
      | put a' k' v' wd =>
        have hq := hdv.1
        exact ⟨_, rfl, q, _, 0, .str "put", rfl, rfl, SqT.of hq, rfl, rfl, _, rfl, ite2 (fun _ => iteT (mid Hd (Same.refl _) True.intro)) (fun z => absurd (by decide +kernel) z)⟩
      | move a' b' =>
        have hq := hdv.1
        refine ⟨_, rfl, q, _, 0, .str "move", rfl, rfl, SqT.of hq, rfl, rfl, _, rfl, ite2 (fun z => absurd z (by decide +kernel)) (fun _ => ?_)⟩
        refine ⟨_, rfl, _, rfl, q, _, 1, .int a', rfl, rfl, SqT.of hq, rfl, _, rfl, q, _, 2, .int b', rfl, rfl, SqT.of hq, rfl, l, ys, ws, a', b', rfl, J2.ml, fun He se r hr => ⟨r, rfl, ?_⟩⟩
        cases r with
        | true => exact iteT (mid He se (hr rfl))
        | false => exact iteF (rest _ _ _ _ _ _ (J2.same se (Nat.le_succ _)))
      | _ => exact hmk.elim
    · rintro σ Hx ⟨o, c2, dx2, kp, xs, ys, xs2, ys2, ws, ws2, ks, v6, v7, v8, v9, rfl, J⟩
      refine ⟨_, rfl, _, rfl, _, rfl, m, c, dx, xs, ws, l, ys, kn, ks, rfl, J.mw, J.ml, J.zk, J.kb, ncl, nkc, nkl, fun xs' ys' H7 E7 => ⟨true, rfl, iteT ?_⟩⟩
      have O7 : MW CM H7 o c2 dx2 xs2 ws2 := ⟨⟨E7.bt _ _ (ne_of J.om.mem.1 J.mw.mem.2 (by intro z; cases z)) (ne_of J.om.mem.1 J.ml.at_ (by intro z; cases z)) J.om.mem.1, E7.bt _ _ J.n1 J.n2 J.om.mem.2⟩, J.om.rel.keep (fun b zs g => E7.bt _ _ (ne_of g J.mw.mem.2 (by intro z; cases z)) (ne_of g J.ml.at_ (by intro z; cases z)) g), J.om.good⟩
      have K7 : ML H7 kp ys2 ws2 := ⟨E7.bt _ _ J.n4 J.n5 J.ol.at_, J.ol.rel.keep (fun b zs g => E7.bt _ _ (ne_of g J.mw.mem.2 (by intro z; cases z)) (ne_of g J.ml.at_ (by intro z; cases z)) g), J.ol.good⟩
      refine ⟨_, rfl, _, rfl, m, c, dx, xs', ws, l, ys', rfl, E7.mw, E7.ml, fun H8 s8 => ⟨true, rfl, iteT ?_⟩⟩
      exact ⟨_, rfl, _, rfl, o, c2, dx2, xs2, ws2, kp, ys2, rfl, O7.same s8, K7.same s8, fun H9 s9 => k H9⟩
end
end K34
end
section
set_option Elab.async false
set_option linter.all false
set_option maxRecDepth 100000
set_option maxHeartbeats 4000000
set_option exponentiation.threshold 4000
namespace K34
open PySem L2 LX
theorem all_mk {l : PySem.W.OpenLaw} {w : World} {K : PySem.W.Frag} {h : Heap} {mg : Str → Option Value} {fa CH d0 fXI CM fMI fSz fAt fPut fCp fLk fKi fRo fTo fFA fAd fTh fWk fMo fLy fFi fPf fRe fCe fMx fA fS fW fLT fLL fLR fAs fDn fDu fAp fDe fNu fLW fEw fL : Addr} (X : K.In h) (G : h.Ns mainGlobals mg) (hfa : mg "law" = some (.ref fa))
    {od1 an1 od2 an2 od3 an3 od4 an4 od5 an5 od6 an6 od7 an7 od8 an8 od9 an9 od10 an10 od11 an11 od12 an12 od13 an13 od14 an14 od15 an15 od16 an16 od17 an17 od18 an18 od19 an19 od20 an20 od21 an21 od22 an22 od23 an23 od24 an24 od25 an25 od26 an26 od27 an27 od28 an28 od29 an29 od30 an30 od31 an31 od32 an32 od33 an33 od34 an34 od35 an35 od36 an36 : Option Addr} {sl1 sl2 sl3 sl4 sl5 sl6 sl7 sl8 sl9 sl10 sl11 sl12 sl13 sl14 sl15 sl16 sl17 sl18 sl19 sl20 sl21 sl22 sl23 sl24 sl25 sl26 sl27 sl28 sl29 sl30 sl31 sl32 sl33 sl34 sl35 sl36 : Array (Option Value)} {oc1 kV1 dc1 pm1 cd1 ct1 oc2 kV2 dc2 pm2 cd2 ct2 oc3 kV3 dc3 pm3 cd3 ct3 oc4 kV4 dc4 pm4 cd4 ct4 oc5 kV5 dc5 pm5 cd5 ct5 oc6 kV6 dc6 pm6 cd6 ct6 oc7 kV7 dc7 pm7 cd7 ct7 oc8 kV8 dc8 pm8 cd8 ct8 oc9 kV9 dc9 pm9 cd9 ct9 oc10 kV10 dc10 pm10 cd10 ct10 oc11 kV11 dc11 pm11 cd11 ct11 oc12 kV12 dc12 pm12 cd12 ct12 oc13 kV13 dc13 pm13 cd13 ct13 oc14 kV14 dc14 pm14 cd14 ct14 oc15 kV15 dc15 pm15 cd15 ct15 oc16 kV16 dc16 pm16 cd16 ct16 oc17 kV17 dc17 pm17 cd17 ct17 oc18 kV18 dc18 pm18 cd18 ct18 oc19 kV19 dc19 pm19 cd19 ct19 oc20 kV20 dc20 pm20 cd20 ct20 oc21 kV21 dc21 pm21 cd21 ct21 oc22 kV22 dc22 pm22 cd22 ct22 oc23 kV23 dc23 pm23 cd23 ct23 oc24 kV24 dc24 pm24 cd24 ct24 oc25 kV25 dc25 pm25 cd25 ct25 oc26 kV26 dc26 pm26 cd26 ct26 oc27 kV27 dc27 pm27 cd27 ct27 oc28 kV28 dc28 pm28 cd28 ct28 oc29 kV29 dc29 pm29 cd29 ct29 oc30 kV30 dc30 pm30 cd30 ct30 oc31 kV31 dc31 pm31 cd31 ct31 oc32 kV32 dc32 pm32 cd32 ct32 oc33 kV33 dc33 pm33 cd33 ct33 oc34 kV34 dc34 pm34 cd34 ct34 oc35 kV35 dc35 pm35 cd35 ct35 oc36 kV36 dc36 pm36 cd36 ct36 : Value}
    (nH : PySem.W.nsIn K mainGlobals "HeapError" = some (some (.ref CH)))
    (n0 : PySem.W.nsIn K mainGlobals "BadAddress" = some (some (.ref d0)))
    (xH : xclsIn K CH = true)
    (x0 : xclsIn K d0 = true)
    (ga0 : PySem.W.findIn K (.ref d0) "__getattribute__" = some (some (.builtin "BaseException.__getattribute__")))
    (gt0 : PySem.W.findIn K (.ref d0) "__getattr__" = some none)
    (gc0 : PySem.W.findIn K (.ref d0) "__class__" = some (some (.builtin "object.__class__")))
    (ii0 : PySem.W.findIn K (.ref d0) "__init__" = some (some (.ref fXI)))
    (kc0 : PySem.W.keepIn K (.ref d0) = true)
    (fi : PySem.W.isFn K (.ref fXI) = true)
    (gM : PySem.W.nsIn K mainGlobals "Memory" = some (some (.ref CM)))
    (cpg : PySem.W.plainGet K CM Str.empty = true)
    (chd : PySem.W.hasDictIn K CM = true)
    (cpo : PySem.W.plainOver K CM = true)
    (csa : PySem.W.findIn K (.ref CM) "__setattr__" = some (some (.builtin "object.__setattr__")))
    (cna : PySem.W.findIn K (.ref CM) "cells" = some none)
    (mmk : PySem.W.makesIn K CM = true)
    (mii : PySem.W.findIn K (.ref CM) "__init__" = some (some (.ref fMI)))
    (mfn : PySem.W.isFn K (.ref fMI) = true)
    (mkp : PySem.W.keepIn K (.ref CM) = true)
    (t3 : PySem.W.findIn K (.ref CM) "size" = some (some (.ref fSz)))
    (u3 : PySem.W.isFn K (.ref fSz) = true)
    (t4 : PySem.W.findIn K (.ref CM) "at" = some (some (.ref fAt)))
    (u4 : PySem.W.isFn K (.ref fAt) = true)
    (t5 : PySem.W.findIn K (.ref CM) "put" = some (some (.ref fPut)))
    (u5 : PySem.W.isFn K (.ref fPut) = true)
    (t6 : PySem.W.findIn K (.ref CM) "copy_of" = some (some (.ref fCp)))
    (u6 : PySem.W.isFn K (.ref fCp) = true)
    (t7 : PySem.W.findIn K (.ref CM) "look_at_address" = some (some (.ref fLk)))
    (u7 : PySem.W.isFn K (.ref fLk) = true)
    (l1 : K.lookup fXI = some ⟨oc1, od1, .func (PySem.W.fnOf "__init__" "HeapError.__init__" (defArgs sXI) (defBody sXI) (defScope sXI) .none kV1 dc1 pm1 an1 cd1 ct1), sl1⟩)
    (c1 : PySem.W.codeIn K cd1 "HeapError.__init__" = true)
    (k1 : PySem.W.keepIn K (.ref fXI) = true)
    (l2 : K.lookup fMI = some ⟨oc2, od2, .func (PySem.W.fnOf "__init__" "Memory.__init__" (defArgs sMI) (defBody sMI) (defScope sMI) .none kV2 dc2 pm2 an2 cd2 ct2), sl2⟩)
    (c2 : PySem.W.codeIn K cd2 "Memory.__init__" = true)
    (k2 : PySem.W.keepIn K (.ref fMI) = true)
    (l3 : K.lookup fSz = some ⟨oc3, od3, .func (PySem.W.fnOf "size" "Memory.size" (defArgs sSize) (defBody sSize) (defScope sSize) .none kV3 dc3 pm3 an3 cd3 ct3), sl3⟩)
    (c3 : PySem.W.codeIn K cd3 "Memory.size" = true)
    (k3 : PySem.W.keepIn K (.ref fSz) = true)
    (l4 : K.lookup fAt = some ⟨oc4, od4, .func (PySem.W.fnOf "at" "Memory.at" (defArgs sAt) (defBody sAt) (defScope sAt) .none kV4 dc4 pm4 an4 cd4 ct4), sl4⟩)
    (c4 : PySem.W.codeIn K cd4 "Memory.at" = true)
    (k4 : PySem.W.keepIn K (.ref fAt) = true)
    (l5 : K.lookup fPut = some ⟨oc5, od5, .func (PySem.W.fnOf "put" "Memory.put" (defArgs sPut) (defBody sPut) (defScope sPut) .none kV5 dc5 pm5 an5 cd5 ct5), sl5⟩)
    (c5 : PySem.W.codeIn K cd5 "Memory.put" = true)
    (k5 : PySem.W.keepIn K (.ref fPut) = true)
    (l6 : K.lookup fCp = some ⟨oc6, od6, .func (PySem.W.fnOf "copy_of" "Memory.copy_of" (defArgs sCopy) (defBody sCopy) (defScope sCopy) .none kV6 dc6 pm6 an6 cd6 ct6), sl6⟩)
    (c6 : PySem.W.codeIn K cd6 "Memory.copy_of" = true)
    (k6 : PySem.W.keepIn K (.ref fCp) = true)
    (l7 : K.lookup fLk = some ⟨oc7, od7, .func (PySem.W.fnOf "look_at_address" "Memory.look_at_address" (defArgs sLk) (defBody sLk) (defScope sLk) .none kV7 dc7 pm7 an7 cd7 ct7), sl7⟩)
    (c7 : PySem.W.codeIn K cd7 "Memory.look_at_address" = true)
    (k7 : PySem.W.keepIn K (.ref fLk) = true)
    (a8 : PySem.W.nsIn K mainGlobals "kind_of" = some (some (.ref fKi)))
    (l8 : K.lookup fKi = some ⟨oc8, od8, .func (PySem.W.fnOf "kind_of" "kind_of" (defArgs sKind) (defBody sKind) (defScope sKind) .none kV8 dc8 pm8 an8 cd8 ct8), sl8⟩)
    (c8 : PySem.W.codeIn K cd8 "kind_of" = true)
    (k8 : PySem.W.keepIn K (.ref fKi) = true)
    (a9 : PySem.W.nsIn K mainGlobals "look_at_room" = some (some (.ref fRo)))
    (l9 : K.lookup fRo = some ⟨oc9, od9, .func (PySem.W.fnOf "look_at_room" "look_at_room" (defArgs sRoom) (defBody sRoom) (defScope sRoom) .none kV9 dc9 pm9 an9 cd9 ct9), sl9⟩)
    (c9 : PySem.W.codeIn K cd9 "look_at_room" = true)
    (k9 : PySem.W.keepIn K (.ref fRo) = true)
    (a10 : PySem.W.nsIn K mainGlobals "fields_told" = some (some (.ref fTo)))
    (l10 : K.lookup fTo = some ⟨oc10, od10, .func (PySem.W.fnOf "fields_told" "fields_told" (defArgs sTold) (defBody sTold) (defScope sTold) .none kV10 dc10 pm10 an10 cd10 ct10), sl10⟩)
    (c10 : PySem.W.codeIn K cd10 "fields_told" = true)
    (k10 : PySem.W.keepIn K (.ref fTo) = true)
    (a11 : PySem.W.nsIn K mainGlobals "fields_at" = some (some (.ref fFA)))
    (l11 : K.lookup fFA = some ⟨oc11, od11, .func (PySem.W.fnOf "fields_at" "fields_at" (defArgs sFAt) (defBody sFAt) (defScope sFAt) .none kV11 dc11 pm11 an11 cd11 ct11), sl11⟩)
    (c11 : PySem.W.codeIn K cd11 "fields_at" = true)
    (k11 : PySem.W.keepIn K (.ref fFA) = true)
    (a12 : PySem.W.nsIn K mainGlobals "field_address" = some (some (.ref fAd)))
    (l12 : K.lookup fAd = some ⟨oc12, od12, .func (PySem.W.fnOf "field_address" "field_address" (defArgs sAddr) (defBody sAddr) (defScope sAddr) .none kV12 dc12 pm12 an12 cd12 ct12), sl12⟩)
    (c12 : PySem.W.codeIn K cd12 "field_address" = true)
    (k12 : PySem.W.keepIn K (.ref fAd) = true)
    (a13 : PySem.W.nsIn K mainGlobals "thing_at" = some (some (.ref fTh)))
    (l13 : K.lookup fTh = some ⟨oc13, od13, .func (PySem.W.fnOf "thing_at" "thing_at" (defArgs sThing) (defBody sThing) (defScope sThing) .none kV13 dc13 pm13 an13 cd13 ct13), sl13⟩)
    (c13 : PySem.W.codeIn K cd13 "thing_at" = true)
    (k13 : PySem.W.keepIn K (.ref fTh) = true)
    (a14 : PySem.W.nsIn K mainGlobals "walked" = some (some (.ref fWk)))
    (l14 : K.lookup fWk = some ⟨oc14, od14, .func (PySem.W.fnOf "walked" "walked" (defArgs sWalk) (defBody sWalk) (defScope sWalk) .none kV14 dc14 pm14 an14 cd14 ct14), sl14⟩)
    (c14 : PySem.W.codeIn K cd14 "walked" = true)
    (k14 : PySem.W.keepIn K (.ref fWk) = true)
    (a15 : PySem.W.nsIn K mainGlobals "move" = some (some (.ref fMo)))
    (l15 : K.lookup fMo = some ⟨oc15, od15, .func (PySem.W.fnOf "move" "move" (defArgs sMove) (defBody sMove) (defScope sMove) .none kV15 dc15 pm15 an15 cd15 ct15), sl15⟩)
    (c15 : PySem.W.codeIn K cd15 "move" = true)
    (k15 : PySem.W.keepIn K (.ref fMo) = true)
    (a16 : PySem.W.nsIn K mainGlobals "lay" = some (some (.ref fLy)))
    (l16 : K.lookup fLy = some ⟨oc16, od16, .func (PySem.W.fnOf "lay" "lay" (defArgs sLay) (defBody sLay) (defScope sLay) .none kV16 dc16 pm16 an16 cd16 ct16), sl16⟩)
    (c16 : PySem.W.codeIn K cd16 "lay" = true)
    (k16 : PySem.W.keepIn K (.ref fLy) = true)
    (a17 : PySem.W.nsIn K mainGlobals "field_at" = some (some (.ref fFi)))
    (l17 : K.lookup fFi = some ⟨oc17, od17, .func (PySem.W.fnOf "field_at" "field_at" (defArgs sField) (defBody sField) (defScope sField) .none kV17 dc17 pm17 an17 cd17 ct17), sl17⟩)
    (c17 : PySem.W.codeIn K cd17 "field_at" = true)
    (k17 : PySem.W.keepIn K (.ref fFi) = true)
    (a18 : PySem.W.nsIn K mainGlobals "put_field" = some (some (.ref fPf)))
    (l18 : K.lookup fPf = some ⟨oc18, od18, .func (PySem.W.fnOf "put_field" "put_field" (defArgs sPutF) (defBody sPutF) (defScope sPutF) .none kV18 dc18 pm18 an18 cd18 ct18), sl18⟩)
    (c18 : PySem.W.codeIn K cd18 "put_field" = true)
    (k18 : PySem.W.keepIn K (.ref fPf) = true)
    (a19 : PySem.W.nsIn K mainGlobals "resolved" = some (some (.ref fRe)))
    (l19 : K.lookup fRe = some ⟨oc19, od19, .func (PySem.W.fnOf "resolved" "resolved" (defArgs sRes) (defBody sRes) (defScope sRes) .none kV19 dc19 pm19 an19 cd19 ct19), sl19⟩)
    (c19 : PySem.W.codeIn K cd19 "resolved" = true)
    (k19 : PySem.W.keepIn K (.ref fRe) = true)
    (a20 : PySem.W.nsIn K mainGlobals "_law_cell" = some (some (.ref fCe)))
    (l20 : K.lookup fCe = some ⟨oc20, od20, .func (PySem.W.fnOf "_law_cell" "_law_cell" (defArgs sCell) (defBody sCell) (defScope sCell) .none kV20 dc20 pm20 an20 cd20 ct20), sl20⟩)
    (c20 : PySem.W.codeIn K cd20 "_law_cell" = true)
    (k20 : PySem.W.keepIn K (.ref fCe) = true)
    (a21 : PySem.W.nsIn K mainGlobals "_law_mixed" = some (some (.ref fMx)))
    (l21 : K.lookup fMx = some ⟨oc21, od21, .func (PySem.W.fnOf "_law_mixed" "_law_mixed" (defArgs sMixed) (defBody sMixed) (defScope sMixed) .none kV21 dc21 pm21 an21 cd21 ct21), sl21⟩)
    (c21 : PySem.W.codeIn K cd21 "_law_mixed" = true)
    (k21 : PySem.W.keepIn K (.ref fMx) = true)
    (a22 : PySem.W.nsIn K mainGlobals "_law_alike" = some (some (.ref fA)))
    (l22 : K.lookup fA = some ⟨oc22, od22, .func (PySem.W.fnOf "_law_alike" "_law_alike" (defArgs sAlike) (defBody sAlike) (defScope sAlike) .none kV22 dc22 pm22 an22 cd22 ct22), sl22⟩)
    (c22 : PySem.W.codeIn K cd22 "_law_alike" = true)
    (k22 : PySem.W.keepIn K (.ref fA) = true)
    (a23 : PySem.W.nsIn K mainGlobals "_law_shows" = some (some (.ref fS)))
    (l23 : K.lookup fS = some ⟨oc23, od23, .func (PySem.W.fnOf "_law_shows" "_law_shows" (defArgs sShows) (defBody sShows) (defScope sShows) .none kV23 dc23 pm23 an23 cd23 ct23), sl23⟩)
    (c23 : PySem.W.codeIn K cd23 "_law_shows" = true)
    (k23 : PySem.W.keepIn K (.ref fS) = true)
    (a24 : PySem.W.nsIn K mainGlobals "_law_word" = some (some (.ref fW)))
    (l24 : K.lookup fW = some ⟨oc24, od24, .func (PySem.W.fnOf "_law_word" "_law_word" (defArgs sWord) (defBody sWord) (defScope sWord) .none kV24 dc24 pm24 an24 cd24 ct24), sl24⟩)
    (c24 : PySem.W.codeIn K cd24 "_law_word" = true)
    (k24 : PySem.W.keepIn K (.ref fW) = true)
    (a25 : PySem.W.nsIn K mainGlobals "_law_thing" = some (some (.ref fLT)))
    (l25 : K.lookup fLT = some ⟨oc25, od25, .func (PySem.W.fnOf "_law_thing" "_law_thing" (defArgs sLThing) (defBody sLThing) (defScope sLThing) .none kV25 dc25 pm25 an25 cd25 ct25), sl25⟩)
    (c25 : PySem.W.codeIn K cd25 "_law_thing" = true)
    (k25 : PySem.W.keepIn K (.ref fLT) = true)
    (a26 : PySem.W.nsIn K mainGlobals "_law_lay" = some (some (.ref fLL)))
    (l26 : K.lookup fLL = some ⟨oc26, od26, .func (PySem.W.fnOf "_law_lay" "_law_lay" (defArgs sLLay) (defBody sLLay) (defScope sLLay) .none kV26 dc26 pm26 an26 cd26 ct26), sl26⟩)
    (c26 : PySem.W.codeIn K cd26 "_law_lay" = true)
    (k26 : PySem.W.keepIn K (.ref fLL) = true)
    (a27 : PySem.W.nsIn K mainGlobals "_law_resolved" = some (some (.ref fLR)))
    (l27 : K.lookup fLR = some ⟨oc27, od27, .func (PySem.W.fnOf "_law_resolved" "_law_resolved" (defArgs sLRes) (defBody sLRes) (defScope sLRes) .none kV27 dc27 pm27 an27 cd27 ct27), sl27⟩)
    (c27 : PySem.W.codeIn K cd27 "_law_resolved" = true)
    (k27 : PySem.W.keepIn K (.ref fLR) = true)
    (a28 : PySem.W.nsIn K mainGlobals "_law_asked" = some (some (.ref fAs)))
    (l28 : K.lookup fAs = some ⟨oc28, od28, .func (PySem.W.fnOf "_law_asked" "_law_asked" (defArgs sAsked) (defBody sAsked) (defScope sAsked) .none kV28 dc28 pm28 an28 cd28 ct28), sl28⟩)
    (c28 : PySem.W.codeIn K cd28 "_law_asked" = true)
    (k28 : PySem.W.keepIn K (.ref fAs) = true)
    (a29 : PySem.W.nsIn K mainGlobals "_law_done" = some (some (.ref fDn)))
    (l29 : K.lookup fDn = some ⟨oc29, od29, .func (PySem.W.fnOf "_law_done" "_law_done" (defArgs sDone) (defBody sDone) (defScope sDone) .none kV29 dc29 pm29 an29 cd29 ct29), sl29⟩)
    (c29 : PySem.W.codeIn K cd29 "_law_done" = true)
    (k29 : PySem.W.keepIn K (.ref fDn) = true)
    (a30 : PySem.W.nsIn K mainGlobals "_law_due" = some (some (.ref fDu)))
    (l30 : K.lookup fDu = some ⟨oc30, od30, .func (PySem.W.fnOf "_law_due" "_law_due" (defArgs sDue) (defBody sDue) (defScope sDue) .none kV30 dc30 pm30 an30 cd30 ct30), sl30⟩)
    (c30 : PySem.W.codeIn K cd30 "_law_due" = true)
    (k30 : PySem.W.keepIn K (.ref fDu) = true)
    (a31 : PySem.W.nsIn K mainGlobals "_law_apart" = some (some (.ref fAp)))
    (l31 : K.lookup fAp = some ⟨oc31, od31, .func (PySem.W.fnOf "_law_apart" "_law_apart" (defArgs sApart) (defBody sApart) (defScope sApart) .none kV31 dc31 pm31 an31 cd31 ct31), sl31⟩)
    (c31 : PySem.W.codeIn K cd31 "_law_apart" = true)
    (k31 : PySem.W.keepIn K (.ref fAp) = true)
    (a32 : PySem.W.nsIn K mainGlobals "_law_deed" = some (some (.ref fDe)))
    (l32 : K.lookup fDe = some ⟨oc32, od32, .func (PySem.W.fnOf "_law_deed" "_law_deed" (defArgs sDeed) (defBody sDeed) (defScope sDeed) .none kV32 dc32 pm32 an32 cd32 ct32), sl32⟩)
    (c32 : PySem.W.codeIn K cd32 "_law_deed" = true)
    (k32 : PySem.W.keepIn K (.ref fDe) = true)
    (a33 : PySem.W.nsIn K mainGlobals "_law_numbers" = some (some (.ref fNu)))
    (l33 : K.lookup fNu = some ⟨oc33, od33, .func (PySem.W.fnOf "_law_numbers" "_law_numbers" (defArgs sNumbers) (defBody sNumbers) (defScope sNumbers) .none kV33 dc33 pm33 an33 cd33 ct33), sl33⟩)
    (c33 : PySem.W.codeIn K cd33 "_law_numbers" = true)
    (k33 : PySem.W.keepIn K (.ref fNu) = true)
    (a34 : PySem.W.nsIn K mainGlobals "_law_walk" = some (some (.ref fLW)))
    (l34 : K.lookup fLW = some ⟨oc34, od34, .func (PySem.W.fnOf "_law_walk" "_law_walk" (defArgs sLWalk) (defBody sLWalk) (defScope sLWalk) .none kV34 dc34 pm34 an34 cd34 ct34), sl34⟩)
    (c34 : PySem.W.codeIn K cd34 "_law_walk" = true)
    (k34 : PySem.W.keepIn K (.ref fLW) = true)
    (a35 : PySem.W.nsIn K mainGlobals "_law_ends_well" = some (some (.ref fEw)))
    (l35 : K.lookup fEw = some ⟨oc35, od35, .func (PySem.W.fnOf "_law_ends_well" "_law_ends_well" (defArgs sEnds) (defBody sEnds) (defScope sEnds) .none kV35 dc35 pm35 an35 cd35 ct35), sl35⟩)
    (c35 : PySem.W.codeIn K cd35 "_law_ends_well" = true)
    (k35 : PySem.W.keepIn K (.ref fEw) = true)
    (a36 : PySem.W.nsIn K mainGlobals "law" = some (some (.ref fL)))
    (l36 : K.lookup fL = some ⟨oc36, od36, .func (PySem.W.fnOf "law" "law" (defArgs sLaw) (defBody sLaw) (defScope sLaw) .none kV36 dc36 pm36 an36 cd36 ct36), sl36⟩)
    (c36 : PySem.W.codeIn K cd36 "law" = true)
    (k36 : PySem.W.keepIn K (.ref fL) = true)
    (z_ValueError : PySem.W.nsIn K mainGlobals "ValueError" = some none)
    (z_isinstance : PySem.W.nsIn K mainGlobals "isinstance" = some none)
    (z_len : PySem.W.nsIn K mainGlobals "len" = some none)
    (z_list : PySem.W.nsIn K mainGlobals "list" = some none)
    (z_all : PySem.W.nsIn K mainGlobals "all" = some none)
    (z_range : PySem.W.nsIn K mainGlobals "range" = some none)
    (z_enumerate : PySem.W.nsIn K mainGlobals "enumerate" = some none)
    (z_int : PySem.W.nsIn K mainGlobals "int" = some none)
    (z_str : PySem.W.nsIn K mainGlobals "str" = some none)
    (z_bool : PySem.W.nsIn K mainGlobals "bool" = some none)
    (z_min : PySem.W.nsIn K mainGlobals "min" = some none)
    (z_max : PySem.W.nsIn K mainGlobals "max" = some none)
    (z_tuple : PySem.W.nsIn K mainGlobals "tuple" = some none)
    (fv0 : PySem.W.kitOne K (.ref d0) (.type "ValueError") = some true)
    (sb0 : PySem.W.mroIn K d0 (.ref CH) = some true) :
    ∃ fd : FuncData, (∀ (s : Shared) (v : Value), BindsTo s fd ⟨[v], []⟩ [("script", v)]) ∧ ∀ base : Heap, K.In base → base.Ns mainGlobals mg → FnOk l.prog w K mg base (CXE l.prog w) 12 fa fd ["script"] (spLaw K) := by
  have e := hfa.symm.trans (PySem.W.mg_of X G a36)
  cases e
  obtain ⟨cdH, _, yH⟩ := xcls_of xH
  obtain ⟨cx0, hc0, y0⟩ := xcls_of x0
  have su : ∀ {D : Addr} {cd : ClassData}, PySem.W.clsIn K D = some cd → XCls K D cd → PySem.W.mroIn K D (.ref CH) = some true → ∃ cd, XCls K D cd ∧ cd.mro.contains (.ref CH) = true := fun {D cd} hc y sb => ⟨cd, y, by
    unfold PySem.W.mroIn at sb
    rw [hc, Option.bind_some, if_neg (by rw [y.notEmpty]; decide)] at sb
    exact Option.some.inj sb⟩
  have T : Txt K mg CH d0 fXI := ⟨⟨cdH, yH⟩, PySem.W.mg_of X G nH, PySem.W.mg_of X G n0, ⟨⟨cx0, y0⟩, ⟨ga0, gt0⟩, gc0⟩, ⟨⟨cx0, y0⟩, ii0, fi, kc0⟩, fv0, su hc0 y0 sb0, PySem.W.mg_none_of X G z_ValueError, PySem.W.mg_none_of X G z_isinstance, PySem.W.mg_none_of X G z_len, PySem.W.mg_none_of X G z_list, PySem.W.mg_none_of X G z_all, PySem.W.mg_none_of X G z_range, PySem.W.mg_none_of X G z_enumerate, PySem.W.mg_none_of X G z_int, PySem.W.mg_none_of X G z_str, PySem.W.mg_none_of X G z_bool, PySem.W.mg_none_of X G z_min, PySem.W.mg_none_of X G z_max, PySem.W.mg_none_of X G z_tuple⟩
  have F1 := fun_mk (st := sXI) l1 c1 k1
  have F2 := fun_mk (st := sMI) l2 c2 k2
  have F3 := fun_mk (st := sSize) l3 c3 k3
  have F4 := fun_mk (st := sAt) l4 c4 k4
  have F5 := fun_mk (st := sPut) l5 c5 k5
  have F6 := fun_mk (st := sCopy) l6 c6 k6
  have F7 := fun_mk (st := sLk) l7 c7 k7
  have F8 := fun_mk (st := sKind) l8 c8 k8
  have F9 := fun_mk (st := sRoom) l9 c9 k9
  have F10 := fun_mk (st := sTold) l10 c10 k10
  have F11 := fun_mk (st := sFAt) l11 c11 k11
  have F12 := fun_mk (st := sAddr) l12 c12 k12
  have F13 := fun_mk (st := sThing) l13 c13 k13
  have F14 := fun_mk (st := sWalk) l14 c14 k14
  have F15 := fun_mk (st := sMove) l15 c15 k15
  have F16 := fun_mk (st := sLay) l16 c16 k16
  have F17 := fun_mk (st := sField) l17 c17 k17
  have F18 := fun_mk (st := sPutF) l18 c18 k18
  have F19 := fun_mk (st := sRes) l19 c19 k19
  have F20 := fun_mk (st := sCell) l20 c20 k20
  have F21 := fun_mk (st := sMixed) l21 c21 k21
  have F22 := fun_mk (st := sAlike) l22 c22 k22
  have F23 := fun_mk (st := sShows) l23 c23 k23
  have F24 := fun_mk (st := sWord) l24 c24 k24
  have F25 := fun_mk (st := sLThing) l25 c25 k25
  have F26 := fun_mk (st := sLLay) l26 c26 k26
  have F27 := fun_mk (st := sLRes) l27 c27 k27
  have F28 := fun_mk (st := sAsked) l28 c28 k28
  have F29 := fun_mk (st := sDone) l29 c29 k29
  have F30 := fun_mk (st := sDue) l30 c30 k30
  have F31 := fun_mk (st := sApart) l31 c31 k31
  have F32 := fun_mk (st := sDeed) l32 c32 k32
  have F33 := fun_mk (st := sNumbers) l33 c33 k33
  have F34 := fun_mk (st := sLWalk) l34 c34 k34
  have F35 := fun_mk (st := sEnds) l35 c35 k35
  have F36 := fun_mk (st := sLaw) l36 c36 k36
  have b1 := F1.binds (ps := ["self", "text"]) fun _ _ _ _ _ _ us hl => match us, hl with | [_, _], _ => rfl
  have b2 := F2.binds (ps := ["self", "size"]) fun _ _ _ _ _ _ us hl => match us, hl with | [_, _], _ => rfl
  have b3 := F3.binds (ps := ["self"]) fun _ _ _ _ _ _ us hl => match us, hl with | [_], _ => rfl
  have b4 := F4.binds (ps := ["self", "a"]) fun _ _ _ _ _ _ us hl => match us, hl with | [_, _], _ => rfl
  have b5 := F5.binds (ps := ["self", "a", "word"]) fun _ _ _ _ _ _ us hl => match us, hl with | [_, _, _], _ => rfl
  have b6 := F6.binds (ps := ["self"]) fun _ _ _ _ _ _ us hl => match us, hl with | [_], _ => rfl
  have b7 := F7.binds (ps := ["self", "a"]) fun _ _ _ _ _ _ us hl => match us, hl with | [_, _], _ => rfl
  have b8 := F8.binds (ps := ["value"]) fun _ _ _ _ _ _ us hl => match us, hl with | [_], _ => rfl
  have b9 := F9.binds (ps := ["memory", "a", "fields"]) fun _ _ _ _ _ _ us hl => match us, hl with | [_, _, _], _ => rfl
  have b10 := F10.binds (ps := ["memory", "a", "kinds"]) fun _ _ _ _ _ _ us hl => match us, hl with | [_, _, _], _ => rfl
  have b11 := F11.binds (ps := ["memory", "a"]) fun _ _ _ _ _ _ us hl => match us, hl with | [_, _], _ => rfl
  have b12 := F12.binds (ps := ["memory", "a", "k"]) fun _ _ _ _ _ _ us hl => match us, hl with | [_, _, _], _ => rfl
  have b13 := F13.binds (ps := ["memory", "a"]) fun _ _ _ _ _ _ us hl => match us, hl with | [_, _], _ => rfl
  have b14 := F14.binds (ps := ["memory", "first", "behind"]) fun _ _ _ _ _ _ us hl => match us, hl with | [_, _, _], _ => rfl
  have b15 := F15.binds (ps := ["memory", "a", "b"]) fun _ _ _ _ _ _ us hl => match us, hl with | [_, _, _], _ => rfl
  have b16 := F16.binds (ps := ["memory", "a", "t", "values"]) fun _ _ _ _ _ _ us hl => match us, hl with | [_, _, _, _], _ => rfl
  have b17 := F17.binds (ps := ["memory", "a", "k"]) fun _ _ _ _ _ _ us hl => match us, hl with | [_, _, _], _ => rfl
  have b18 := F18.binds (ps := ["memory", "a", "k", "word"]) fun _ _ _ _ _ _ us hl => match us, hl with | [_, _, _, _], _ => rfl
  have b19 := F19.binds (ps := ["memory", "a"]) fun _ _ _ _ _ _ us hl => match us, hl with | [_, _], _ => rfl
  have b20 := F20.binds (ps := ["script", "k"]) fun _ _ _ _ _ _ us hl => match us, hl with | [_, _], _ => rfl
  have b21 := F21.binds (ps := ["cell", "k"]) fun _ _ _ _ _ _ us hl => match us, hl with | [_, _], _ => rfl
  have b22 := F22.binds (ps := ["found", "due"]) fun _ _ _ _ _ _ us hl => match us, hl with | [_, _], _ => rfl
  have b23 := F23.binds (ps := ["memory", "model"]) fun _ _ _ _ _ _ us hl => match us, hl with | [_, _], _ => rfl
  have b24 := F24.binds (ps := ["cell"]) fun _ _ _ _ _ _ us hl => match us, hl with | [_], _ => rfl
  have b25 := F25.binds (ps := ["model", "a"]) fun _ _ _ _ _ _ us hl => match us, hl with | [_, _], _ => rfl
  have b26 := F26.binds (ps := ["model", "a", "t", "values"]) fun _ _ _ _ _ _ us hl => match us, hl with | [_, _, _, _], _ => rfl
  have b27 := F27.binds (ps := ["model", "a"]) fun _ _ _ _ _ _ us hl => match us, hl with | [_, _], _ => rfl
  have b28 := F28.binds (ps := ["memory", "deed"]) fun _ _ _ _ _ _ us hl => match us, hl with | [_, _], _ => rfl
  have b29 := F29.binds (ps := ["memory", "deed"]) fun _ _ _ _ _ _ us hl => match us, hl with | [_, _], _ => rfl
  have b30 := F30.binds (ps := ["model", "deed"]) fun _ _ _ _ _ _ us hl => match us, hl with | [_, _], _ => rfl
  have b31 := F31.binds (ps := ["model", "a", "b"]) fun _ _ _ _ _ _ us hl => match us, hl with | [_, _, _], _ => rfl
  have b32 := F32.binds (ps := ["number", "known", "k"]) fun _ _ _ _ _ _ us hl => match us, hl with | [_, _, _], _ => rfl
  have b33 := F33.binds (ps := ["script"]) fun _ _ _ _ _ _ us hl => match us, hl with | [_], _ => rfl
  have b34 := F34.binds (ps := ["model", "first", "behind"]) fun _ _ _ _ _ _ us hl => match us, hl with | [_, _, _], _ => rfl
  have b35 := F35.binds (ps := ["memory", "model", "known"]) fun _ _ _ _ _ _ us hl => match us, hl with | [_, _, _], _ => rfl
  refine ⟨PySem.W.fnOf "law" "law" (defArgs sLaw) (defBody sLaw) (defScope sLaw) .none kV36 dc36 pm36 an36 cd36 ct36, fun s v => .of_eq rfl, fun base _ _ => ?_⟩
  have m := fun {n : Str} {v : Value} (q : PySem.W.nsIn K mainGlobals n = some (some v)) => PySem.W.mg_of X G q
  have M : MemC K CM fMI fSz fAt fPut fCp fLk := ⟨⟨cpg, chd, cpo, csa⟩, cna, ⟨mmk, mii, mfn, mkp⟩, ⟨t3, u3, k3⟩, ⟨t4, u4, k4⟩, ⟨t5, u5, k5⟩, ⟨t6, u6, k6⟩, ⟨t7, u7, k7⟩⟩
  have GX := ok_xi (P := l.prog) (w := w) (mg := mg) (base := base) F1 T.z_ValueError
  have GL := ok_lk F7 T M GX b1
  have GT := ok_at F4 T M GL b7
  have GP := ok_put F5 T M GL b7
  have GZ := ok_size (P := l.prog) (w := w) (mg := mg) (base := base) F3 T M
  have GI := ok_mi (P := l.prog) (w := w) (mg := mg) (base := base) F2 M
  have GCp := ok_cp F6 T M (m gM) GI b2
  have GKi := ok_kind (P := l.prog) (w := w) (mg := mg) (base := base) F8
  have GRo := ok_room F9 T M GX b1 GZ b3
  have GTo := ok_told2 F10 T M GX b1 GT b4 GKi (m a8) k8 b8 GRo (m a9) k9 b9
  have GFA := ok_fat2 F11 GTo (m a10) k10 b10
  have GAd := ok_addr F12 T GX b1 GFA (m a11) k11 b11
  have GTh := ok_thing F13 T M GT b4 GFA (m a11) k11 b11
  have GLy := (ok_lay F16 T M GP b5 GRo (m a9) k9 b9).mono (show 5 ≤ 7 by decide)
  have GMo := ok_move F15 T M GP b5 GTh (m a13) k13 b13 GLy (m a16) k16 b16
  have GWk := ok_walk F14 T GX b1 GTo (m a10) k10 b10
  have GFi := ok_field F17 M GT b4 GAd (m a12) k12 b12
  have GPf := ok_putf F18 M GP b5 GAd (m a12) k12 b12
  have GRe := ok_res F19 M GT b4 GKi (m a8) k8 b8
  have GAs := ok_asked F28 GLy (m a16) k16 b16 GPf (m a18) k18 b18 GMo (m a15) k15 b15 GTh (m a13) k13 b13 GWk (m a14) k14 b14 GFi (m a17) k17 b17 GRe (m a19) k19 b19
  have GDn := ok_done F29 T GAs (m a28) k28 b28
  have GLT := ok_lt (P := l.prog) (w := w) (mg := mg) (base := base) F25 T
  have GDu := ok_due F30 T (ok_ll F26 T) (m a26) k26 b26 GLT (m a25) k25 b25 (ok_lres F27 T) (m a27) k27 b27
  have GAp := ok_apart F31 T GLT (m a25) k25 b25
  have GDe := ok_deed F32 T (ok_word (P := l.prog) (w := w) (mg := mg) (base := base) F24) (m a24) k24 b24
  have GCe := ok_cell (P := l.prog) (w := w) (mg := mg) (base := base) F20 T.z_len
  have GNu := ok_nums F33 T GCe (m a20) k20 b20 (ok_mixed F21) (m a21) k21 b21
  have GLW := ok_lwalk (P := l.prog) (w := w) (mg := mg) (base := base) F34 T
  have GA := ok_al (P := l.prog) (w := w) (mg := mg) (base := base) F22 T (m a22) k22 b22
  have GS := ok_shows F23 T M GZ b3 GT b4 (GA 1) (m a22) k22 b22
  have GEw := ok_ew F35 T GDn (m a29) k29 b29 GDu (m a30) k30 b30 (GA 4) (m a22) k22 b22 GLW (m a34) k34 b34
  exact ok_law F36 T M (m gM) GI b2 GCp b6 GDn (m a29) k29 b29 GDu (m a30) k30 b30 (GA 4) (m a22) k22 b22 GNu (m a33) k33 b33 GDe (m a32) k32 b32 GAp (m a31) k31 b31 GS (m a23) k23 b23 GCe (m a20) k20 b20 GEw (m a35) k35 b35
theorem walk {l : PySem.W.OpenLaw} {q : Program} {loose : List Str} {XP : (Str → Option Value) → Heap → Prop} {YP : World → Heap → Prop} {d : DefRec} {K : Params → PySem.W.Frag} (hn : l.most = some 63) (hdf : d.params.defaults = [])
    (hY : ∀ (w : World) (h : Heap), YP w h → (K w.params).In h)
    (F : ∀ (w : World) (mg : Str → Option Value) (fa : Addr) (h : Heap), (K w.params).In h → h.Ns mainGlobals mg → mg d.name = some (.ref fa) →
      ∃ fd : FuncData, (∀ (s : Shared) (u : Value), BindsTo s fd ⟨[u], []⟩ [("script", u)]) ∧ ∀ base : Heap, (K w.params).In base → base.Ns mainGlobals mg → FnOk l.prog w (K w.params) mg base (CXE l.prog w) 12 fa fd ["script"] (spLaw (K w.params))) :
    PySem.W.WalkO q loose XP YP l.row.toRowW d [] (fun f vs => PySem.call f vs) :=
  L2.walk_of (n := 63) (k := 12) (x := "script") (CX := fun w => CXE l.prog w) (sp := fun w => spLaw (K w.params)) hn (by decide) hdf ⟨rfl, by decide, by decide⟩ hY F (fun _ _ a ns hl _ hS => ⟨a, ns, rfl, hS, hl, fun _ => rfl⟩) fun _ _ _ _ _ z => noneE z
end K34
/-! ### the heap, from the top's first statement to its last -/
namespace K34
open PySem PySem.W L2
section
def hO0 (P : Params) : Obj := ⟨(.type "dict"), none, (.dict (List.toArray [⟨(PySem.PyData.keyHash P "__name__"), (.str "__name__" 1), (.str "builtins" 160)⟩, ⟨(PySem.PyData.keyHash P "__doc__"), (.str "__doc__" 2), (.builtin "builtins.__doc__:str#opaque")⟩, ⟨(PySem.PyData.keyHash P "__package__"), (.str "__package__" 3), (.builtin "builtins.__package__:str#opaque")⟩, ⟨(PySem.PyData.keyHash P "__loader__"), (.str "__loader__" 4), (.builtin "builtins.__loader__:shared#opaque")⟩, ⟨(PySem.PyData.keyHash P "__spec__"), (.str "__spec__" 5), (.builtin "builtins.__spec__#opaque")⟩, ⟨(PySem.PyData.keyHash P "__build_class__"), (.str "__build_class__" 6), (.builtin "__build_class__")⟩, ⟨(PySem.PyData.keyHash P "__import__"), (.str "__import__" 7), (.builtin "__import__")⟩, ⟨(PySem.PyData.keyHash P "abs"), (.str "abs" 8), (.builtin "abs")⟩, ⟨(PySem.PyData.keyHash P "all"), (.str "all" 9), (.builtin "all")⟩, ⟨(PySem.PyData.keyHash P "any"), (.str "any" 10), (.builtin "any")⟩, ⟨(PySem.PyData.keyHash P "ascii"), (.str "ascii" 11), (.builtin "ascii")⟩, ⟨(PySem.PyData.keyHash P "bin"), (.str "bin" 12), (.builtin "bin")⟩, ⟨(PySem.PyData.keyHash P "breakpoint"), (.str "breakpoint" 13), (.builtin "breakpoint")⟩, ⟨(PySem.PyData.keyHash P "callable"), (.str "callable" 14), (.builtin "callable")⟩, ⟨(PySem.PyData.keyHash P "chr"), (.str "chr" 15), (.builtin "chr")⟩, ⟨(PySem.PyData.keyHash P "compile"), (.str "compile" 16), (.builtin "compile")⟩, ⟨(PySem.PyData.keyHash P "delattr"), (.str "delattr" 17), (.builtin "delattr")⟩, ⟨(PySem.PyData.keyHash P "dir"), (.str "dir" 18), (.builtin "dir")⟩, ⟨(PySem.PyData.keyHash P "divmod"), (.str "divmod" 19), (.builtin "divmod")⟩, ⟨(PySem.PyData.keyHash P "eval"), (.str "eval" 20), (.builtin "eval")⟩, ⟨(PySem.PyData.keyHash P "exec"), (.str "exec" 21), (.builtin "exec")⟩, ⟨(PySem.PyData.keyHash P "format"), (.str "format" 22), (.builtin "format")⟩, ⟨(PySem.PyData.keyHash P "getattr"), (.str "getattr" 23), (.builtin "getattr")⟩, ⟨(PySem.PyData.keyHash P "globals"), (.str "globals" 24), (.builtin "globals")⟩, ⟨(PySem.PyData.keyHash P "hasattr"), (.str "hasattr" 25), (.builtin "hasattr")⟩, ⟨(PySem.PyData.keyHash P "hash"), (.str "hash" 26), (.builtin "hash")⟩, ⟨(PySem.PyData.keyHash P "hex"), (.str "hex" 27), (.builtin "hex")⟩, ⟨(PySem.PyData.keyHash P "id"), (.str "id" 28), (.builtin "id")⟩, ⟨(PySem.PyData.keyHash P "input"), (.str "input" 29), (.builtin "input")⟩, ⟨(PySem.PyData.keyHash P "isinstance"), (.str "isinstance" 30), (.builtin "isinstance")⟩, ⟨(PySem.PyData.keyHash P "issubclass"), (.str "issubclass" 31), (.builtin "issubclass")⟩, ⟨(PySem.PyData.keyHash P "iter"), (.str "iter" 32), (.builtin "iter")⟩, ⟨(PySem.PyData.keyHash P "aiter"), (.str "aiter" 33), (.builtin "aiter")⟩, ⟨(PySem.PyData.keyHash P "len"), (.str "len" 34), (.builtin "len")⟩, ⟨(PySem.PyData.keyHash P "locals"), (.str "locals" 35), (.builtin "locals")⟩, ⟨(PySem.PyData.keyHash P "max"), (.str "max" 36), (.builtin "max")⟩, ⟨(PySem.PyData.keyHash P "min"), (.str "min" 37), (.builtin "min")⟩, ⟨(PySem.PyData.keyHash P "next"), (.str "next" 38), (.builtin "next")⟩, ⟨(PySem.PyData.keyHash P "anext"), (.str "anext" 39), (.builtin "anext")⟩, ⟨(PySem.PyData.keyHash P "oct"), (.str "oct" 40), (.builtin "oct")⟩, ⟨(PySem.PyData.keyHash P "ord"), (.str "ord" 41), (.builtin "ord")⟩, ⟨(PySem.PyData.keyHash P "pow"), (.str "pow" 42), (.builtin "pow")⟩, ⟨(PySem.PyData.keyHash P "print"), (.str "print" 43), (.builtin "print")⟩, ⟨(PySem.PyData.keyHash P "repr"), (.str "repr" 44), (.builtin "repr")⟩, ⟨(PySem.PyData.keyHash P "round"), (.str "round" 45), (.builtin "round")⟩, ⟨(PySem.PyData.keyHash P "setattr"), (.str "setattr" 46), (.builtin "setattr")⟩, ⟨(PySem.PyData.keyHash P "sorted"), (.str "sorted" 47), (.builtin "sorted")⟩, ⟨(PySem.PyData.keyHash P "sum"), (.str "sum" 48), (.builtin "sum")⟩, ⟨(PySem.PyData.keyHash P "vars"), (.str "vars" 49), (.builtin "vars")⟩, ⟨(PySem.PyData.keyHash P "None"), (.str "None" 50), .none⟩, ⟨(PySem.PyData.keyHash P "Ellipsis"), (.str "Ellipsis" 51), .ellipsis⟩, ⟨(PySem.PyData.keyHash P "NotImplemented"), (.str "NotImplemented" 52), .notImplemented⟩, ⟨(PySem.PyData.keyHash P "False"), (.str "False" 53), (.bool false)⟩, ⟨(PySem.PyData.keyHash P "True"), (.str "True" 54), (.bool true)⟩, ⟨(PySem.PyData.keyHash P "bool"), (.str "bool" 55), (.type "bool")⟩, ⟨(PySem.PyData.keyHash P "memoryview"), (.str "memoryview" 56), (.type "memoryview")⟩, ⟨(PySem.PyData.keyHash P "bytearray"), (.str "bytearray" 57), (.type "bytearray")⟩, ⟨(PySem.PyData.keyHash P "bytes"), (.str "bytes" 58), (.type "bytes")⟩, ⟨(PySem.PyData.keyHash P "classmethod"), (.str "classmethod" 59), (.type "classmethod")⟩, ⟨(PySem.PyData.keyHash P "complex"), (.str "complex" 60), (.type "complex")⟩, ⟨(PySem.PyData.keyHash P "dict"), (.str "dict" 61), (.type "dict")⟩, ⟨(PySem.PyData.keyHash P "enumerate"), (.str "enumerate" 62), (.type "enumerate")⟩, ⟨(PySem.PyData.keyHash P "filter"), (.str "filter" 63), (.type "filter")⟩, ⟨(PySem.PyData.keyHash P "float"), (.str "float" 64), (.type "float")⟩, ⟨(PySem.PyData.keyHash P "frozenset"), (.str "frozenset" 65), (.type "frozenset")⟩, ⟨(PySem.PyData.keyHash P "property"), (.str "property" 66), (.type "property")⟩, ⟨(PySem.PyData.keyHash P "int"), (.str "int" 67), (.type "int")⟩, ⟨(PySem.PyData.keyHash P "list"), (.str "list" 68), (.type "list")⟩, ⟨(PySem.PyData.keyHash P "map"), (.str "map" 69), (.type "map")⟩, ⟨(PySem.PyData.keyHash P "object"), (.str "object" 70), (.type "object")⟩, ⟨(PySem.PyData.keyHash P "range"), (.str "range" 71), (.type "range")⟩, ⟨(PySem.PyData.keyHash P "reversed"), (.str "reversed" 72), (.type "reversed")⟩, ⟨(PySem.PyData.keyHash P "set"), (.str "set" 73), (.type "set")⟩, ⟨(PySem.PyData.keyHash P "slice"), (.str "slice" 74), (.type "slice")⟩, ⟨(PySem.PyData.keyHash P "staticmethod"), (.str "staticmethod" 75), (.type "staticmethod")⟩, ⟨(PySem.PyData.keyHash P "str"), (.str "str" 76), (.type "str")⟩, ⟨(PySem.PyData.keyHash P "super"), (.str "super" 77), (.type "super")⟩, ⟨(PySem.PyData.keyHash P "tuple"), (.str "tuple" 78), (.type "tuple")⟩, ⟨(PySem.PyData.keyHash P "type"), (.str "type" 79), (.type "type")⟩, ⟨(PySem.PyData.keyHash P "zip"), (.str "zip" 80), (.type "zip")⟩, ⟨(PySem.PyData.keyHash P "__debug__"), (.str "__debug__" 81), (.bool true)⟩, ⟨(PySem.PyData.keyHash P "BaseException"), (.str "BaseException" 82), (.type "BaseException")⟩, ⟨(PySem.PyData.keyHash P "BaseExceptionGroup"), (.str "BaseExceptionGroup" 83), (.type "BaseExceptionGroup")⟩, ⟨(PySem.PyData.keyHash P "Exception"), (.str "Exception" 84), (.type "Exception")⟩, ⟨(PySem.PyData.keyHash P "GeneratorExit"), (.str "GeneratorExit" 85), (.type "GeneratorExit")⟩, ⟨(PySem.PyData.keyHash P "KeyboardInterrupt"), (.str "KeyboardInterrupt" 86), (.type "KeyboardInterrupt")⟩, ⟨(PySem.PyData.keyHash P "SystemExit"), (.str "SystemExit" 87), (.type "SystemExit")⟩, ⟨(PySem.PyData.keyHash P "ArithmeticError"), (.str "ArithmeticError" 88), (.type "ArithmeticError")⟩, ⟨(PySem.PyData.keyHash P "AssertionError"), (.str "AssertionError" 89), (.type "AssertionError")⟩, ⟨(PySem.PyData.keyHash P "AttributeError"), (.str "AttributeError" 90), (.type "AttributeError")⟩, ⟨(PySem.PyData.keyHash P "BufferError"), (.str "BufferError" 91), (.type "BufferError")⟩, ⟨(PySem.PyData.keyHash P "EOFError"), (.str "EOFError" 92), (.type "EOFError")⟩, ⟨(PySem.PyData.keyHash P "ImportError"), (.str "ImportError" 93), (.type "ImportError")⟩, ⟨(PySem.PyData.keyHash P "LookupError"), (.str "LookupError" 94), (.type "LookupError")⟩, ⟨(PySem.PyData.keyHash P "MemoryError"), (.str "MemoryError" 95), (.type "MemoryError")⟩, ⟨(PySem.PyData.keyHash P "NameError"), (.str "NameError" 96), (.type "NameError")⟩, ⟨(PySem.PyData.keyHash P "OSError"), (.str "OSError" 97), (.type "OSError")⟩, ⟨(PySem.PyData.keyHash P "ReferenceError"), (.str "ReferenceError" 98), (.type "ReferenceError")⟩, ⟨(PySem.PyData.keyHash P "RuntimeError"), (.str "RuntimeError" 99), (.type "RuntimeError")⟩, ⟨(PySem.PyData.keyHash P "StopAsyncIteration"), (.str "StopAsyncIteration" 100), (.type "StopAsyncIteration")⟩, ⟨(PySem.PyData.keyHash P "StopIteration"), (.str "StopIteration" 101), (.type "StopIteration")⟩, ⟨(PySem.PyData.keyHash P "SyntaxError"), (.str "SyntaxError" 102), (.type "SyntaxError")⟩, ⟨(PySem.PyData.keyHash P "SystemError"), (.str "SystemError" 103), (.type "SystemError")⟩, ⟨(PySem.PyData.keyHash P "TypeError"), (.str "TypeError" 104), (.type "TypeError")⟩, ⟨(PySem.PyData.keyHash P "ValueError"), (.str "ValueError" 105), (.type "ValueError")⟩, ⟨(PySem.PyData.keyHash P "Warning"), (.str "Warning" 106), (.type "Warning")⟩, ⟨(PySem.PyData.keyHash P "FloatingPointError"), (.str "FloatingPointError" 107), (.type "FloatingPointError")⟩, ⟨(PySem.PyData.keyHash P "OverflowError"), (.str "OverflowError" 108), (.type "OverflowError")⟩, ⟨(PySem.PyData.keyHash P "ZeroDivisionError"), (.str "ZeroDivisionError" 109), (.type "ZeroDivisionError")⟩, ⟨(PySem.PyData.keyHash P "BytesWarning"), (.str "BytesWarning" 110), (.type "BytesWarning")⟩, ⟨(PySem.PyData.keyHash P "DeprecationWarning"), (.str "DeprecationWarning" 111), (.type "DeprecationWarning")⟩, ⟨(PySem.PyData.keyHash P "EncodingWarning"), (.str "EncodingWarning" 112), (.type "EncodingWarning")⟩, ⟨(PySem.PyData.keyHash P "FutureWarning"), (.str "FutureWarning" 113), (.type "FutureWarning")⟩, ⟨(PySem.PyData.keyHash P "ImportWarning"), (.str "ImportWarning" 114), (.type "ImportWarning")⟩, ⟨(PySem.PyData.keyHash P "PendingDeprecationWarning"), (.str "PendingDeprecationWarning" 115), (.type "PendingDeprecationWarning")⟩, ⟨(PySem.PyData.keyHash P "ResourceWarning"), (.str "ResourceWarning" 116), (.type "ResourceWarning")⟩, ⟨(PySem.PyData.keyHash P "RuntimeWarning"), (.str "RuntimeWarning" 117), (.type "RuntimeWarning")⟩, ⟨(PySem.PyData.keyHash P "SyntaxWarning"), (.str "SyntaxWarning" 118), (.type "SyntaxWarning")⟩, ⟨(PySem.PyData.keyHash P "UnicodeWarning"), (.str "UnicodeWarning" 119), (.type "UnicodeWarning")⟩, ⟨(PySem.PyData.keyHash P "UserWarning"), (.str "UserWarning" 120), (.type "UserWarning")⟩, ⟨(PySem.PyData.keyHash P "BlockingIOError"), (.str "BlockingIOError" 121), (.type "BlockingIOError")⟩, ⟨(PySem.PyData.keyHash P "ChildProcessError"), (.str "ChildProcessError" 122), (.type "ChildProcessError")⟩, ⟨(PySem.PyData.keyHash P "ConnectionError"), (.str "ConnectionError" 123), (.type "ConnectionError")⟩, ⟨(PySem.PyData.keyHash P "FileExistsError"), (.str "FileExistsError" 124), (.type "FileExistsError")⟩, ⟨(PySem.PyData.keyHash P "FileNotFoundError"), (.str "FileNotFoundError" 125), (.type "FileNotFoundError")⟩, ⟨(PySem.PyData.keyHash P "InterruptedError"), (.str "InterruptedError" 126), (.type "InterruptedError")⟩, ⟨(PySem.PyData.keyHash P "IsADirectoryError"), (.str "IsADirectoryError" 127), (.type "IsADirectoryError")⟩, ⟨(PySem.PyData.keyHash P "NotADirectoryError"), (.str "NotADirectoryError" 128), (.type "NotADirectoryError")⟩, ⟨(PySem.PyData.keyHash P "PermissionError"), (.str "PermissionError" 129), (.type "PermissionError")⟩, ⟨(PySem.PyData.keyHash P "ProcessLookupError"), (.str "ProcessLookupError" 130), (.type "ProcessLookupError")⟩, ⟨(PySem.PyData.keyHash P "TimeoutError"), (.str "TimeoutError" 131), (.type "TimeoutError")⟩, ⟨(PySem.PyData.keyHash P "IndentationError"), (.str "IndentationError" 132), (.type "IndentationError")⟩, ⟨(PySem.PyData.keyHash P "_IncompleteInputError"), (.str "_IncompleteInputError" 133), (.type "_IncompleteInputError")⟩, ⟨(PySem.PyData.keyHash P "IndexError"), (.str "IndexError" 134), (.type "IndexError")⟩, ⟨(PySem.PyData.keyHash P "KeyError"), (.str "KeyError" 135), (.type "KeyError")⟩, ⟨(PySem.PyData.keyHash P "ModuleNotFoundError"), (.str "ModuleNotFoundError" 136), (.type "ModuleNotFoundError")⟩, ⟨(PySem.PyData.keyHash P "NotImplementedError"), (.str "NotImplementedError" 137), (.type "NotImplementedError")⟩, ⟨(PySem.PyData.keyHash P "PythonFinalizationError"), (.str "PythonFinalizationError" 138), (.type "PythonFinalizationError")⟩, ⟨(PySem.PyData.keyHash P "RecursionError"), (.str "RecursionError" 139), (.type "RecursionError")⟩, ⟨(PySem.PyData.keyHash P "UnboundLocalError"), (.str "UnboundLocalError" 140), (.type "UnboundLocalError")⟩, ⟨(PySem.PyData.keyHash P "UnicodeError"), (.str "UnicodeError" 141), (.type "UnicodeError")⟩, ⟨(PySem.PyData.keyHash P "BrokenPipeError"), (.str "BrokenPipeError" 142), (.type "BrokenPipeError")⟩, ⟨(PySem.PyData.keyHash P "ConnectionAbortedError"), (.str "ConnectionAbortedError" 143), (.type "ConnectionAbortedError")⟩, ⟨(PySem.PyData.keyHash P "ConnectionRefusedError"), (.str "ConnectionRefusedError" 144), (.type "ConnectionRefusedError")⟩, ⟨(PySem.PyData.keyHash P "ConnectionResetError"), (.str "ConnectionResetError" 145), (.type "ConnectionResetError")⟩, ⟨(PySem.PyData.keyHash P "TabError"), (.str "TabError" 146), (.type "TabError")⟩, ⟨(PySem.PyData.keyHash P "UnicodeDecodeError"), (.str "UnicodeDecodeError" 147), (.type "UnicodeDecodeError")⟩, ⟨(PySem.PyData.keyHash P "UnicodeEncodeError"), (.str "UnicodeEncodeError" 148), (.type "UnicodeEncodeError")⟩, ⟨(PySem.PyData.keyHash P "UnicodeTranslateError"), (.str "UnicodeTranslateError" 149), (.type "UnicodeTranslateError")⟩, ⟨(PySem.PyData.keyHash P "ExceptionGroup"), (.str "ExceptionGroup" 150), (.type "ExceptionGroup")⟩, ⟨(PySem.PyData.keyHash P "EnvironmentError"), (.str "EnvironmentError" 151), (.type "OSError")⟩, ⟨(PySem.PyData.keyHash P "IOError"), (.str "IOError" 152), (.type "OSError")⟩, ⟨(PySem.PyData.keyHash P "open"), (.str "open" 153), (.builtin "open")⟩, ⟨(PySem.PyData.keyHash P "quit"), (.str "quit" 154), (.builtin "builtins.quit#opaque")⟩, ⟨(PySem.PyData.keyHash P "exit"), (.str "exit" 155), (.builtin "builtins.exit#opaque")⟩, ⟨(PySem.PyData.keyHash P "copyright"), (.str "copyright" 156), (.builtin "builtins.copyright#opaque")⟩, ⟨(PySem.PyData.keyHash P "credits"), (.str "credits" 157), (.builtin "builtins.credits#opaque")⟩, ⟨(PySem.PyData.keyHash P "license"), (.str "license" 158), (.builtin "builtins.license#opaque")⟩, ⟨(PySem.PyData.keyHash P "help"), (.str "help" 159), (.builtin "builtins.help#opaque")⟩]) 159), (List.toArray [])⟩
def hO1 (P : Params) : Obj := ⟨(.type "dict"), none, (.dict (List.toArray [⟨(PySem.PyData.keyHash P "builtins"), (.str "builtins" 162), (.ref 4)⟩, ⟨(PySem.PyData.keyHash P "__main__"), (.str "__main__" 163), (.ref 5)⟩]) 2), (List.toArray [])⟩
def hO2 (P : Params) : Obj := ⟨.none, none, (.dict (List.toArray []) 0), (List.toArray [])⟩
def hO3 (P : Params) : Obj := ⟨(.type "dict"), none, (.dict (List.toArray [⟨(PySem.PyData.keyHash P "__name__"), (.str "__name__" 165), (.str "__main__" 164)⟩, ⟨(PySem.PyData.keyHash P "__doc__"), (.str "__doc__" 166), .none⟩, ⟨(PySem.PyData.keyHash P "__package__"), (.str "__package__" 167), .none⟩, ⟨(PySem.PyData.keyHash P "__loader__"), (.str "__loader__" 168), (.builtin "__main__.__loader__#opaque")⟩, ⟨(PySem.PyData.keyHash P "__spec__"), (.str "__spec__" 169), .none⟩, ⟨(PySem.PyData.keyHash P "__annotations__"), (.str "__annotations__" 170), (.ref 6)⟩, ⟨(PySem.PyData.keyHash P "__builtins__"), (.str "__builtins__" 171), (.ref 4)⟩, ⟨(PySem.PyData.keyHash P "__file__"), (.str "__file__" 173), (.str "/claim/cut.py" 172)⟩, ⟨(PySem.PyData.keyHash P "__cached__"), (.str "__cached__" 174), .none⟩]) 9), (List.toArray [])⟩
def hO4 (P : Params) : Obj := ⟨(.type "module"), (.some 0), .plain, (List.toArray [])⟩
def hO5 (P : Params) : Obj := ⟨(.type "module"), (.some 3), .plain, (List.toArray [])⟩
def hO6 (P : Params) : Obj := ⟨(.type "dict"), none, (.dict (List.toArray []) 0), (List.toArray [])⟩
def hO7 (P : Params) : Obj := ⟨(.type "tuple"), none, (.seq (List.toArray []) 0), (List.toArray [])⟩
def hO8 (P : Params) : Obj := ⟨.none, none, (.fields (List.toArray [])), (List.toArray [])⟩
def hO9 (P : Params) : Obj := ⟨(.type "code"), none, (.fields (List.toArray [(.str "<module>" 176), (.str "<module>" 177), (.str "/claim/cut.py" 178), (.int 1 0), (.int 0 0), (.int 0 0), (.int 0 0), (.int 0 0), (.ref 7), (.bool false), (.int 175 0), (.ref 8), .none, .none, .none, .none, (.int 179 0), (.int 1 0), (.str "/claim/cut.py" 180)])), (List.toArray [])⟩
def hO10 (P : Params) : Obj := ⟨(.type "frame"), none, .plain, (List.toArray [(.some (.ref 9)), (.some (.ref 3)), (.some (.ref 3)), none, (.some (.str "__main__" 164)), none, (.some (.ref 0))])⟩
def hO11 (P : Params) : Obj := ⟨(.type "tuple"), none, (.seq (List.toArray []) 0), (List.toArray [])⟩
def hO12 (P : Params) : Obj := ⟨.none, none, (.fields (List.toArray [])), (List.toArray [])⟩
def hO13 (P : Params) : Obj := ⟨(.type "code"), none, (.fields (List.toArray [(.str "<module>" 182), (.str "<module>" 183), (.str "/claim/cut.py" 184), (.int 1 0), (.int 0 0), (.int 0 0), (.int 0 0), (.int 0 0), (.ref 11), (.bool false), (.int 181 0), (.ref 12), .none, .none, .none, .none, (.int 185 0), (.int 1 0), (.str "/claim/cut.py" 186)])), (List.toArray [])⟩
def hO14 (P : Params) : Obj := ⟨(.type "frame"), none, .plain, (List.toArray [(.some (.ref 13)), (.some (.ref 3)), (.some (.ref 3)), none, (.some (.str "__main__" 164)), none, (.some (.ref 0))])⟩
def hO3_2 (P : Params) : Obj := ⟨(.type "dict"), none, (.dict (List.toArray [⟨(PySem.PyData.keyHash P "__name__"), (.str "__name__" 165), (.str "stillheap.memory" 366)⟩, ⟨(PySem.PyData.keyHash P "__doc__"), (.str "__doc__" 166), .none⟩, ⟨(PySem.PyData.keyHash P "__package__"), (.str "__package__" 167), .none⟩, ⟨(PySem.PyData.keyHash P "__loader__"), (.str "__loader__" 168), (.builtin "__main__.__loader__#opaque")⟩, ⟨(PySem.PyData.keyHash P "__spec__"), (.str "__spec__" 169), .none⟩, ⟨(PySem.PyData.keyHash P "__annotations__"), (.str "__annotations__" 170), (.ref 6)⟩, ⟨(PySem.PyData.keyHash P "__builtins__"), (.str "__builtins__" 171), (.ref 4)⟩, ⟨(PySem.PyData.keyHash P "__file__"), (.str "__file__" 173), (.str "/claim/cut.py" 172)⟩, ⟨(PySem.PyData.keyHash P "__cached__"), (.str "__cached__" 174), .none⟩, ⟨(PySem.PyData.keyHash P "_wall"), (.str "_wall" 193), (.ref 21)⟩, ⟨(PySem.PyData.keyHash P "HeapError"), (.str "HeapError" 228), (.ref 45)⟩, ⟨(PySem.PyData.keyHash P "BadAddress"), (.str "BadAddress" 251), (.ref 65)⟩, ⟨(PySem.PyData.keyHash P "kind_of"), (.str "kind_of" 260), (.ref 74)⟩, ⟨(PySem.PyData.keyHash P "lay"), (.str "lay" 274), (.ref 81)⟩, ⟨(PySem.PyData.keyHash P "thing_at"), (.str "thing_at" 280), (.ref 86)⟩, ⟨(PySem.PyData.keyHash P "resolved"), (.str "resolved" 289), (.ref 93)⟩, ⟨(PySem.PyData.keyHash P "field_at"), (.str "field_at" 298), (.ref 100)⟩, ⟨(PySem.PyData.keyHash P "put_field"), (.str "put_field" 308), (.ref 107)⟩, ⟨(PySem.PyData.keyHash P "move"), (.str "move" 318), (.ref 114)⟩, ⟨(PySem.PyData.keyHash P "walked"), (.str "walked" 329), (.ref 121)⟩, ⟨(PySem.PyData.keyHash P "fields_at"), (.str "fields_at" 337), (.ref 128)⟩, ⟨(PySem.PyData.keyHash P "fields_told"), (.str "fields_told" 347), (.ref 135)⟩, ⟨(PySem.PyData.keyHash P "field_address"), (.str "field_address" 356), (.ref 142)⟩, ⟨(PySem.PyData.keyHash P "look_at_room"), (.str "look_at_room" 365), (.ref 149)⟩]) 24), (List.toArray [])⟩
def hO12_2 (P : Params) : Obj := ⟨.none, none, (.fields (List.toArray [(.int 1 0), (.int 0 0), (.ref 20), (.int 5 0), (.int 0 0), (.ref 27), (.int 12 0), (.int 0 0), (.ref 54), (.int 17 0), (.int 0 0), (.ref 73), (.int 20 0), (.int 0 0), (.ref 80), (.int 25 0), (.int 0 0), (.ref 85), (.int 28 0), (.int 0 0), (.ref 92), (.int 34 0), (.int 0 0), (.ref 99), (.int 36 0), (.int 0 0), (.ref 106), (.int 38 0), (.int 0 0), (.ref 113), (.int 42 0), (.int 0 0), (.ref 120), (.int 51 0), (.int 0 0), (.ref 127), (.int 53 0), (.int 0 0), (.ref 134), (.int 59 0), (.int 0 0), (.ref 141), (.int 63 0), (.int 0 0), (.ref 148)])), (List.toArray [])⟩
def hO15 (P : Params) : Obj := ⟨(.type "tuple"), none, (.seq (List.toArray []) 0), (List.toArray [])⟩
def hO16 (P : Params) : Obj := ⟨.none, none, (.fields (List.toArray [])), (List.toArray [])⟩
def hO17 (P : Params) : Obj := ⟨(.type "tuple"), none, (.seq (List.toArray [(.str "k" 190)]) 0), (List.toArray [])⟩
def hO18 (P : Params) : Obj := ⟨(.type "tuple"), none, (.seq (List.toArray []) 0), (List.toArray [])⟩
def hO19 (P : Params) : Obj := ⟨.none, none, (.func ⟨"_wall", "_wall", defArgs (top 0), .stmts (defBody (top 0)), defScope (top 0), 0, [], .none, .none, .none, .none, none, .none, .none, 0⟩), (List.toArray [])⟩
def hO20 (P : Params) : Obj := ⟨(.type "code"), none, (.fields (List.toArray [(.str "_wall" 187), (.str "_wall" 188), (.str "/claim/cut.py" 189), (.int 1 0), (.int 1 0), (.int 0 0), (.int 0 0), (.int 3 0), (.ref 15), (.bool true), (.int 181 0), (.ref 16), .none, (.ref 17), (.ref 18), (.ref 19), (.int 191 0), (.int 1 0), (.str "/claim/cut.py" 192)])), (List.toArray [])⟩
def hO21 (P : Params) : Obj := ⟨(.type "function"), none, (.func (fnOf "_wall" "_wall" (defArgs (top 0)) (defBody (top 0)) (defScope (top 0)) .none .none .none (.str "__main__" 164) none (.ref 20) .none)), (List.toArray [])⟩
def hO22 (P : Params) : Obj := ⟨(.type "tuple"), none, (.seq (List.toArray [(.type "ValueError")]) 0), (List.toArray [])⟩
def hO23 (P : Params) : Obj := ⟨(.type "builtin_function_or_method"), none, (.fields (List.toArray [(.builtin "type.__prepare__"), (.type "type")])), (List.toArray [])⟩
def hO24 (P : Params) : Obj := ⟨(.type "dict"), none, (.dict (List.toArray [⟨(PySem.PyData.keyHash P "__module__"), (.str "__module__" 203), (.str "stillheap.errors" 194)⟩, ⟨(PySem.PyData.keyHash P "__qualname__"), (.str "__qualname__" 205), (.str "HeapError" 204)⟩, ⟨(PySem.PyData.keyHash P "__firstlineno__"), (.str "__firstlineno__" 207), (.int 5 206)⟩, ⟨(PySem.PyData.keyHash P "__init__"), (.str "__init__" 215), (.ref 35)⟩, ⟨(PySem.PyData.keyHash P "called"), (.str "called" 222), (.ref 42)⟩, ⟨(PySem.PyData.keyHash P "__static_attributes__"), (.str "__static_attributes__" 223), (.ref 43)⟩]) 6), (List.toArray [])⟩
def hO25 (P : Params) : Obj := ⟨(.type "tuple"), none, (.seq (List.toArray []) 0), (List.toArray [])⟩
def hO26 (P : Params) : Obj := ⟨.none, none, (.fields (List.toArray [(.int 7 0), (.int 4 0), (.ref 34), (.int 10 0), (.int 4 0), (.ref 41)])), (List.toArray [])⟩
def hO27 (P : Params) : Obj := ⟨(.type "code"), none, (.fields (List.toArray [(.str "HeapError" 198), (.str "HeapError" 199), (.str "/claim/cut.py" 200), (.int 5 0), (.int 0 0), (.int 0 0), (.int 0 0), (.int 0 0), (.ref 25), (.bool false), (.int 181 0), (.ref 26), .none, .none, .none, .none, (.int 201 0), (.int 5 0), (.str "/claim/cut.py" 202)])), (List.toArray [])⟩
def hO28 (P : Params) : Obj := ⟨(.type "frame"), none, .plain, (List.toArray [(.some (.ref 27)), (.some (.ref 3)), (.some (.ref 24)), none, (.some (.str "stillheap.errors" 194)), none, (.some (.ref 0))])⟩
def hO29 (P : Params) : Obj := ⟨(.type "tuple"), none, (.seq (List.toArray []) 0), (List.toArray [])⟩
def hO30 (P : Params) : Obj := ⟨.none, none, (.fields (List.toArray [])), (List.toArray [])⟩
def hO31 (P : Params) : Obj := ⟨(.type "tuple"), none, (.seq (List.toArray [(.str "self" 211), (.str "text" 212)]) 0), (List.toArray [])⟩
def hO32 (P : Params) : Obj := ⟨(.type "tuple"), none, (.seq (List.toArray []) 0), (List.toArray [])⟩
def hO33 (P : Params) : Obj := ⟨.none, none, (.func ⟨"__init__", "HeapError.__init__", defArgs (inClass (top 2) 0), .stmts (defBody (inClass (top 2) 0)), defScope (inClass (top 2) 0), 0, [], .none, .none, .none, .none, none, .none, .none, 0⟩), (List.toArray [])⟩
def hO34 (P : Params) : Obj := ⟨(.type "code"), none, (.fields (List.toArray [(.str "__init__" 208), (.str "HeapError.__init__" 209), (.str "/claim/cut.py" 210), (.int 7 0), (.int 2 0), (.int 0 0), (.int 0 0), (.int 3 0), (.ref 29), (.bool true), (.int 181 0), (.ref 30), .none, (.ref 31), (.ref 32), (.ref 33), (.int 213 0), (.int 7 0), (.str "/claim/cut.py" 214)])), (List.toArray [])⟩
def hO35 (P : Params) : Obj := ⟨(.type "function"), none, (.func (fnOf "__init__" "HeapError.__init__" (defArgs (inClass (top 2) 0)) (defBody (inClass (top 2) 0)) (defScope (inClass (top 2) 0)) .none .none .none (.str "stillheap.errors" 194) none (.ref 34) .none)), (List.toArray [])⟩
def hO36 (P : Params) : Obj := ⟨(.type "tuple"), none, (.seq (List.toArray []) 0), (List.toArray [])⟩
def hO37 (P : Params) : Obj := ⟨.none, none, (.fields (List.toArray [])), (List.toArray [])⟩
def hO38 (P : Params) : Obj := ⟨(.type "tuple"), none, (.seq (List.toArray [(.str "self" 219)]) 0), (List.toArray [])⟩
def hO39 (P : Params) : Obj := ⟨(.type "tuple"), none, (.seq (List.toArray []) 0), (List.toArray [])⟩
def hO40 (P : Params) : Obj := ⟨.none, none, (.func ⟨"called", "HeapError.called", defArgs (inClass (top 2) 1), .stmts (defBody (inClass (top 2) 1)), defScope (inClass (top 2) 1), 0, [], .none, .none, .none, .none, none, .none, .none, 0⟩), (List.toArray [])⟩
def hO41 (P : Params) : Obj := ⟨(.type "code"), none, (.fields (List.toArray [(.str "called" 216), (.str "HeapError.called" 217), (.str "/claim/cut.py" 218), (.int 10 0), (.int 1 0), (.int 0 0), (.int 0 0), (.int 3 0), (.ref 36), (.bool true), (.int 181 0), (.ref 37), .none, (.ref 38), (.ref 39), (.ref 40), (.int 220 0), (.int 10 0), (.str "/claim/cut.py" 221)])), (List.toArray [])⟩
def hO42 (P : Params) : Obj := ⟨(.type "function"), none, (.func (fnOf "called" "HeapError.called" (defArgs (inClass (top 2) 1)) (defBody (inClass (top 2) 1)) (defScope (inClass (top 2) 1)) .none .none .none (.str "stillheap.errors" 194) none (.ref 41) .none)), (List.toArray [])⟩
def hO43 (P : Params) : Obj := ⟨(.type "tuple"), none, (.seq (List.toArray []) 0), (List.toArray [])⟩
def hO44 (P : Params) : Obj := ⟨(.type "dict"), none, (.dict (List.toArray [⟨(PySem.PyData.keyHash P "__module__"), (.str "__module__" 203), (.str "stillheap.errors" 194)⟩, ⟨(PySem.PyData.keyHash P "__firstlineno__"), (.str "__firstlineno__" 207), (.int 5 206)⟩, ⟨(PySem.PyData.keyHash P "__init__"), (.str "__init__" 215), (.ref 35)⟩, ⟨(PySem.PyData.keyHash P "called"), (.str "called" 222), (.ref 42)⟩, ⟨(PySem.PyData.keyHash P "__static_attributes__"), (.str "__static_attributes__" 223), (.ref 43)⟩, ⟨(PySem.PyData.keyHash P "__weakref__"), (.str "__weakref__" 225), (.ref 46)⟩, ⟨(PySem.PyData.keyHash P "__doc__"), (.str "__doc__" 226), .none⟩]) 3), (List.toArray [])⟩
def hO45 (P : Params) : Obj := ⟨(.type "type"), none, (.cls ⟨"HeapError", [(.type "ValueError")], [(.ref 45), (.type "ValueError"), (.type "Exception"), (.type "BaseException"), (.type "object")], 44, "HeapError", true, [], [(.ref 65)], false, none, false⟩), (List.toArray [(.some (.ref 22)), none, (.some (.str "HeapError" 196)), (.some (.str "HeapError" 204)), (.some (.builtin "ValueError.__new__")), (.some (.bool true))])⟩
def hO46 (P : Params) : Obj := ⟨(.type "getset_descriptor"), none, (.fields (List.toArray [(.str "__weakref__" 224), (.ref 45), (.builtin "ExceptionGroup.__weakref__"), .none])), (List.toArray [])⟩
def hO47 (P : Params) : Obj := ⟨(.type "super"), none, (.fields (List.toArray [(.ref 45), (.ref 45), (.ref 45)])), (List.toArray [])⟩
def hO48 (P : Params) : Obj := ⟨(.type "builtin_function_or_method"), none, (.fields (List.toArray [(.builtin "object.__init_subclass__"), (.ref 45)])), (List.toArray [])⟩
def hO49 (P : Params) : Obj := ⟨(.type "tuple"), none, (.seq (List.toArray [(.ref 45)]) 0), (List.toArray [])⟩
def hO50 (P : Params) : Obj := ⟨(.type "builtin_function_or_method"), none, (.fields (List.toArray [(.builtin "type.__prepare__"), (.type "type")])), (List.toArray [])⟩
def hO51 (P : Params) : Obj := ⟨(.type "dict"), none, (.dict (List.toArray [⟨(PySem.PyData.keyHash P "__module__"), (.str "__module__" 236), (.str "stillheap.errors" 194)⟩, ⟨(PySem.PyData.keyHash P "__qualname__"), (.str "__qualname__" 238), (.str "BadAddress" 237)⟩, ⟨(PySem.PyData.keyHash P "__firstlineno__"), (.str "__firstlineno__" 240), (.int 12 239)⟩, ⟨(PySem.PyData.keyHash P "called"), (.str "called" 247), (.ref 62)⟩, ⟨(PySem.PyData.keyHash P "__static_attributes__"), (.str "__static_attributes__" 248), (.ref 63)⟩]) 5), (List.toArray [])⟩
def hO52 (P : Params) : Obj := ⟨(.type "tuple"), none, (.seq (List.toArray []) 0), (List.toArray [])⟩
def hO53 (P : Params) : Obj := ⟨.none, none, (.fields (List.toArray [(.int 14 0), (.int 4 0), (.ref 61)])), (List.toArray [])⟩
def hO54 (P : Params) : Obj := ⟨(.type "code"), none, (.fields (List.toArray [(.str "BadAddress" 231), (.str "BadAddress" 232), (.str "/claim/cut.py" 233), (.int 12 0), (.int 0 0), (.int 0 0), (.int 0 0), (.int 0 0), (.ref 52), (.bool false), (.int 181 0), (.ref 53), .none, .none, .none, .none, (.int 234 0), (.int 12 0), (.str "/claim/cut.py" 235)])), (List.toArray [])⟩
def hO55 (P : Params) : Obj := ⟨(.type "frame"), none, .plain, (List.toArray [(.some (.ref 54)), (.some (.ref 3)), (.some (.ref 51)), none, (.some (.str "stillheap.errors" 194)), none, (.some (.ref 0))])⟩
def hO56 (P : Params) : Obj := ⟨(.type "tuple"), none, (.seq (List.toArray []) 0), (List.toArray [])⟩
def hO57 (P : Params) : Obj := ⟨.none, none, (.fields (List.toArray [])), (List.toArray [])⟩
def hO58 (P : Params) : Obj := ⟨(.type "tuple"), none, (.seq (List.toArray [(.str "self" 244)]) 0), (List.toArray [])⟩
def hO59 (P : Params) : Obj := ⟨(.type "tuple"), none, (.seq (List.toArray []) 0), (List.toArray [])⟩
def hO60 (P : Params) : Obj := ⟨.none, none, (.func ⟨"called", "BadAddress.called", defArgs (inClass (top 3) 0), .stmts (defBody (inClass (top 3) 0)), defScope (inClass (top 3) 0), 0, [], .none, .none, .none, .none, none, .none, .none, 0⟩), (List.toArray [])⟩
def hO61 (P : Params) : Obj := ⟨(.type "code"), none, (.fields (List.toArray [(.str "called" 241), (.str "BadAddress.called" 242), (.str "/claim/cut.py" 243), (.int 14 0), (.int 1 0), (.int 0 0), (.int 0 0), (.int 3 0), (.ref 56), (.bool true), (.int 181 0), (.ref 57), .none, (.ref 58), (.ref 59), (.ref 60), (.int 245 0), (.int 14 0), (.str "/claim/cut.py" 246)])), (List.toArray [])⟩
def hO62 (P : Params) : Obj := ⟨(.type "function"), none, (.func (fnOf "called" "BadAddress.called" (defArgs (inClass (top 3) 0)) (defBody (inClass (top 3) 0)) (defScope (inClass (top 3) 0)) .none .none .none (.str "stillheap.errors" 194) none (.ref 61) .none)), (List.toArray [])⟩
def hO63 (P : Params) : Obj := ⟨(.type "tuple"), none, (.seq (List.toArray []) 0), (List.toArray [])⟩
def hO64 (P : Params) : Obj := ⟨(.type "dict"), none, (.dict (List.toArray [⟨(PySem.PyData.keyHash P "__module__"), (.str "__module__" 236), (.str "stillheap.errors" 194)⟩, ⟨(PySem.PyData.keyHash P "__firstlineno__"), (.str "__firstlineno__" 240), (.int 12 239)⟩, ⟨(PySem.PyData.keyHash P "called"), (.str "called" 247), (.ref 62)⟩, ⟨(PySem.PyData.keyHash P "__static_attributes__"), (.str "__static_attributes__" 248), (.ref 63)⟩, ⟨(PySem.PyData.keyHash P "__doc__"), (.str "__doc__" 249), .none⟩]) 2), (List.toArray [])⟩
def hO65 (P : Params) : Obj := ⟨(.type "type"), none, (.cls ⟨"BadAddress", [(.ref 45)], [(.ref 65), (.ref 45), (.type "ValueError"), (.type "Exception"), (.type "BaseException"), (.type "object")], 64, "BadAddress", true, [], [], false, none, false⟩), (List.toArray [(.some (.ref 49)), none, (.some (.str "BadAddress" 229)), (.some (.str "BadAddress" 237)), (.some (.builtin "ValueError.__new__")), (.some (.bool true))])⟩
def hO66 (P : Params) : Obj := ⟨(.type "super"), none, (.fields (List.toArray [(.ref 65), (.ref 65), (.ref 65)])), (List.toArray [])⟩
def hO67 (P : Params) : Obj := ⟨(.type "builtin_function_or_method"), none, (.fields (List.toArray [(.builtin "object.__init_subclass__"), (.ref 65)])), (List.toArray [])⟩
def hO68 (P : Params) : Obj := ⟨(.type "tuple"), none, (.seq (List.toArray []) 0), (List.toArray [])⟩
def hO69 (P : Params) : Obj := ⟨.none, none, (.fields (List.toArray [])), (List.toArray [])⟩
def hO70 (P : Params) : Obj := ⟨(.type "tuple"), none, (.seq (List.toArray [(.str "value" 257)]) 0), (List.toArray [])⟩
def hO71 (P : Params) : Obj := ⟨(.type "tuple"), none, (.seq (List.toArray []) 0), (List.toArray [])⟩
def hO72 (P : Params) : Obj := ⟨.none, none, (.func ⟨"kind_of", "kind_of", defArgs (top 5), .stmts (defBody (top 5)), defScope (top 5), 0, [], .none, .none, .none, .none, none, .none, .none, 0⟩), (List.toArray [])⟩
def hO73 (P : Params) : Obj := ⟨(.type "code"), none, (.fields (List.toArray [(.str "kind_of" 254), (.str "kind_of" 255), (.str "/claim/cut.py" 256), (.int 17 0), (.int 1 0), (.int 0 0), (.int 0 0), (.int 3 0), (.ref 68), (.bool true), (.int 181 0), (.ref 69), .none, (.ref 70), (.ref 71), (.ref 72), (.int 258 0), (.int 17 0), (.str "/claim/cut.py" 259)])), (List.toArray [])⟩
def hO74 (P : Params) : Obj := ⟨(.type "function"), none, (.func (fnOf "kind_of" "kind_of" (defArgs (top 5)) (defBody (top 5)) (defScope (top 5)) .none .none .none (.str "stillheap.values" 252) none (.ref 73) .none)), (List.toArray [])⟩
def hO75 (P : Params) : Obj := ⟨(.type "tuple"), none, (.seq (List.toArray []) 0), (List.toArray [])⟩
def hO76 (P : Params) : Obj := ⟨.none, none, (.fields (List.toArray [])), (List.toArray [])⟩
def hO77 (P : Params) : Obj := ⟨(.type "tuple"), none, (.seq (List.toArray [(.str "memory" 266), (.str "a" 267), (.str "t" 268), (.str "values" 269), (.str "k" 270), (.str "value" 271)]) 0), (List.toArray [])⟩
def hO78 (P : Params) : Obj := ⟨(.type "tuple"), none, (.seq (List.toArray []) 0), (List.toArray [])⟩
def hO79 (P : Params) : Obj := ⟨.none, none, (.func ⟨"lay", "lay", defArgs (top 7), .stmts (defBody (top 7)), defScope (top 7), 0, [], .none, .none, .none, .none, none, .none, .none, 0⟩), (List.toArray [])⟩
def hO80 (P : Params) : Obj := ⟨(.type "code"), none, (.fields (List.toArray [(.str "lay" 263), (.str "lay" 264), (.str "/claim/cut.py" 265), (.int 20 0), (.int 4 0), (.int 0 0), (.int 0 0), (.int 3 0), (.ref 75), (.bool true), (.int 181 0), (.ref 76), .none, (.ref 77), (.ref 78), (.ref 79), (.int 272 0), (.int 20 0), (.str "/claim/cut.py" 273)])), (List.toArray [])⟩
def hO81 (P : Params) : Obj := ⟨(.type "function"), none, (.func (fnOf "lay" "lay" (defArgs (top 7)) (defBody (top 7)) (defScope (top 7)) .none .none .none (.str "stillheap.layout" 261) none (.ref 80) .none)), (List.toArray [])⟩
def hO82 (P : Params) : Obj := ⟨(.type "tuple"), none, (.seq (List.toArray []) 0), (List.toArray [])⟩
def hO83 (P : Params) : Obj := ⟨.none, none, (.fields (List.toArray [])), (List.toArray [])⟩
def hO84 (P : Params) : Obj := ⟨.none, none, (.func ⟨"thing_at", "thing_at", defArgs (top 8), .stmts (defBody (top 8)), defScope (top 8), 0, [], .none, .none, .none, .none, none, .none, .none, 0⟩), (List.toArray [])⟩
def hO85 (P : Params) : Obj := ⟨(.type "code"), none, (.fields (List.toArray [(.str "thing_at" 275), (.str "thing_at" 276), (.str "/claim/cut.py" 277), (.int 25 0), (.int 2 0), (.int 0 0), (.int 0 0), (.int 3 0), (.ref 82), (.bool true), (.int 181 0), (.ref 83), .none, .none, .none, (.ref 84), (.int 278 0), (.int 25 0), (.str "/claim/cut.py" 279)])), (List.toArray [])⟩
def hO86 (P : Params) : Obj := ⟨(.type "function"), none, (.func (fnOf "thing_at" "thing_at" (defArgs (top 8)) (defBody (top 8)) (defScope (top 8)) .none .none .none (.str "stillheap.layout" 261) none (.ref 85) .none)), (List.toArray [])⟩
def hO87 (P : Params) : Obj := ⟨(.type "tuple"), none, (.seq (List.toArray []) 0), (List.toArray [])⟩
def hO88 (P : Params) : Obj := ⟨.none, none, (.fields (List.toArray [])), (List.toArray [])⟩
def hO89 (P : Params) : Obj := ⟨(.type "tuple"), none, (.seq (List.toArray [(.str "memory" 284), (.str "a" 285), (.str "word" 286)]) 0), (List.toArray [])⟩
def hO90 (P : Params) : Obj := ⟨(.type "tuple"), none, (.seq (List.toArray []) 0), (List.toArray [])⟩
def hO91 (P : Params) : Obj := ⟨.none, none, (.func ⟨"resolved", "resolved", defArgs (top 9), .stmts (defBody (top 9)), defScope (top 9), 0, [], .none, .none, .none, .none, none, .none, .none, 0⟩), (List.toArray [])⟩
def hO92 (P : Params) : Obj := ⟨(.type "code"), none, (.fields (List.toArray [(.str "resolved" 281), (.str "resolved" 282), (.str "/claim/cut.py" 283), (.int 28 0), (.int 2 0), (.int 0 0), (.int 0 0), (.int 3 0), (.ref 87), (.bool true), (.int 181 0), (.ref 88), .none, (.ref 89), (.ref 90), (.ref 91), (.int 287 0), (.int 28 0), (.str "/claim/cut.py" 288)])), (List.toArray [])⟩
def hO93 (P : Params) : Obj := ⟨(.type "function"), none, (.func (fnOf "resolved" "resolved" (defArgs (top 9)) (defBody (top 9)) (defScope (top 9)) .none .none .none (.str "stillheap.layout" 261) none (.ref 92) .none)), (List.toArray [])⟩
def hO94 (P : Params) : Obj := ⟨(.type "tuple"), none, (.seq (List.toArray []) 0), (List.toArray [])⟩
def hO95 (P : Params) : Obj := ⟨.none, none, (.fields (List.toArray [])), (List.toArray [])⟩
def hO96 (P : Params) : Obj := ⟨(.type "tuple"), none, (.seq (List.toArray [(.str "memory" 293), (.str "a" 294), (.str "k" 295)]) 0), (List.toArray [])⟩
def hO97 (P : Params) : Obj := ⟨(.type "tuple"), none, (.seq (List.toArray []) 0), (List.toArray [])⟩
def hO98 (P : Params) : Obj := ⟨.none, none, (.func ⟨"field_at", "field_at", defArgs (top 10), .stmts (defBody (top 10)), defScope (top 10), 0, [], .none, .none, .none, .none, none, .none, .none, 0⟩), (List.toArray [])⟩
def hO99 (P : Params) : Obj := ⟨(.type "code"), none, (.fields (List.toArray [(.str "field_at" 290), (.str "field_at" 291), (.str "/claim/cut.py" 292), (.int 34 0), (.int 3 0), (.int 0 0), (.int 0 0), (.int 3 0), (.ref 94), (.bool true), (.int 181 0), (.ref 95), .none, (.ref 96), (.ref 97), (.ref 98), (.int 296 0), (.int 34 0), (.str "/claim/cut.py" 297)])), (List.toArray [])⟩
def hO100 (P : Params) : Obj := ⟨(.type "function"), none, (.func (fnOf "field_at" "field_at" (defArgs (top 10)) (defBody (top 10)) (defScope (top 10)) .none .none .none (.str "stillheap.layout" 261) none (.ref 99) .none)), (List.toArray [])⟩
def hO101 (P : Params) : Obj := ⟨(.type "tuple"), none, (.seq (List.toArray []) 0), (List.toArray [])⟩
def hO102 (P : Params) : Obj := ⟨.none, none, (.fields (List.toArray [])), (List.toArray [])⟩
def hO103 (P : Params) : Obj := ⟨(.type "tuple"), none, (.seq (List.toArray [(.str "memory" 302), (.str "a" 303), (.str "k" 304), (.str "word" 305)]) 0), (List.toArray [])⟩
def hO104 (P : Params) : Obj := ⟨(.type "tuple"), none, (.seq (List.toArray []) 0), (List.toArray [])⟩
def hO105 (P : Params) : Obj := ⟨.none, none, (.func ⟨"put_field", "put_field", defArgs (top 11), .stmts (defBody (top 11)), defScope (top 11), 0, [], .none, .none, .none, .none, none, .none, .none, 0⟩), (List.toArray [])⟩
def hO106 (P : Params) : Obj := ⟨(.type "code"), none, (.fields (List.toArray [(.str "put_field" 299), (.str "put_field" 300), (.str "/claim/cut.py" 301), (.int 36 0), (.int 4 0), (.int 0 0), (.int 0 0), (.int 3 0), (.ref 101), (.bool true), (.int 181 0), (.ref 102), .none, (.ref 103), (.ref 104), (.ref 105), (.int 306 0), (.int 36 0), (.str "/claim/cut.py" 307)])), (List.toArray [])⟩
def hO107 (P : Params) : Obj := ⟨(.type "function"), none, (.func (fnOf "put_field" "put_field" (defArgs (top 11)) (defBody (top 11)) (defScope (top 11)) .none .none .none (.str "stillheap.layout" 261) none (.ref 106) .none)), (List.toArray [])⟩
def hO108 (P : Params) : Obj := ⟨(.type "tuple"), none, (.seq (List.toArray []) 0), (List.toArray [])⟩
def hO109 (P : Params) : Obj := ⟨.none, none, (.fields (List.toArray [])), (List.toArray [])⟩
def hO110 (P : Params) : Obj := ⟨(.type "tuple"), none, (.seq (List.toArray [(.str "memory" 312), (.str "a" 313), (.str "b" 314), (.str "thing" 315)]) 0), (List.toArray [])⟩
def hO111 (P : Params) : Obj := ⟨(.type "tuple"), none, (.seq (List.toArray []) 0), (List.toArray [])⟩
def hO112 (P : Params) : Obj := ⟨.none, none, (.func ⟨"move", "move", defArgs (top 12), .stmts (defBody (top 12)), defScope (top 12), 0, [], .none, .none, .none, .none, none, .none, .none, 0⟩), (List.toArray [])⟩
def hO113 (P : Params) : Obj := ⟨(.type "code"), none, (.fields (List.toArray [(.str "move" 309), (.str "move" 310), (.str "/claim/cut.py" 311), (.int 38 0), (.int 3 0), (.int 0 0), (.int 0 0), (.int 3 0), (.ref 108), (.bool true), (.int 181 0), (.ref 109), .none, (.ref 110), (.ref 111), (.ref 112), (.int 316 0), (.int 38 0), (.str "/claim/cut.py" 317)])), (List.toArray [])⟩
def hO114 (P : Params) : Obj := ⟨(.type "function"), none, (.func (fnOf "move" "move" (defArgs (top 12)) (defBody (top 12)) (defScope (top 12)) .none .none .none (.str "stillheap.layout" 261) none (.ref 113) .none)), (List.toArray [])⟩
def hO115 (P : Params) : Obj := ⟨(.type "tuple"), none, (.seq (List.toArray []) 0), (List.toArray [])⟩
def hO116 (P : Params) : Obj := ⟨.none, none, (.fields (List.toArray [])), (List.toArray [])⟩
def hO117 (P : Params) : Obj := ⟨(.type "tuple"), none, (.seq (List.toArray [(.str "memory" 322), (.str "first" 323), (.str "behind" 324), (.str "firsts" 325), (.str "a" 326)]) 0), (List.toArray [])⟩
def hO118 (P : Params) : Obj := ⟨(.type "tuple"), none, (.seq (List.toArray []) 0), (List.toArray [])⟩
def hO119 (P : Params) : Obj := ⟨.none, none, (.func ⟨"walked", "walked", defArgs (top 13), .stmts (defBody (top 13)), defScope (top 13), 0, [], .none, .none, .none, .none, none, .none, .none, 0⟩), (List.toArray [])⟩
def hO120 (P : Params) : Obj := ⟨(.type "code"), none, (.fields (List.toArray [(.str "walked" 319), (.str "walked" 320), (.str "/claim/cut.py" 321), (.int 42 0), (.int 3 0), (.int 0 0), (.int 0 0), (.int 3 0), (.ref 115), (.bool true), (.int 181 0), (.ref 116), .none, (.ref 117), (.ref 118), (.ref 119), (.int 327 0), (.int 42 0), (.str "/claim/cut.py" 328)])), (List.toArray [])⟩
def hO121 (P : Params) : Obj := ⟨(.type "function"), none, (.func (fnOf "walked" "walked" (defArgs (top 13)) (defBody (top 13)) (defScope (top 13)) .none .none .none (.str "stillheap.layout" 261) none (.ref 120) .none)), (List.toArray [])⟩
def hO122 (P : Params) : Obj := ⟨(.type "tuple"), none, (.seq (List.toArray []) 0), (List.toArray [])⟩
def hO123 (P : Params) : Obj := ⟨.none, none, (.fields (List.toArray [])), (List.toArray [])⟩
def hO124 (P : Params) : Obj := ⟨(.type "tuple"), none, (.seq (List.toArray [(.str "memory" 333), (.str "a" 334)]) 0), (List.toArray [])⟩
def hO125 (P : Params) : Obj := ⟨(.type "tuple"), none, (.seq (List.toArray []) 0), (List.toArray [])⟩
def hO126 (P : Params) : Obj := ⟨.none, none, (.func ⟨"fields_at", "fields_at", defArgs (top 14), .stmts (defBody (top 14)), defScope (top 14), 0, [], .none, .none, .none, .none, none, .none, .none, 0⟩), (List.toArray [])⟩
def hO127 (P : Params) : Obj := ⟨(.type "code"), none, (.fields (List.toArray [(.str "fields_at" 330), (.str "fields_at" 331), (.str "/claim/cut.py" 332), (.int 51 0), (.int 2 0), (.int 0 0), (.int 0 0), (.int 3 0), (.ref 122), (.bool true), (.int 181 0), (.ref 123), .none, (.ref 124), (.ref 125), (.ref 126), (.int 335 0), (.int 51 0), (.str "/claim/cut.py" 336)])), (List.toArray [])⟩
def hO128 (P : Params) : Obj := ⟨(.type "function"), none, (.func (fnOf "fields_at" "fields_at" (defArgs (top 14)) (defBody (top 14)) (defScope (top 14)) .none .none .none (.str "stillheap.layout" 261) none (.ref 127) .none)), (List.toArray [])⟩
def hO129 (P : Params) : Obj := ⟨(.type "tuple"), none, (.seq (List.toArray []) 0), (List.toArray [])⟩
def hO130 (P : Params) : Obj := ⟨.none, none, (.fields (List.toArray [])), (List.toArray [])⟩
def hO131 (P : Params) : Obj := ⟨(.type "tuple"), none, (.seq (List.toArray [(.str "memory" 341), (.str "a" 342), (.str "kinds" 343), (.str "word" 344)]) 0), (List.toArray [])⟩
def hO132 (P : Params) : Obj := ⟨(.type "tuple"), none, (.seq (List.toArray []) 0), (List.toArray [])⟩
def hO133 (P : Params) : Obj := ⟨.none, none, (.func ⟨"fields_told", "fields_told", defArgs (top 15), .stmts (defBody (top 15)), defScope (top 15), 0, [], .none, .none, .none, .none, none, .none, .none, 0⟩), (List.toArray [])⟩
def hO134 (P : Params) : Obj := ⟨(.type "code"), none, (.fields (List.toArray [(.str "fields_told" 338), (.str "fields_told" 339), (.str "/claim/cut.py" 340), (.int 53 0), (.int 3 0), (.int 0 0), (.int 0 0), (.int 3 0), (.ref 129), (.bool true), (.int 181 0), (.ref 130), .none, (.ref 131), (.ref 132), (.ref 133), (.int 345 0), (.int 53 0), (.str "/claim/cut.py" 346)])), (List.toArray [])⟩
def hO135 (P : Params) : Obj := ⟨(.type "function"), none, (.func (fnOf "fields_told" "fields_told" (defArgs (top 15)) (defBody (top 15)) (defScope (top 15)) .none .none .none (.str "stillheap.layout" 261) none (.ref 134) .none)), (List.toArray [])⟩
def hO136 (P : Params) : Obj := ⟨(.type "tuple"), none, (.seq (List.toArray []) 0), (List.toArray [])⟩
def hO137 (P : Params) : Obj := ⟨.none, none, (.fields (List.toArray [])), (List.toArray [])⟩
def hO138 (P : Params) : Obj := ⟨(.type "tuple"), none, (.seq (List.toArray [(.str "memory" 351), (.str "a" 352), (.str "k" 353)]) 0), (List.toArray [])⟩
def hO139 (P : Params) : Obj := ⟨(.type "tuple"), none, (.seq (List.toArray []) 0), (List.toArray [])⟩
def hO140 (P : Params) : Obj := ⟨.none, none, (.func ⟨"field_address", "field_address", defArgs (top 16), .stmts (defBody (top 16)), defScope (top 16), 0, [], .none, .none, .none, .none, none, .none, .none, 0⟩), (List.toArray [])⟩
def hO141 (P : Params) : Obj := ⟨(.type "code"), none, (.fields (List.toArray [(.str "field_address" 348), (.str "field_address" 349), (.str "/claim/cut.py" 350), (.int 59 0), (.int 3 0), (.int 0 0), (.int 0 0), (.int 3 0), (.ref 136), (.bool true), (.int 181 0), (.ref 137), .none, (.ref 138), (.ref 139), (.ref 140), (.int 354 0), (.int 59 0), (.str "/claim/cut.py" 355)])), (List.toArray [])⟩
def hO142 (P : Params) : Obj := ⟨(.type "function"), none, (.func (fnOf "field_address" "field_address" (defArgs (top 16)) (defBody (top 16)) (defScope (top 16)) .none .none .none (.str "stillheap.layout" 261) none (.ref 141) .none)), (List.toArray [])⟩
def hO143 (P : Params) : Obj := ⟨(.type "tuple"), none, (.seq (List.toArray []) 0), (List.toArray [])⟩
def hO144 (P : Params) : Obj := ⟨.none, none, (.fields (List.toArray [])), (List.toArray [])⟩
def hO145 (P : Params) : Obj := ⟨(.type "tuple"), none, (.seq (List.toArray [(.str "memory" 360), (.str "a" 361), (.str "fields" 362)]) 0), (List.toArray [])⟩
def hO146 (P : Params) : Obj := ⟨(.type "tuple"), none, (.seq (List.toArray []) 0), (List.toArray [])⟩
def hO147 (P : Params) : Obj := ⟨.none, none, (.func ⟨"look_at_room", "look_at_room", defArgs (top 17), .stmts (defBody (top 17)), defScope (top 17), 0, [], .none, .none, .none, .none, none, .none, .none, 0⟩), (List.toArray [])⟩
def hO148 (P : Params) : Obj := ⟨(.type "code"), none, (.fields (List.toArray [(.str "look_at_room" 357), (.str "look_at_room" 358), (.str "/claim/cut.py" 359), (.int 63 0), (.int 3 0), (.int 0 0), (.int 0 0), (.int 3 0), (.ref 143), (.bool true), (.int 181 0), (.ref 144), .none, (.ref 145), (.ref 146), (.ref 147), (.int 363 0), (.int 63 0), (.str "/claim/cut.py" 364)])), (List.toArray [])⟩
def hO149 (P : Params) : Obj := ⟨(.type "function"), none, (.func (fnOf "look_at_room" "look_at_room" (defArgs (top 17)) (defBody (top 17)) (defScope (top 17)) .none .none .none (.str "stillheap.layout" 261) none (.ref 148) .none)), (List.toArray [])⟩
def hO3_3 (P : Params) : Obj := ⟨(.type "dict"), none, (.dict (List.toArray [⟨(PySem.PyData.keyHash P "__name__"), (.str "__name__" 165), (.str "law_stillheap_k34_whole_deeds_in_memory" 437)⟩, ⟨(PySem.PyData.keyHash P "__doc__"), (.str "__doc__" 166), .none⟩, ⟨(PySem.PyData.keyHash P "__package__"), (.str "__package__" 167), .none⟩, ⟨(PySem.PyData.keyHash P "__loader__"), (.str "__loader__" 168), (.builtin "__main__.__loader__#opaque")⟩, ⟨(PySem.PyData.keyHash P "__spec__"), (.str "__spec__" 169), .none⟩, ⟨(PySem.PyData.keyHash P "__annotations__"), (.str "__annotations__" 170), (.ref 6)⟩, ⟨(PySem.PyData.keyHash P "__builtins__"), (.str "__builtins__" 171), (.ref 4)⟩, ⟨(PySem.PyData.keyHash P "__file__"), (.str "__file__" 173), (.str "/claim/cut.py" 172)⟩, ⟨(PySem.PyData.keyHash P "__cached__"), (.str "__cached__" 174), .none⟩, ⟨(PySem.PyData.keyHash P "_wall"), (.str "_wall" 193), (.ref 21)⟩, ⟨(PySem.PyData.keyHash P "HeapError"), (.str "HeapError" 228), (.ref 45)⟩, ⟨(PySem.PyData.keyHash P "BadAddress"), (.str "BadAddress" 251), (.ref 65)⟩, ⟨(PySem.PyData.keyHash P "kind_of"), (.str "kind_of" 260), (.ref 74)⟩, ⟨(PySem.PyData.keyHash P "lay"), (.str "lay" 274), (.ref 81)⟩, ⟨(PySem.PyData.keyHash P "thing_at"), (.str "thing_at" 280), (.ref 86)⟩, ⟨(PySem.PyData.keyHash P "resolved"), (.str "resolved" 289), (.ref 93)⟩, ⟨(PySem.PyData.keyHash P "field_at"), (.str "field_at" 298), (.ref 100)⟩, ⟨(PySem.PyData.keyHash P "put_field"), (.str "put_field" 308), (.ref 107)⟩, ⟨(PySem.PyData.keyHash P "move"), (.str "move" 318), (.ref 114)⟩, ⟨(PySem.PyData.keyHash P "walked"), (.str "walked" 329), (.ref 121)⟩, ⟨(PySem.PyData.keyHash P "fields_at"), (.str "fields_at" 337), (.ref 128)⟩, ⟨(PySem.PyData.keyHash P "fields_told"), (.str "fields_told" 347), (.ref 135)⟩, ⟨(PySem.PyData.keyHash P "field_address"), (.str "field_address" 356), (.ref 142)⟩, ⟨(PySem.PyData.keyHash P "look_at_room"), (.str "look_at_room" 365), (.ref 149)⟩, ⟨(PySem.PyData.keyHash P "Memory"), (.str "Memory" 436), (.ref 201)⟩, ⟨(PySem.PyData.keyHash P "_law_cell"), (.str "_law_cell" 446), (.ref 212)⟩, ⟨(PySem.PyData.keyHash P "_law_mixed"), (.str "_law_mixed" 456), (.ref 219)⟩, ⟨(PySem.PyData.keyHash P "_law_alike"), (.str "_law_alike" 462), (.ref 224)⟩, ⟨(PySem.PyData.keyHash P "_law_shows"), (.str "_law_shows" 468), (.ref 229)⟩, ⟨(PySem.PyData.keyHash P "_law_word"), (.str "_law_word" 476), (.ref 236)⟩, ⟨(PySem.PyData.keyHash P "_law_thing"), (.str "_law_thing" 484), (.ref 243)⟩, ⟨(PySem.PyData.keyHash P "_law_lay"), (.str "_law_lay" 495), (.ref 250)⟩, ⟨(PySem.PyData.keyHash P "_law_resolved"), (.str "_law_resolved" 503), (.ref 257)⟩, ⟨(PySem.PyData.keyHash P "_law_asked"), (.str "_law_asked" 511), (.ref 264)⟩, ⟨(PySem.PyData.keyHash P "_law_done"), (.str "_law_done" 520), (.ref 271)⟩, ⟨(PySem.PyData.keyHash P "_law_due"), (.str "_law_due" 531), (.ref 278)⟩, ⟨(PySem.PyData.keyHash P "_law_apart"), (.str "_law_apart" 542), (.ref 285)⟩, ⟨(PySem.PyData.keyHash P "_law_deed"), (.str "_law_deed" 548), (.ref 290)⟩, ⟨(PySem.PyData.keyHash P "_law_numbers"), (.str "_law_numbers" 561), (.ref 297)⟩, ⟨(PySem.PyData.keyHash P "_law_walk"), (.str "_law_walk" 572), (.ref 304)⟩, ⟨(PySem.PyData.keyHash P "_law_ends_well"), (.str "_law_ends_well" 578), (.ref 309)⟩, ⟨(PySem.PyData.keyHash P "law"), (.str "law" 594), (.ref 316)⟩]) 42), (List.toArray [])⟩
def hO12_3 (P : Params) : Obj := ⟨.none, none, (.fields (List.toArray [(.int 1 0), (.int 0 0), (.ref 20), (.int 5 0), (.int 0 0), (.ref 27), (.int 12 0), (.int 0 0), (.ref 54), (.int 17 0), (.int 0 0), (.ref 73), (.int 20 0), (.int 0 0), (.ref 80), (.int 25 0), (.int 0 0), (.ref 85), (.int 28 0), (.int 0 0), (.ref 92), (.int 34 0), (.int 0 0), (.ref 99), (.int 36 0), (.int 0 0), (.ref 106), (.int 38 0), (.int 0 0), (.ref 113), (.int 42 0), (.int 0 0), (.ref 120), (.int 51 0), (.int 0 0), (.ref 127), (.int 53 0), (.int 0 0), (.ref 134), (.int 59 0), (.int 0 0), (.ref 141), (.int 63 0), (.int 0 0), (.ref 148), (.int 67 0), (.int 0 0), (.ref 155), (.int 92 0), (.int 0 0), (.ref 211), (.int 96 0), (.int 0 0), (.ref 218), (.int 100 0), (.int 0 0), (.ref 223), (.int 110 0), (.int 0 0), (.ref 228), (.int 114 0), (.int 0 0), (.ref 235), (.int 117 0), (.int 0 0), (.ref 242), (.int 123 0), (.int 0 0), (.ref 249), (.int 130 0), (.int 0 0), (.ref 256), (.int 136 0), (.int 0 0), (.ref 263), (.int 150 0), (.int 0 0), (.ref 270), (.int 157 0), (.int 0 0), (.ref 277), (.int 180 0), (.int 0 0), (.ref 284), (.int 188 0), (.int 0 0), (.ref 289), (.int 199 0), (.int 0 0), (.ref 296), (.int 208 0), (.int 0 0), (.ref 303), (.int 217 0), (.int 0 0), (.ref 308), (.int 229 0), (.int 0 0), (.ref 315)])), (List.toArray [])⟩
def hO150 (P : Params) : Obj := ⟨(.type "tuple"), none, (.seq (List.toArray []) 0), (List.toArray [])⟩
def hO151 (P : Params) : Obj := ⟨(.type "builtin_function_or_method"), none, (.fields (List.toArray [(.builtin "type.__prepare__"), (.type "type")])), (List.toArray [])⟩
def hO152 (P : Params) : Obj := ⟨(.type "dict"), none, (.dict (List.toArray [⟨(PySem.PyData.keyHash P "__module__"), (.str "__module__" 375), (.str "stillheap.memory" 366)⟩, ⟨(PySem.PyData.keyHash P "__qualname__"), (.str "__qualname__" 377), (.str "Memory" 376)⟩, ⟨(PySem.PyData.keyHash P "__firstlineno__"), (.str "__firstlineno__" 379), (.int 67 378)⟩, ⟨(PySem.PyData.keyHash P "__init__"), (.str "__init__" 387), (.ref 163)⟩, ⟨(PySem.PyData.keyHash P "size"), (.str "size" 394), (.ref 170)⟩, ⟨(PySem.PyData.keyHash P "at"), (.str "at" 402), (.ref 177)⟩, ⟨(PySem.PyData.keyHash P "put"), (.str "put" 411), (.ref 184)⟩, ⟨(PySem.PyData.keyHash P "copy_of"), (.str "copy_of" 419), (.ref 191)⟩, ⟨(PySem.PyData.keyHash P "look_at_address"), (.str "look_at_address" 427), (.ref 198)⟩, ⟨(PySem.PyData.keyHash P "__static_attributes__"), (.str "__static_attributes__" 429), (.ref 199)⟩]) 10), (List.toArray [])⟩
def hO153 (P : Params) : Obj := ⟨(.type "tuple"), none, (.seq (List.toArray []) 0), (List.toArray [])⟩
def hO154 (P : Params) : Obj := ⟨.none, none, (.fields (List.toArray [(.int 69 0), (.int 4 0), (.ref 162), (.int 72 0), (.int 4 0), (.ref 169), (.int 75 0), (.int 4 0), (.ref 176), (.int 79 0), (.int 4 0), (.ref 183), (.int 83 0), (.int 4 0), (.ref 190), (.int 88 0), (.int 4 0), (.ref 197)])), (List.toArray [])⟩
def hO155 (P : Params) : Obj := ⟨(.type "code"), none, (.fields (List.toArray [(.str "Memory" 370), (.str "Memory" 371), (.str "/claim/cut.py" 372), (.int 67 0), (.int 0 0), (.int 0 0), (.int 0 0), (.int 0 0), (.ref 153), (.bool false), (.int 181 0), (.ref 154), .none, .none, .none, .none, (.int 373 0), (.int 67 0), (.str "/claim/cut.py" 374)])), (List.toArray [])⟩
def hO156 (P : Params) : Obj := ⟨(.type "frame"), none, .plain, (List.toArray [(.some (.ref 155)), (.some (.ref 3)), (.some (.ref 152)), none, (.some (.str "stillheap.memory" 366)), none, (.some (.ref 0))])⟩
def hO157 (P : Params) : Obj := ⟨(.type "tuple"), none, (.seq (List.toArray []) 0), (List.toArray [])⟩
def hO158 (P : Params) : Obj := ⟨.none, none, (.fields (List.toArray [])), (List.toArray [])⟩
def hO159 (P : Params) : Obj := ⟨(.type "tuple"), none, (.seq (List.toArray [(.str "self" 383), (.str "size" 384)]) 0), (List.toArray [])⟩
def hO160 (P : Params) : Obj := ⟨(.type "tuple"), none, (.seq (List.toArray []) 0), (List.toArray [])⟩
def hO161 (P : Params) : Obj := ⟨.none, none, (.func ⟨"__init__", "Memory.__init__", defArgs (inClass (top 19) 0), .stmts (defBody (inClass (top 19) 0)), defScope (inClass (top 19) 0), 0, [], .none, .none, .none, .none, none, .none, .none, 0⟩), (List.toArray [])⟩
def hO162 (P : Params) : Obj := ⟨(.type "code"), none, (.fields (List.toArray [(.str "__init__" 380), (.str "Memory.__init__" 381), (.str "/claim/cut.py" 382), (.int 69 0), (.int 2 0), (.int 0 0), (.int 0 0), (.int 3 0), (.ref 157), (.bool true), (.int 181 0), (.ref 158), .none, (.ref 159), (.ref 160), (.ref 161), (.int 385 0), (.int 69 0), (.str "/claim/cut.py" 386)])), (List.toArray [])⟩
def hO163 (P : Params) : Obj := ⟨(.type "function"), none, (.func (fnOf "__init__" "Memory.__init__" (defArgs (inClass (top 19) 0)) (defBody (inClass (top 19) 0)) (defScope (inClass (top 19) 0)) .none .none .none (.str "stillheap.memory" 366) none (.ref 162) .none)), (List.toArray [])⟩
def hO164 (P : Params) : Obj := ⟨(.type "tuple"), none, (.seq (List.toArray []) 0), (List.toArray [])⟩
def hO165 (P : Params) : Obj := ⟨.none, none, (.fields (List.toArray [])), (List.toArray [])⟩
def hO166 (P : Params) : Obj := ⟨(.type "tuple"), none, (.seq (List.toArray [(.str "self" 391)]) 0), (List.toArray [])⟩
def hO167 (P : Params) : Obj := ⟨(.type "tuple"), none, (.seq (List.toArray []) 0), (List.toArray [])⟩
def hO168 (P : Params) : Obj := ⟨.none, none, (.func ⟨"size", "Memory.size", defArgs (inClass (top 19) 1), .stmts (defBody (inClass (top 19) 1)), defScope (inClass (top 19) 1), 0, [], .none, .none, .none, .none, none, .none, .none, 0⟩), (List.toArray [])⟩
def hO169 (P : Params) : Obj := ⟨(.type "code"), none, (.fields (List.toArray [(.str "size" 388), (.str "Memory.size" 389), (.str "/claim/cut.py" 390), (.int 72 0), (.int 1 0), (.int 0 0), (.int 0 0), (.int 3 0), (.ref 164), (.bool true), (.int 181 0), (.ref 165), .none, (.ref 166), (.ref 167), (.ref 168), (.int 392 0), (.int 72 0), (.str "/claim/cut.py" 393)])), (List.toArray [])⟩
def hO170 (P : Params) : Obj := ⟨(.type "function"), none, (.func (fnOf "size" "Memory.size" (defArgs (inClass (top 19) 1)) (defBody (inClass (top 19) 1)) (defScope (inClass (top 19) 1)) .none .none .none (.str "stillheap.memory" 366) none (.ref 169) .none)), (List.toArray [])⟩
def hO171 (P : Params) : Obj := ⟨(.type "tuple"), none, (.seq (List.toArray []) 0), (List.toArray [])⟩
def hO172 (P : Params) : Obj := ⟨.none, none, (.fields (List.toArray [])), (List.toArray [])⟩
def hO173 (P : Params) : Obj := ⟨(.type "tuple"), none, (.seq (List.toArray [(.str "self" 398), (.str "a" 399)]) 0), (List.toArray [])⟩
def hO174 (P : Params) : Obj := ⟨(.type "tuple"), none, (.seq (List.toArray []) 0), (List.toArray [])⟩
def hO175 (P : Params) : Obj := ⟨.none, none, (.func ⟨"at", "Memory.at", defArgs (inClass (top 19) 2), .stmts (defBody (inClass (top 19) 2)), defScope (inClass (top 19) 2), 0, [], .none, .none, .none, .none, none, .none, .none, 0⟩), (List.toArray [])⟩
def hO176 (P : Params) : Obj := ⟨(.type "code"), none, (.fields (List.toArray [(.str "at" 395), (.str "Memory.at" 396), (.str "/claim/cut.py" 397), (.int 75 0), (.int 2 0), (.int 0 0), (.int 0 0), (.int 3 0), (.ref 171), (.bool true), (.int 181 0), (.ref 172), .none, (.ref 173), (.ref 174), (.ref 175), (.int 400 0), (.int 75 0), (.str "/claim/cut.py" 401)])), (List.toArray [])⟩
def hO177 (P : Params) : Obj := ⟨(.type "function"), none, (.func (fnOf "at" "Memory.at" (defArgs (inClass (top 19) 2)) (defBody (inClass (top 19) 2)) (defScope (inClass (top 19) 2)) .none .none .none (.str "stillheap.memory" 366) none (.ref 176) .none)), (List.toArray [])⟩
def hO178 (P : Params) : Obj := ⟨(.type "tuple"), none, (.seq (List.toArray []) 0), (List.toArray [])⟩
def hO179 (P : Params) : Obj := ⟨.none, none, (.fields (List.toArray [])), (List.toArray [])⟩
def hO180 (P : Params) : Obj := ⟨(.type "tuple"), none, (.seq (List.toArray [(.str "self" 406), (.str "a" 407), (.str "word" 408)]) 0), (List.toArray [])⟩
def hO181 (P : Params) : Obj := ⟨(.type "tuple"), none, (.seq (List.toArray []) 0), (List.toArray [])⟩
def hO182 (P : Params) : Obj := ⟨.none, none, (.func ⟨"put", "Memory.put", defArgs (inClass (top 19) 3), .stmts (defBody (inClass (top 19) 3)), defScope (inClass (top 19) 3), 0, [], .none, .none, .none, .none, none, .none, .none, 0⟩), (List.toArray [])⟩
def hO183 (P : Params) : Obj := ⟨(.type "code"), none, (.fields (List.toArray [(.str "put" 403), (.str "Memory.put" 404), (.str "/claim/cut.py" 405), (.int 79 0), (.int 3 0), (.int 0 0), (.int 0 0), (.int 3 0), (.ref 178), (.bool true), (.int 181 0), (.ref 179), .none, (.ref 180), (.ref 181), (.ref 182), (.int 409 0), (.int 79 0), (.str "/claim/cut.py" 410)])), (List.toArray [])⟩
def hO184 (P : Params) : Obj := ⟨(.type "function"), none, (.func (fnOf "put" "Memory.put" (defArgs (inClass (top 19) 3)) (defBody (inClass (top 19) 3)) (defScope (inClass (top 19) 3)) .none .none .none (.str "stillheap.memory" 366) none (.ref 183) .none)), (List.toArray [])⟩
def hO185 (P : Params) : Obj := ⟨(.type "tuple"), none, (.seq (List.toArray []) 0), (List.toArray [])⟩
def hO186 (P : Params) : Obj := ⟨.none, none, (.fields (List.toArray [])), (List.toArray [])⟩
def hO187 (P : Params) : Obj := ⟨(.type "tuple"), none, (.seq (List.toArray [(.str "self" 415), (.str "other" 416)]) 0), (List.toArray [])⟩
def hO188 (P : Params) : Obj := ⟨(.type "tuple"), none, (.seq (List.toArray []) 0), (List.toArray [])⟩
def hO189 (P : Params) : Obj := ⟨.none, none, (.func ⟨"copy_of", "Memory.copy_of", defArgs (inClass (top 19) 4), .stmts (defBody (inClass (top 19) 4)), defScope (inClass (top 19) 4), 0, [], .none, .none, .none, .none, none, .none, .none, 0⟩), (List.toArray [])⟩
def hO190 (P : Params) : Obj := ⟨(.type "code"), none, (.fields (List.toArray [(.str "copy_of" 412), (.str "Memory.copy_of" 413), (.str "/claim/cut.py" 414), (.int 83 0), (.int 1 0), (.int 0 0), (.int 0 0), (.int 3 0), (.ref 185), (.bool true), (.int 181 0), (.ref 186), .none, (.ref 187), (.ref 188), (.ref 189), (.int 417 0), (.int 83 0), (.str "/claim/cut.py" 418)])), (List.toArray [])⟩
def hO191 (P : Params) : Obj := ⟨(.type "function"), none, (.func (fnOf "copy_of" "Memory.copy_of" (defArgs (inClass (top 19) 4)) (defBody (inClass (top 19) 4)) (defScope (inClass (top 19) 4)) .none .none .none (.str "stillheap.memory" 366) none (.ref 190) .none)), (List.toArray [])⟩
def hO192 (P : Params) : Obj := ⟨(.type "tuple"), none, (.seq (List.toArray []) 0), (List.toArray [])⟩
def hO193 (P : Params) : Obj := ⟨.none, none, (.fields (List.toArray [])), (List.toArray [])⟩
def hO194 (P : Params) : Obj := ⟨(.type "tuple"), none, (.seq (List.toArray [(.str "self" 423), (.str "a" 424)]) 0), (List.toArray [])⟩
def hO195 (P : Params) : Obj := ⟨(.type "tuple"), none, (.seq (List.toArray []) 0), (List.toArray [])⟩
def hO196 (P : Params) : Obj := ⟨.none, none, (.func ⟨"look_at_address", "Memory.look_at_address", defArgs (inClass (top 19) 5), .stmts (defBody (inClass (top 19) 5)), defScope (inClass (top 19) 5), 0, [], .none, .none, .none, .none, none, .none, .none, 0⟩), (List.toArray [])⟩
def hO197 (P : Params) : Obj := ⟨(.type "code"), none, (.fields (List.toArray [(.str "look_at_address" 420), (.str "Memory.look_at_address" 421), (.str "/claim/cut.py" 422), (.int 88 0), (.int 2 0), (.int 0 0), (.int 0 0), (.int 3 0), (.ref 192), (.bool true), (.int 181 0), (.ref 193), .none, (.ref 194), (.ref 195), (.ref 196), (.int 425 0), (.int 88 0), (.str "/claim/cut.py" 426)])), (List.toArray [])⟩
def hO198 (P : Params) : Obj := ⟨(.type "function"), none, (.func (fnOf "look_at_address" "Memory.look_at_address" (defArgs (inClass (top 19) 5)) (defBody (inClass (top 19) 5)) (defScope (inClass (top 19) 5)) .none .none .none (.str "stillheap.memory" 366) none (.ref 197) .none)), (List.toArray [])⟩
def hO199 (P : Params) : Obj := ⟨(.type "tuple"), none, (.seq (List.toArray [(.str "cells" 428)]) 0), (List.toArray [])⟩
def hO200 (P : Params) : Obj := ⟨(.type "dict"), none, (.dict (List.toArray [⟨(PySem.PyData.keyHash P "__module__"), (.str "__module__" 375), (.str "stillheap.memory" 366)⟩, ⟨(PySem.PyData.keyHash P "__firstlineno__"), (.str "__firstlineno__" 379), (.int 67 378)⟩, ⟨(PySem.PyData.keyHash P "__init__"), (.str "__init__" 387), (.ref 163)⟩, ⟨(PySem.PyData.keyHash P "size"), (.str "size" 394), (.ref 170)⟩, ⟨(PySem.PyData.keyHash P "at"), (.str "at" 402), (.ref 177)⟩, ⟨(PySem.PyData.keyHash P "put"), (.str "put" 411), (.ref 184)⟩, ⟨(PySem.PyData.keyHash P "copy_of"), (.str "copy_of" 419), (.ref 191)⟩, ⟨(PySem.PyData.keyHash P "look_at_address"), (.str "look_at_address" 427), (.ref 198)⟩, ⟨(PySem.PyData.keyHash P "__static_attributes__"), (.str "__static_attributes__" 429), (.ref 199)⟩, ⟨(PySem.PyData.keyHash P "__dict__"), (.str "__dict__" 431), (.ref 202)⟩, ⟨(PySem.PyData.keyHash P "__weakref__"), (.str "__weakref__" 433), (.ref 203)⟩, ⟨(PySem.PyData.keyHash P "__doc__"), (.str "__doc__" 434), .none⟩]) 4), (List.toArray [])⟩
def hO201 (P : Params) : Obj := ⟨(.type "type"), none, (.cls ⟨"Memory", [(.type "object")], [(.ref 201), (.type "object")], 200, "Memory", true, [], [], false, none, false⟩), (List.toArray [none, none, (.some (.str "Memory" 368)), (.some (.str "Memory" 376)), (.some (.builtin "object.__new__")), (.some (.bool true))])⟩
def hO202 (P : Params) : Obj := ⟨(.type "getset_descriptor"), none, (.fields (List.toArray [(.str "__dict__" 430), (.ref 201), (.builtin "function.__dict__"), (.builtin "function.__dict__#set")])), (List.toArray [])⟩
def hO203 (P : Params) : Obj := ⟨(.type "getset_descriptor"), none, (.fields (List.toArray [(.str "__weakref__" 432), (.ref 201), (.builtin "ExceptionGroup.__weakref__"), .none])), (List.toArray [])⟩
def hO204 (P : Params) : Obj := ⟨(.type "super"), none, (.fields (List.toArray [(.ref 201), (.ref 201), (.ref 201)])), (List.toArray [])⟩
def hO205 (P : Params) : Obj := ⟨(.type "builtin_function_or_method"), none, (.fields (List.toArray [(.builtin "object.__init_subclass__"), (.ref 201)])), (List.toArray [])⟩
def hO206 (P : Params) : Obj := ⟨(.type "tuple"), none, (.seq (List.toArray []) 0), (List.toArray [])⟩
def hO207 (P : Params) : Obj := ⟨.none, none, (.fields (List.toArray [])), (List.toArray [])⟩
def hO208 (P : Params) : Obj := ⟨(.type "tuple"), none, (.seq (List.toArray [(.str "script" 442), (.str "k" 443)]) 0), (List.toArray [])⟩
def hO209 (P : Params) : Obj := ⟨(.type "tuple"), none, (.seq (List.toArray []) 0), (List.toArray [])⟩
def hO210 (P : Params) : Obj := ⟨.none, none, (.func ⟨"_law_cell", "_law_cell", defArgs (top 21), .stmts (defBody (top 21)), defScope (top 21), 0, [], .none, .none, .none, .none, none, .none, .none, 0⟩), (List.toArray [])⟩
def hO211 (P : Params) : Obj := ⟨(.type "code"), none, (.fields (List.toArray [(.str "_law_cell" 439), (.str "_law_cell" 440), (.str "/claim/cut.py" 441), (.int 92 0), (.int 2 0), (.int 0 0), (.int 0 0), (.int 3 0), (.ref 206), (.bool true), (.int 181 0), (.ref 207), .none, (.ref 208), (.ref 209), (.ref 210), (.int 444 0), (.int 92 0), (.str "/claim/cut.py" 445)])), (List.toArray [])⟩
def hO212 (P : Params) : Obj := ⟨(.type "function"), none, (.func (fnOf "_law_cell" "_law_cell" (defArgs (top 21)) (defBody (top 21)) (defScope (top 21)) .none .none .none (.str "law_stillheap_k34_whole_deeds_in_memory" 437) none (.ref 211) .none)), (List.toArray [])⟩
def hO213 (P : Params) : Obj := ⟨(.type "tuple"), none, (.seq (List.toArray []) 0), (List.toArray [])⟩
def hO214 (P : Params) : Obj := ⟨.none, none, (.fields (List.toArray [])), (List.toArray [])⟩
def hO215 (P : Params) : Obj := ⟨(.type "tuple"), none, (.seq (List.toArray [(.str "cell" 450), (.str "k" 451), (.str "first" 452), (.str "second" 453)]) 0), (List.toArray [])⟩
def hO216 (P : Params) : Obj := ⟨(.type "tuple"), none, (.seq (List.toArray []) 0), (List.toArray [])⟩
def hO217 (P : Params) : Obj := ⟨.none, none, (.func ⟨"_law_mixed", "_law_mixed", defArgs (top 22), .stmts (defBody (top 22)), defScope (top 22), 0, [], .none, .none, .none, .none, none, .none, .none, 0⟩), (List.toArray [])⟩
def hO218 (P : Params) : Obj := ⟨(.type "code"), none, (.fields (List.toArray [(.str "_law_mixed" 447), (.str "_law_mixed" 448), (.str "/claim/cut.py" 449), (.int 96 0), (.int 2 0), (.int 0 0), (.int 0 0), (.int 3 0), (.ref 213), (.bool true), (.int 181 0), (.ref 214), .none, (.ref 215), (.ref 216), (.ref 217), (.int 454 0), (.int 96 0), (.str "/claim/cut.py" 455)])), (List.toArray [])⟩
def hO219 (P : Params) : Obj := ⟨(.type "function"), none, (.func (fnOf "_law_mixed" "_law_mixed" (defArgs (top 22)) (defBody (top 22)) (defScope (top 22)) .none .none .none (.str "law_stillheap_k34_whole_deeds_in_memory" 437) none (.ref 218) .none)), (List.toArray [])⟩
def hO220 (P : Params) : Obj := ⟨(.type "tuple"), none, (.seq (List.toArray []) 0), (List.toArray [])⟩
def hO221 (P : Params) : Obj := ⟨.none, none, (.fields (List.toArray [])), (List.toArray [])⟩
def hO222 (P : Params) : Obj := ⟨.none, none, (.func ⟨"_law_alike", "_law_alike", defArgs (top 23), .stmts (defBody (top 23)), defScope (top 23), 0, [], .none, .none, .none, .none, none, .none, .none, 0⟩), (List.toArray [])⟩
def hO223 (P : Params) : Obj := ⟨(.type "code"), none, (.fields (List.toArray [(.str "_law_alike" 457), (.str "_law_alike" 458), (.str "/claim/cut.py" 459), (.int 100 0), (.int 2 0), (.int 0 0), (.int 0 0), (.int 3 0), (.ref 220), (.bool true), (.int 181 0), (.ref 221), .none, .none, .none, (.ref 222), (.int 460 0), (.int 100 0), (.str "/claim/cut.py" 461)])), (List.toArray [])⟩
def hO224 (P : Params) : Obj := ⟨(.type "function"), none, (.func (fnOf "_law_alike" "_law_alike" (defArgs (top 23)) (defBody (top 23)) (defScope (top 23)) .none .none .none (.str "law_stillheap_k34_whole_deeds_in_memory" 437) none (.ref 223) .none)), (List.toArray [])⟩
def hO225 (P : Params) : Obj := ⟨(.type "tuple"), none, (.seq (List.toArray []) 0), (List.toArray [])⟩
def hO226 (P : Params) : Obj := ⟨.none, none, (.fields (List.toArray [])), (List.toArray [])⟩
def hO227 (P : Params) : Obj := ⟨.none, none, (.func ⟨"_law_shows", "_law_shows", defArgs (top 24), .stmts (defBody (top 24)), defScope (top 24), 0, [], .none, .none, .none, .none, none, .none, .none, 0⟩), (List.toArray [])⟩
def hO228 (P : Params) : Obj := ⟨(.type "code"), none, (.fields (List.toArray [(.str "_law_shows" 463), (.str "_law_shows" 464), (.str "/claim/cut.py" 465), (.int 110 0), (.int 2 0), (.int 0 0), (.int 0 0), (.int 3 0), (.ref 225), (.bool true), (.int 181 0), (.ref 226), .none, .none, .none, (.ref 227), (.int 466 0), (.int 110 0), (.str "/claim/cut.py" 467)])), (List.toArray [])⟩
def hO229 (P : Params) : Obj := ⟨(.type "function"), none, (.func (fnOf "_law_shows" "_law_shows" (defArgs (top 24)) (defBody (top 24)) (defScope (top 24)) .none .none .none (.str "law_stillheap_k34_whole_deeds_in_memory" 437) none (.ref 228) .none)), (List.toArray [])⟩
def hO230 (P : Params) : Obj := ⟨(.type "tuple"), none, (.seq (List.toArray []) 0), (List.toArray [])⟩
def hO231 (P : Params) : Obj := ⟨.none, none, (.fields (List.toArray [])), (List.toArray [])⟩
def hO232 (P : Params) : Obj := ⟨(.type "tuple"), none, (.seq (List.toArray [(.str "cell" 472), (.str "number" 473)]) 0), (List.toArray [])⟩
def hO233 (P : Params) : Obj := ⟨(.type "tuple"), none, (.seq (List.toArray []) 0), (List.toArray [])⟩
def hO234 (P : Params) : Obj := ⟨.none, none, (.func ⟨"_law_word", "_law_word", defArgs (top 25), .stmts (defBody (top 25)), defScope (top 25), 0, [], .none, .none, .none, .none, none, .none, .none, 0⟩), (List.toArray [])⟩
def hO235 (P : Params) : Obj := ⟨(.type "code"), none, (.fields (List.toArray [(.str "_law_word" 469), (.str "_law_word" 470), (.str "/claim/cut.py" 471), (.int 114 0), (.int 1 0), (.int 0 0), (.int 0 0), (.int 3 0), (.ref 230), (.bool true), (.int 181 0), (.ref 231), .none, (.ref 232), (.ref 233), (.ref 234), (.int 474 0), (.int 114 0), (.str "/claim/cut.py" 475)])), (List.toArray [])⟩
def hO236 (P : Params) : Obj := ⟨(.type "function"), none, (.func (fnOf "_law_word" "_law_word" (defArgs (top 25)) (defBody (top 25)) (defScope (top 25)) .none .none .none (.str "law_stillheap_k34_whole_deeds_in_memory" 437) none (.ref 235) .none)), (List.toArray [])⟩
def hO237 (P : Params) : Obj := ⟨(.type "tuple"), none, (.seq (List.toArray []) 0), (List.toArray [])⟩
def hO238 (P : Params) : Obj := ⟨.none, none, (.fields (List.toArray [])), (List.toArray [])⟩
def hO239 (P : Params) : Obj := ⟨(.type "tuple"), none, (.seq (List.toArray [(.str "model" 480), (.str "a" 481)]) 0), (List.toArray [])⟩
def hO240 (P : Params) : Obj := ⟨(.type "tuple"), none, (.seq (List.toArray []) 0), (List.toArray [])⟩
def hO241 (P : Params) : Obj := ⟨.none, none, (.func ⟨"_law_thing", "_law_thing", defArgs (top 26), .stmts (defBody (top 26)), defScope (top 26), 0, [], .none, .none, .none, .none, none, .none, .none, 0⟩), (List.toArray [])⟩
def hO242 (P : Params) : Obj := ⟨(.type "code"), none, (.fields (List.toArray [(.str "_law_thing" 477), (.str "_law_thing" 478), (.str "/claim/cut.py" 479), (.int 117 0), (.int 2 0), (.int 0 0), (.int 0 0), (.int 3 0), (.ref 237), (.bool true), (.int 181 0), (.ref 238), .none, (.ref 239), (.ref 240), (.ref 241), (.int 482 0), (.int 117 0), (.str "/claim/cut.py" 483)])), (List.toArray [])⟩
def hO243 (P : Params) : Obj := ⟨(.type "function"), none, (.func (fnOf "_law_thing" "_law_thing" (defArgs (top 26)) (defBody (top 26)) (defScope (top 26)) .none .none .none (.str "law_stillheap_k34_whole_deeds_in_memory" 437) none (.ref 242) .none)), (List.toArray [])⟩
def hO244 (P : Params) : Obj := ⟨(.type "tuple"), none, (.seq (List.toArray []) 0), (List.toArray [])⟩
def hO245 (P : Params) : Obj := ⟨.none, none, (.fields (List.toArray [])), (List.toArray [])⟩
def hO246 (P : Params) : Obj := ⟨(.type "tuple"), none, (.seq (List.toArray [(.str "model" 488), (.str "a" 489), (.str "t" 490), (.str "values" 491), (.str "k" 492)]) 0), (List.toArray [])⟩
def hO247 (P : Params) : Obj := ⟨(.type "tuple"), none, (.seq (List.toArray []) 0), (List.toArray [])⟩
def hO248 (P : Params) : Obj := ⟨.none, none, (.func ⟨"_law_lay", "_law_lay", defArgs (top 27), .stmts (defBody (top 27)), defScope (top 27), 0, [], .none, .none, .none, .none, none, .none, .none, 0⟩), (List.toArray [])⟩
def hO249 (P : Params) : Obj := ⟨(.type "code"), none, (.fields (List.toArray [(.str "_law_lay" 485), (.str "_law_lay" 486), (.str "/claim/cut.py" 487), (.int 123 0), (.int 4 0), (.int 0 0), (.int 0 0), (.int 3 0), (.ref 244), (.bool true), (.int 181 0), (.ref 245), .none, (.ref 246), (.ref 247), (.ref 248), (.int 493 0), (.int 123 0), (.str "/claim/cut.py" 494)])), (List.toArray [])⟩
def hO250 (P : Params) : Obj := ⟨(.type "function"), none, (.func (fnOf "_law_lay" "_law_lay" (defArgs (top 27)) (defBody (top 27)) (defScope (top 27)) .none .none .none (.str "law_stillheap_k34_whole_deeds_in_memory" 437) none (.ref 249) .none)), (List.toArray [])⟩
def hO251 (P : Params) : Obj := ⟨(.type "tuple"), none, (.seq (List.toArray []) 0), (List.toArray [])⟩
def hO252 (P : Params) : Obj := ⟨.none, none, (.fields (List.toArray [])), (List.toArray [])⟩
def hO253 (P : Params) : Obj := ⟨(.type "tuple"), none, (.seq (List.toArray [(.str "model" 499), (.str "a" 500)]) 0), (List.toArray [])⟩
def hO254 (P : Params) : Obj := ⟨(.type "tuple"), none, (.seq (List.toArray []) 0), (List.toArray [])⟩
def hO255 (P : Params) : Obj := ⟨.none, none, (.func ⟨"_law_resolved", "_law_resolved", defArgs (top 28), .stmts (defBody (top 28)), defScope (top 28), 0, [], .none, .none, .none, .none, none, .none, .none, 0⟩), (List.toArray [])⟩
def hO256 (P : Params) : Obj := ⟨(.type "code"), none, (.fields (List.toArray [(.str "_law_resolved" 496), (.str "_law_resolved" 497), (.str "/claim/cut.py" 498), (.int 130 0), (.int 2 0), (.int 0 0), (.int 0 0), (.int 3 0), (.ref 251), (.bool true), (.int 181 0), (.ref 252), .none, (.ref 253), (.ref 254), (.ref 255), (.int 501 0), (.int 130 0), (.str "/claim/cut.py" 502)])), (List.toArray [])⟩
def hO257 (P : Params) : Obj := ⟨(.type "function"), none, (.func (fnOf "_law_resolved" "_law_resolved" (defArgs (top 28)) (defBody (top 28)) (defScope (top 28)) .none .none .none (.str "law_stillheap_k34_whole_deeds_in_memory" 437) none (.ref 256) .none)), (List.toArray [])⟩
def hO258 (P : Params) : Obj := ⟨(.type "tuple"), none, (.seq (List.toArray []) 0), (List.toArray [])⟩
def hO259 (P : Params) : Obj := ⟨.none, none, (.fields (List.toArray [])), (List.toArray [])⟩
def hO260 (P : Params) : Obj := ⟨(.type "tuple"), none, (.seq (List.toArray [(.str "memory" 507), (.str "deed" 508)]) 0), (List.toArray [])⟩
def hO261 (P : Params) : Obj := ⟨(.type "tuple"), none, (.seq (List.toArray []) 0), (List.toArray [])⟩
def hO262 (P : Params) : Obj := ⟨.none, none, (.func ⟨"_law_asked", "_law_asked", defArgs (top 29), .stmts (defBody (top 29)), defScope (top 29), 0, [], .none, .none, .none, .none, none, .none, .none, 0⟩), (List.toArray [])⟩
def hO263 (P : Params) : Obj := ⟨(.type "code"), none, (.fields (List.toArray [(.str "_law_asked" 504), (.str "_law_asked" 505), (.str "/claim/cut.py" 506), (.int 136 0), (.int 2 0), (.int 0 0), (.int 0 0), (.int 3 0), (.ref 258), (.bool true), (.int 181 0), (.ref 259), .none, (.ref 260), (.ref 261), (.ref 262), (.int 509 0), (.int 136 0), (.str "/claim/cut.py" 510)])), (List.toArray [])⟩
def hO264 (P : Params) : Obj := ⟨(.type "function"), none, (.func (fnOf "_law_asked" "_law_asked" (defArgs (top 29)) (defBody (top 29)) (defScope (top 29)) .none .none .none (.str "law_stillheap_k34_whole_deeds_in_memory" 437) none (.ref 263) .none)), (List.toArray [])⟩
def hO265 (P : Params) : Obj := ⟨(.type "tuple"), none, (.seq (List.toArray []) 0), (List.toArray [])⟩
def hO266 (P : Params) : Obj := ⟨.none, none, (.fields (List.toArray [])), (List.toArray [])⟩
def hO267 (P : Params) : Obj := ⟨(.type "tuple"), none, (.seq (List.toArray [(.str "memory" 515), (.str "deed" 516), (.str "told" 517)]) 0), (List.toArray [])⟩
def hO268 (P : Params) : Obj := ⟨(.type "tuple"), none, (.seq (List.toArray []) 0), (List.toArray [])⟩
def hO269 (P : Params) : Obj := ⟨.none, none, (.func ⟨"_law_done", "_law_done", defArgs (top 30), .stmts (defBody (top 30)), defScope (top 30), 0, [], .none, .none, .none, .none, none, .none, .none, 0⟩), (List.toArray [])⟩
def hO270 (P : Params) : Obj := ⟨(.type "code"), none, (.fields (List.toArray [(.str "_law_done" 512), (.str "_law_done" 513), (.str "/claim/cut.py" 514), (.int 150 0), (.int 2 0), (.int 0 0), (.int 0 0), (.int 3 0), (.ref 265), (.bool true), (.int 181 0), (.ref 266), .none, (.ref 267), (.ref 268), (.ref 269), (.int 518 0), (.int 150 0), (.str "/claim/cut.py" 519)])), (List.toArray [])⟩
def hO271 (P : Params) : Obj := ⟨(.type "function"), none, (.func (fnOf "_law_done" "_law_done" (defArgs (top 30)) (defBody (top 30)) (defScope (top 30)) .none .none .none (.str "law_stillheap_k34_whole_deeds_in_memory" 437) none (.ref 270) .none)), (List.toArray [])⟩
def hO272 (P : Params) : Obj := ⟨(.type "tuple"), none, (.seq (List.toArray []) 0), (List.toArray [])⟩
def hO273 (P : Params) : Obj := ⟨.none, none, (.fields (List.toArray [])), (List.toArray [])⟩
def hO274 (P : Params) : Obj := ⟨(.type "tuple"), none, (.seq (List.toArray [(.str "model" 524), (.str "deed" 525), (.str "a" 526), (.str "goal" 527), (.str "thing" 528)]) 0), (List.toArray [])⟩
def hO275 (P : Params) : Obj := ⟨(.type "tuple"), none, (.seq (List.toArray []) 0), (List.toArray [])⟩
def hO276 (P : Params) : Obj := ⟨.none, none, (.func ⟨"_law_due", "_law_due", defArgs (top 31), .stmts (defBody (top 31)), defScope (top 31), 0, [], .none, .none, .none, .none, none, .none, .none, 0⟩), (List.toArray [])⟩
def hO277 (P : Params) : Obj := ⟨(.type "code"), none, (.fields (List.toArray [(.str "_law_due" 521), (.str "_law_due" 522), (.str "/claim/cut.py" 523), (.int 157 0), (.int 2 0), (.int 0 0), (.int 0 0), (.int 3 0), (.ref 272), (.bool true), (.int 181 0), (.ref 273), .none, (.ref 274), (.ref 275), (.ref 276), (.int 529 0), (.int 157 0), (.str "/claim/cut.py" 530)])), (List.toArray [])⟩
def hO278 (P : Params) : Obj := ⟨(.type "function"), none, (.func (fnOf "_law_due" "_law_due" (defArgs (top 31)) (defBody (top 31)) (defScope (top 31)) .none .none .none (.str "law_stillheap_k34_whole_deeds_in_memory" 437) none (.ref 277) .none)), (List.toArray [])⟩
def hO279 (P : Params) : Obj := ⟨(.type "tuple"), none, (.seq (List.toArray []) 0), (List.toArray [])⟩
def hO280 (P : Params) : Obj := ⟨.none, none, (.fields (List.toArray [])), (List.toArray [])⟩
def hO281 (P : Params) : Obj := ⟨(.type "tuple"), none, (.seq (List.toArray [(.str "model" 535), (.str "a" 536), (.str "b" 537), (.str "thing" 538), (.str "word" 539)]) 0), (List.toArray [])⟩
def hO282 (P : Params) : Obj := ⟨(.type "tuple"), none, (.seq (List.toArray []) 0), (List.toArray [])⟩
def hO283 (P : Params) : Obj := ⟨.none, none, (.func ⟨"_law_apart", "_law_apart", defArgs (top 32), .stmts (defBody (top 32)), defScope (top 32), 0, [], .none, .none, .none, .none, none, .none, .none, 0⟩), (List.toArray [])⟩
def hO284 (P : Params) : Obj := ⟨(.type "code"), none, (.fields (List.toArray [(.str "_law_apart" 532), (.str "_law_apart" 533), (.str "/claim/cut.py" 534), (.int 180 0), (.int 3 0), (.int 0 0), (.int 0 0), (.int 3 0), (.ref 279), (.bool true), (.int 181 0), (.ref 280), .none, (.ref 281), (.ref 282), (.ref 283), (.int 540 0), (.int 180 0), (.str "/claim/cut.py" 541)])), (List.toArray [])⟩
def hO285 (P : Params) : Obj := ⟨(.type "function"), none, (.func (fnOf "_law_apart" "_law_apart" (defArgs (top 32)) (defBody (top 32)) (defScope (top 32)) .none .none .none (.str "law_stillheap_k34_whole_deeds_in_memory" 437) none (.ref 284) .none)), (List.toArray [])⟩
def hO286 (P : Params) : Obj := ⟨(.type "tuple"), none, (.seq (List.toArray []) 0), (List.toArray [])⟩
def hO287 (P : Params) : Obj := ⟨.none, none, (.fields (List.toArray [])), (List.toArray [])⟩
def hO288 (P : Params) : Obj := ⟨.none, none, (.func ⟨"_law_deed", "_law_deed", defArgs (top 33), .stmts (defBody (top 33)), defScope (top 33), 0, [], .none, .none, .none, .none, none, .none, .none, 0⟩), (List.toArray [])⟩
def hO289 (P : Params) : Obj := ⟨(.type "code"), none, (.fields (List.toArray [(.str "_law_deed" 543), (.str "_law_deed" 544), (.str "/claim/cut.py" 545), (.int 188 0), (.int 3 0), (.int 0 0), (.int 0 0), (.int 3 0), (.ref 286), (.bool true), (.int 181 0), (.ref 287), .none, .none, .none, (.ref 288), (.int 546 0), (.int 188 0), (.str "/claim/cut.py" 547)])), (List.toArray [])⟩
def hO290 (P : Params) : Obj := ⟨(.type "function"), none, (.func (fnOf "_law_deed" "_law_deed" (defArgs (top 33)) (defBody (top 33)) (defScope (top 33)) .none .none .none (.str "law_stillheap_k34_whole_deeds_in_memory" 437) none (.ref 289) .none)), (List.toArray [])⟩
def hO291 (P : Params) : Obj := ⟨(.type "tuple"), none, (.seq (List.toArray []) 0), (List.toArray [])⟩
def hO292 (P : Params) : Obj := ⟨.none, none, (.fields (List.toArray [])), (List.toArray [])⟩
def hO293 (P : Params) : Obj := ⟨(.type "tuple"), none, (.seq (List.toArray [(.str "script" 552), (.str "numbers" 553), (.str "way" 554), (.str "k" 555), (.str "cell" 556), (.str "rest" 557), (.str "turn" 558)]) 0), (List.toArray [])⟩
def hO294 (P : Params) : Obj := ⟨(.type "tuple"), none, (.seq (List.toArray []) 0), (List.toArray [])⟩
def hO295 (P : Params) : Obj := ⟨.none, none, (.func ⟨"_law_numbers", "_law_numbers", defArgs (top 34), .stmts (defBody (top 34)), defScope (top 34), 0, [], .none, .none, .none, .none, none, .none, .none, 0⟩), (List.toArray [])⟩
def hO296 (P : Params) : Obj := ⟨(.type "code"), none, (.fields (List.toArray [(.str "_law_numbers" 549), (.str "_law_numbers" 550), (.str "/claim/cut.py" 551), (.int 199 0), (.int 1 0), (.int 0 0), (.int 0 0), (.int 3 0), (.ref 291), (.bool true), (.int 181 0), (.ref 292), .none, (.ref 293), (.ref 294), (.ref 295), (.int 559 0), (.int 199 0), (.str "/claim/cut.py" 560)])), (List.toArray [])⟩
def hO297 (P : Params) : Obj := ⟨(.type "function"), none, (.func (fnOf "_law_numbers" "_law_numbers" (defArgs (top 34)) (defBody (top 34)) (defScope (top 34)) .none .none .none (.str "law_stillheap_k34_whole_deeds_in_memory" 437) none (.ref 296) .none)), (List.toArray [])⟩
def hO298 (P : Params) : Obj := ⟨(.type "tuple"), none, (.seq (List.toArray []) 0), (List.toArray [])⟩
def hO299 (P : Params) : Obj := ⟨.none, none, (.fields (List.toArray [])), (List.toArray [])⟩
def hO300 (P : Params) : Obj := ⟨(.type "tuple"), none, (.seq (List.toArray [(.str "model" 565), (.str "first" 566), (.str "behind" 567), (.str "told" 568), (.str "a" 569)]) 0), (List.toArray [])⟩
def hO301 (P : Params) : Obj := ⟨(.type "tuple"), none, (.seq (List.toArray []) 0), (List.toArray [])⟩
def hO302 (P : Params) : Obj := ⟨.none, none, (.func ⟨"_law_walk", "_law_walk", defArgs (top 35), .stmts (defBody (top 35)), defScope (top 35), 0, [], .none, .none, .none, .none, none, .none, .none, 0⟩), (List.toArray [])⟩
def hO303 (P : Params) : Obj := ⟨(.type "code"), none, (.fields (List.toArray [(.str "_law_walk" 562), (.str "_law_walk" 563), (.str "/claim/cut.py" 564), (.int 208 0), (.int 3 0), (.int 0 0), (.int 0 0), (.int 3 0), (.ref 298), (.bool true), (.int 181 0), (.ref 299), .none, (.ref 300), (.ref 301), (.ref 302), (.int 570 0), (.int 208 0), (.str "/claim/cut.py" 571)])), (List.toArray [])⟩
def hO304 (P : Params) : Obj := ⟨(.type "function"), none, (.func (fnOf "_law_walk" "_law_walk" (defArgs (top 35)) (defBody (top 35)) (defScope (top 35)) .none .none .none (.str "law_stillheap_k34_whole_deeds_in_memory" 437) none (.ref 303) .none)), (List.toArray [])⟩
def hO305 (P : Params) : Obj := ⟨(.type "tuple"), none, (.seq (List.toArray []) 0), (List.toArray [])⟩
def hO306 (P : Params) : Obj := ⟨.none, none, (.fields (List.toArray [])), (List.toArray [])⟩
def hO307 (P : Params) : Obj := ⟨.none, none, (.func ⟨"_law_ends_well", "_law_ends_well", defArgs (top 36), .stmts (defBody (top 36)), defScope (top 36), 0, [], .none, .none, .none, .none, none, .none, .none, 0⟩), (List.toArray [])⟩
def hO308 (P : Params) : Obj := ⟨(.type "code"), none, (.fields (List.toArray [(.str "_law_ends_well" 573), (.str "_law_ends_well" 574), (.str "/claim/cut.py" 575), (.int 217 0), (.int 3 0), (.int 0 0), (.int 0 0), (.int 3 0), (.ref 305), (.bool true), (.int 181 0), (.ref 306), .none, .none, .none, (.ref 307), (.int 576 0), (.int 217 0), (.str "/claim/cut.py" 577)])), (List.toArray [])⟩
def hO309 (P : Params) : Obj := ⟨(.type "function"), none, (.func (fnOf "_law_ends_well" "_law_ends_well" (defArgs (top 36)) (defBody (top 36)) (defScope (top 36)) .none .none .none (.str "law_stillheap_k34_whole_deeds_in_memory" 437) none (.ref 308) .none)), (List.toArray [])⟩
def hO310 (P : Params) : Obj := ⟨(.type "tuple"), none, (.seq (List.toArray []) 0), (List.toArray [])⟩
def hO311 (P : Params) : Obj := ⟨.none, none, (.fields (List.toArray [])), (List.toArray [])⟩
def hO312 (P : Params) : Obj := ⟨(.type "tuple"), none, (.seq (List.toArray [(.str "script" 582), (.str "memory" 583), (.str "model" 584), (.str "known" 585), (.str "other" 586), (.str "kept" 587), (.str "k" 588), (.str "number" 589), (.str "deed" 590), (.str "due" 591)]) 0), (List.toArray [])⟩
def hO313 (P : Params) : Obj := ⟨(.type "tuple"), none, (.seq (List.toArray []) 0), (List.toArray [])⟩
def hO314 (P : Params) : Obj := ⟨.none, none, (.func ⟨"law", "law", defArgs (top 37), .stmts (defBody (top 37)), defScope (top 37), 0, [], .none, .none, .none, .none, none, .none, .none, 0⟩), (List.toArray [])⟩
def hO315 (P : Params) : Obj := ⟨(.type "code"), none, (.fields (List.toArray [(.str "law" 579), (.str "law" 580), (.str "/claim/cut.py" 581), (.int 229 0), (.int 1 0), (.int 0 0), (.int 0 0), (.int 3 0), (.ref 310), (.bool true), (.int 181 0), (.ref 311), .none, (.ref 312), (.ref 313), (.ref 314), (.int 592 0), (.int 229 0), (.str "/claim/cut.py" 593)])), (List.toArray [])⟩
def hO316 (P : Params) : Obj := ⟨(.type "function"), none, (.func (fnOf "law" "law" (defArgs (top 37)) (defBody (top 37)) (defScope (top 37)) .none .none .none (.str "law_stillheap_k34_whole_deeds_in_memory" 437) none (.ref 315) .none)), (List.toArray [])⟩
def hTa (P : Params) : BT := (.node (hO0 P) (.node (hO1 P) (.node (hO3 P) (.node (hO7 P) .nil .nil) (.node (hO11 P) .nil .nil)) (.node (hO5 P) (.node (hO9 P) .nil .nil) (.node (hO13 P) .nil .nil))) (.node (hO2 P) (.node (hO4 P) (.node (hO8 P) .nil .nil) (.node (hO12 P) .nil .nil)) (.node (hO6 P) (.node (hO10 P) .nil .nil) (.node (hO14 P) .nil .nil))))
def hSa (w : World) (os : OsState) : SharedT := ⟨hTa w.params, 15, ⟨[], [], [], 0, [], [], false, (List.toArray []), [], 0, false, false, false, 0, [2000, 10, 10], false, 0, true, [], [], 0, false⟩, #[], ⟨0, 0, 0, 0⟩, 187, os⟩
def hTb (P : Params) : BT := (.node (hO0 P) (.node (hO1 P) (.node (hO3 P) (.node (hO7 P) .nil .nil) (.node (hO11 P) .nil .nil)) (.node (hO5 P) (.node (hO9 P) .nil .nil) (.node (hO13 P) .nil .nil))) (.node (hO2 P) (.node (hO4 P) (.node (hO8 P) .nil .nil) (.node (hO12 P) .nil .nil)) (.node (hO6 P) (.node (hO10 P) .nil .nil) (.node (hO14 P) .nil .nil))))
def hSb (w : World) (os : OsState) : SharedT := ⟨hTb w.params, 15, ⟨[], [], [], 0, [], [], false, (List.toArray []), [], 0, false, false, false, 0, [2000, 10, 10], false, 0, true, [], [], 0, false⟩, #[], ⟨0, 0, 0, 0⟩, 187, os⟩
def hT0 (P : Params) : BT := (.node (hO0 P) (.node (hO1 P) (.node (hO3_2 P) (.node (hO7 P) (.node (hO15 P) (.node (hO31 P) (.node (hO63 P) (.node (hO127 P) .nil .nil) .nil) (.node (hO95 P) .nil .nil)) (.node (hO47 P) (.node (hO79 P) (.node (hO143 P) .nil .nil) .nil) (.node (hO111 P) .nil .nil))) (.node (hO23 P) (.node (hO39 P) (.node (hO71 P) (.node (hO135 P) .nil .nil) .nil) (.node (hO103 P) .nil .nil)) (.node (hO55 P) (.node (hO87 P) .nil .nil) (.node (hO119 P) .nil .nil)))) (.node (hO11 P) (.node (hO19 P) (.node (hO35 P) (.node (hO67 P) (.node (hO131 P) .nil .nil) .nil) (.node (hO99 P) .nil .nil)) (.node (hO51 P) (.node (hO83 P) (.node (hO147 P) .nil .nil) .nil) (.node (hO115 P) .nil .nil))) (.node (hO27 P) (.node (hO43 P) (.node (hO75 P) (.node (hO139 P) .nil .nil) .nil) (.node (hO107 P) .nil .nil)) (.node (hO59 P) (.node (hO91 P) .nil .nil) (.node (hO123 P) .nil .nil))))) (.node (hO5 P) (.node (hO9 P) (.node (hO17 P) (.node (hO33 P) (.node (hO65 P) (.node (hO129 P) .nil .nil) .nil) (.node (hO97 P) .nil .nil)) (.node (hO49 P) (.node (hO81 P) (.node (hO145 P) .nil .nil) .nil) (.node (hO113 P) .nil .nil))) (.node (hO25 P) (.node (hO41 P) (.node (hO73 P) (.node (hO137 P) .nil .nil) .nil) (.node (hO105 P) .nil .nil)) (.node (hO57 P) (.node (hO89 P) .nil .nil) (.node (hO121 P) .nil .nil)))) (.node (hO13 P) (.node (hO21 P) (.node (hO37 P) (.node (hO69 P) (.node (hO133 P) .nil .nil) .nil) (.node (hO101 P) .nil .nil)) (.node (hO53 P) (.node (hO85 P) (.node (hO149 P) .nil .nil) .nil) (.node (hO117 P) .nil .nil))) (.node (hO29 P) (.node (hO45 P) (.node (hO77 P) (.node (hO141 P) .nil .nil) .nil) (.node (hO109 P) .nil .nil)) (.node (hO61 P) (.node (hO93 P) .nil .nil) (.node (hO125 P) .nil .nil)))))) (.node (hO2 P) (.node (hO4 P) (.node (hO8 P) (.node (hO16 P) (.node (hO32 P) (.node (hO64 P) (.node (hO128 P) .nil .nil) .nil) (.node (hO96 P) .nil .nil)) (.node (hO48 P) (.node (hO80 P) (.node (hO144 P) .nil .nil) .nil) (.node (hO112 P) .nil .nil))) (.node (hO24 P) (.node (hO40 P) (.node (hO72 P) (.node (hO136 P) .nil .nil) .nil) (.node (hO104 P) .nil .nil)) (.node (hO56 P) (.node (hO88 P) .nil .nil) (.node (hO120 P) .nil .nil)))) (.node (hO12_2 P) (.node (hO20 P) (.node (hO36 P) (.node (hO68 P) (.node (hO132 P) .nil .nil) .nil) (.node (hO100 P) .nil .nil)) (.node (hO52 P) (.node (hO84 P) (.node (hO148 P) .nil .nil) .nil) (.node (hO116 P) .nil .nil))) (.node (hO28 P) (.node (hO44 P) (.node (hO76 P) (.node (hO140 P) .nil .nil) .nil) (.node (hO108 P) .nil .nil)) (.node (hO60 P) (.node (hO92 P) .nil .nil) (.node (hO124 P) .nil .nil))))) (.node (hO6 P) (.node (hO10 P) (.node (hO18 P) (.node (hO34 P) (.node (hO66 P) (.node (hO130 P) .nil .nil) .nil) (.node (hO98 P) .nil .nil)) (.node (hO50 P) (.node (hO82 P) (.node (hO146 P) .nil .nil) .nil) (.node (hO114 P) .nil .nil))) (.node (hO26 P) (.node (hO42 P) (.node (hO74 P) (.node (hO138 P) .nil .nil) .nil) (.node (hO106 P) .nil .nil)) (.node (hO58 P) (.node (hO90 P) .nil .nil) (.node (hO122 P) .nil .nil)))) (.node (hO14 P) (.node (hO22 P) (.node (hO38 P) (.node (hO70 P) (.node (hO134 P) .nil .nil) .nil) (.node (hO102 P) .nil .nil)) (.node (hO54 P) (.node (hO86 P) .nil .nil) (.node (hO118 P) .nil .nil))) (.node (hO30 P) (.node (hO46 P) (.node (hO78 P) (.node (hO142 P) .nil .nil) .nil) (.node (hO110 P) .nil .nil)) (.node (hO62 P) (.node (hO94 P) .nil .nil) (.node (hO126 P) .nil .nil)))))))
def hS0 (w : World) (os : OsState) : SharedT := ⟨hT0 w.params, 150, ⟨[], [], [], 0, [], [], false, (List.toArray []), [], 0, false, false, false, 0, [2000, 10, 10], false, 0, true, [], [], 0, false⟩, #[], ⟨0, 0, 0, 0⟩, 368, os⟩
def hT1 (P : Params) : BT := (.node (hO0 P) (.node (hO1 P) (.node (hO3_3 P) (.node (hO7 P) (.node (hO15 P) (.node (hO31 P) (.node (hO63 P) (.node (hO127 P) (.node (hO255 P) .nil .nil) .nil) (.node (hO191 P) .nil .nil)) (.node (hO95 P) (.node (hO159 P) (.node (hO287 P) .nil .nil) .nil) (.node (hO223 P) .nil .nil))) (.node (hO47 P) (.node (hO79 P) (.node (hO143 P) (.node (hO271 P) .nil .nil) .nil) (.node (hO207 P) .nil .nil)) (.node (hO111 P) (.node (hO175 P) (.node (hO303 P) .nil .nil) .nil) (.node (hO239 P) .nil .nil)))) (.node (hO23 P) (.node (hO39 P) (.node (hO71 P) (.node (hO135 P) (.node (hO263 P) .nil .nil) .nil) (.node (hO199 P) .nil .nil)) (.node (hO103 P) (.node (hO167 P) (.node (hO295 P) .nil .nil) .nil) (.node (hO231 P) .nil .nil))) (.node (hO55 P) (.node (hO87 P) (.node (hO151 P) (.node (hO279 P) .nil .nil) .nil) (.node (hO215 P) .nil .nil)) (.node (hO119 P) (.node (hO183 P) (.node (hO311 P) .nil .nil) .nil) (.node (hO247 P) .nil .nil))))) (.node (hO11 P) (.node (hO19 P) (.node (hO35 P) (.node (hO67 P) (.node (hO131 P) (.node (hO259 P) .nil .nil) .nil) (.node (hO195 P) .nil .nil)) (.node (hO99 P) (.node (hO163 P) (.node (hO291 P) .nil .nil) .nil) (.node (hO227 P) .nil .nil))) (.node (hO51 P) (.node (hO83 P) (.node (hO147 P) (.node (hO275 P) .nil .nil) .nil) (.node (hO211 P) .nil .nil)) (.node (hO115 P) (.node (hO179 P) (.node (hO307 P) .nil .nil) .nil) (.node (hO243 P) .nil .nil)))) (.node (hO27 P) (.node (hO43 P) (.node (hO75 P) (.node (hO139 P) (.node (hO267 P) .nil .nil) .nil) (.node (hO203 P) .nil .nil)) (.node (hO107 P) (.node (hO171 P) (.node (hO299 P) .nil .nil) .nil) (.node (hO235 P) .nil .nil))) (.node (hO59 P) (.node (hO91 P) (.node (hO155 P) (.node (hO283 P) .nil .nil) .nil) (.node (hO219 P) .nil .nil)) (.node (hO123 P) (.node (hO187 P) (.node (hO315 P) .nil .nil) .nil) (.node (hO251 P) .nil .nil)))))) (.node (hO5 P) (.node (hO9 P) (.node (hO17 P) (.node (hO33 P) (.node (hO65 P) (.node (hO129 P) (.node (hO257 P) .nil .nil) .nil) (.node (hO193 P) .nil .nil)) (.node (hO97 P) (.node (hO161 P) (.node (hO289 P) .nil .nil) .nil) (.node (hO225 P) .nil .nil))) (.node (hO49 P) (.node (hO81 P) (.node (hO145 P) (.node (hO273 P) .nil .nil) .nil) (.node (hO209 P) .nil .nil)) (.node (hO113 P) (.node (hO177 P) (.node (hO305 P) .nil .nil) .nil) (.node (hO241 P) .nil .nil)))) (.node (hO25 P) (.node (hO41 P) (.node (hO73 P) (.node (hO137 P) (.node (hO265 P) .nil .nil) .nil) (.node (hO201 P) .nil .nil)) (.node (hO105 P) (.node (hO169 P) (.node (hO297 P) .nil .nil) .nil) (.node (hO233 P) .nil .nil))) (.node (hO57 P) (.node (hO89 P) (.node (hO153 P) (.node (hO281 P) .nil .nil) .nil) (.node (hO217 P) .nil .nil)) (.node (hO121 P) (.node (hO185 P) (.node (hO313 P) .nil .nil) .nil) (.node (hO249 P) .nil .nil))))) (.node (hO13 P) (.node (hO21 P) (.node (hO37 P) (.node (hO69 P) (.node (hO133 P) (.node (hO261 P) .nil .nil) .nil) (.node (hO197 P) .nil .nil)) (.node (hO101 P) (.node (hO165 P) (.node (hO293 P) .nil .nil) .nil) (.node (hO229 P) .nil .nil))) (.node (hO53 P) (.node (hO85 P) (.node (hO149 P) (.node (hO277 P) .nil .nil) .nil) (.node (hO213 P) .nil .nil)) (.node (hO117 P) (.node (hO181 P) (.node (hO309 P) .nil .nil) .nil) (.node (hO245 P) .nil .nil)))) (.node (hO29 P) (.node (hO45 P) (.node (hO77 P) (.node (hO141 P) (.node (hO269 P) .nil .nil) .nil) (.node (hO205 P) .nil .nil)) (.node (hO109 P) (.node (hO173 P) (.node (hO301 P) .nil .nil) .nil) (.node (hO237 P) .nil .nil))) (.node (hO61 P) (.node (hO93 P) (.node (hO157 P) (.node (hO285 P) .nil .nil) .nil) (.node (hO221 P) .nil .nil)) (.node (hO125 P) (.node (hO189 P) .nil .nil) (.node (hO253 P) .nil .nil))))))) (.node (hO2 P) (.node (hO4 P) (.node (hO8 P) (.node (hO16 P) (.node (hO32 P) (.node (hO64 P) (.node (hO128 P) (.node (hO256 P) .nil .nil) .nil) (.node (hO192 P) .nil .nil)) (.node (hO96 P) (.node (hO160 P) (.node (hO288 P) .nil .nil) .nil) (.node (hO224 P) .nil .nil))) (.node (hO48 P) (.node (hO80 P) (.node (hO144 P) (.node (hO272 P) .nil .nil) .nil) (.node (hO208 P) .nil .nil)) (.node (hO112 P) (.node (hO176 P) (.node (hO304 P) .nil .nil) .nil) (.node (hO240 P) .nil .nil)))) (.node (hO24 P) (.node (hO40 P) (.node (hO72 P) (.node (hO136 P) (.node (hO264 P) .nil .nil) .nil) (.node (hO200 P) .nil .nil)) (.node (hO104 P) (.node (hO168 P) (.node (hO296 P) .nil .nil) .nil) (.node (hO232 P) .nil .nil))) (.node (hO56 P) (.node (hO88 P) (.node (hO152 P) (.node (hO280 P) .nil .nil) .nil) (.node (hO216 P) .nil .nil)) (.node (hO120 P) (.node (hO184 P) (.node (hO312 P) .nil .nil) .nil) (.node (hO248 P) .nil .nil))))) (.node (hO12_3 P) (.node (hO20 P) (.node (hO36 P) (.node (hO68 P) (.node (hO132 P) (.node (hO260 P) .nil .nil) .nil) (.node (hO196 P) .nil .nil)) (.node (hO100 P) (.node (hO164 P) (.node (hO292 P) .nil .nil) .nil) (.node (hO228 P) .nil .nil))) (.node (hO52 P) (.node (hO84 P) (.node (hO148 P) (.node (hO276 P) .nil .nil) .nil) (.node (hO212 P) .nil .nil)) (.node (hO116 P) (.node (hO180 P) (.node (hO308 P) .nil .nil) .nil) (.node (hO244 P) .nil .nil)))) (.node (hO28 P) (.node (hO44 P) (.node (hO76 P) (.node (hO140 P) (.node (hO268 P) .nil .nil) .nil) (.node (hO204 P) .nil .nil)) (.node (hO108 P) (.node (hO172 P) (.node (hO300 P) .nil .nil) .nil) (.node (hO236 P) .nil .nil))) (.node (hO60 P) (.node (hO92 P) (.node (hO156 P) (.node (hO284 P) .nil .nil) .nil) (.node (hO220 P) .nil .nil)) (.node (hO124 P) (.node (hO188 P) (.node (hO316 P) .nil .nil) .nil) (.node (hO252 P) .nil .nil)))))) (.node (hO6 P) (.node (hO10 P) (.node (hO18 P) (.node (hO34 P) (.node (hO66 P) (.node (hO130 P) (.node (hO258 P) .nil .nil) .nil) (.node (hO194 P) .nil .nil)) (.node (hO98 P) (.node (hO162 P) (.node (hO290 P) .nil .nil) .nil) (.node (hO226 P) .nil .nil))) (.node (hO50 P) (.node (hO82 P) (.node (hO146 P) (.node (hO274 P) .nil .nil) .nil) (.node (hO210 P) .nil .nil)) (.node (hO114 P) (.node (hO178 P) (.node (hO306 P) .nil .nil) .nil) (.node (hO242 P) .nil .nil)))) (.node (hO26 P) (.node (hO42 P) (.node (hO74 P) (.node (hO138 P) (.node (hO266 P) .nil .nil) .nil) (.node (hO202 P) .nil .nil)) (.node (hO106 P) (.node (hO170 P) (.node (hO298 P) .nil .nil) .nil) (.node (hO234 P) .nil .nil))) (.node (hO58 P) (.node (hO90 P) (.node (hO154 P) (.node (hO282 P) .nil .nil) .nil) (.node (hO218 P) .nil .nil)) (.node (hO122 P) (.node (hO186 P) (.node (hO314 P) .nil .nil) .nil) (.node (hO250 P) .nil .nil))))) (.node (hO14 P) (.node (hO22 P) (.node (hO38 P) (.node (hO70 P) (.node (hO134 P) (.node (hO262 P) .nil .nil) .nil) (.node (hO198 P) .nil .nil)) (.node (hO102 P) (.node (hO166 P) (.node (hO294 P) .nil .nil) .nil) (.node (hO230 P) .nil .nil))) (.node (hO54 P) (.node (hO86 P) (.node (hO150 P) (.node (hO278 P) .nil .nil) .nil) (.node (hO214 P) .nil .nil)) (.node (hO118 P) (.node (hO182 P) (.node (hO310 P) .nil .nil) .nil) (.node (hO246 P) .nil .nil)))) (.node (hO30 P) (.node (hO46 P) (.node (hO78 P) (.node (hO142 P) (.node (hO270 P) .nil .nil) .nil) (.node (hO206 P) .nil .nil)) (.node (hO110 P) (.node (hO174 P) (.node (hO302 P) .nil .nil) .nil) (.node (hO238 P) .nil .nil))) (.node (hO62 P) (.node (hO94 P) (.node (hO158 P) (.node (hO286 P) .nil .nil) .nil) (.node (hO222 P) .nil .nil)) (.node (hO126 P) (.node (hO190 P) .nil .nil) (.node (hO254 P) .nil .nil))))))))
def hS1 (w : World) (os : OsState) : SharedT := ⟨hT1 w.params, 317, ⟨[], [], [], 0, [], [], false, (List.toArray []), [], 0, false, false, false, 0, [2000, 10, 10], false, 0, true, [], [], 0, false⟩, #[], ⟨0, 0, 0, 0⟩, 595, os⟩
def hTf (P : Params) : BT := (.node (hO0 P) (.node (hO1 P) (.node (hO3_3 P) (.node (hO7 P) (.node (hO15 P) (.node (hO31 P) (.node (hO63 P) (.node (hO127 P) (.node (hO255 P) .nil .nil) .nil) (.node (hO191 P) .nil .nil)) (.node (hO95 P) (.node (hO159 P) (.node (hO287 P) .nil .nil) .nil) (.node (hO223 P) .nil .nil))) (.node (hO47 P) (.node (hO79 P) (.node (hO143 P) (.node (hO271 P) .nil .nil) .nil) (.node (hO207 P) .nil .nil)) (.node (hO111 P) (.node (hO175 P) (.node (hO303 P) .nil .nil) .nil) (.node (hO239 P) .nil .nil)))) (.node (hO23 P) (.node (hO39 P) (.node (hO71 P) (.node (hO135 P) (.node (hO263 P) .nil .nil) .nil) (.node (hO199 P) .nil .nil)) (.node (hO103 P) (.node (hO167 P) (.node (hO295 P) .nil .nil) .nil) (.node (hO231 P) .nil .nil))) (.node (hO55 P) (.node (hO87 P) (.node (hO151 P) (.node (hO279 P) .nil .nil) .nil) (.node (hO215 P) .nil .nil)) (.node (hO119 P) (.node (hO183 P) (.node (hO311 P) .nil .nil) .nil) (.node (hO247 P) .nil .nil))))) (.node (hO11 P) (.node (hO19 P) (.node (hO35 P) (.node (hO67 P) (.node (hO131 P) (.node (hO259 P) .nil .nil) .nil) (.node (hO195 P) .nil .nil)) (.node (hO99 P) (.node (hO163 P) (.node (hO291 P) .nil .nil) .nil) (.node (hO227 P) .nil .nil))) (.node (hO51 P) (.node (hO83 P) (.node (hO147 P) (.node (hO275 P) .nil .nil) .nil) (.node (hO211 P) .nil .nil)) (.node (hO115 P) (.node (hO179 P) (.node (hO307 P) .nil .nil) .nil) (.node (hO243 P) .nil .nil)))) (.node (hO27 P) (.node (hO43 P) (.node (hO75 P) (.node (hO139 P) (.node (hO267 P) .nil .nil) .nil) (.node (hO203 P) .nil .nil)) (.node (hO107 P) (.node (hO171 P) (.node (hO299 P) .nil .nil) .nil) (.node (hO235 P) .nil .nil))) (.node (hO59 P) (.node (hO91 P) (.node (hO155 P) (.node (hO283 P) .nil .nil) .nil) (.node (hO219 P) .nil .nil)) (.node (hO123 P) (.node (hO187 P) (.node (hO315 P) .nil .nil) .nil) (.node (hO251 P) .nil .nil)))))) (.node (hO5 P) (.node (hO9 P) (.node (hO17 P) (.node (hO33 P) (.node (hO65 P) (.node (hO129 P) (.node (hO257 P) .nil .nil) .nil) (.node (hO193 P) .nil .nil)) (.node (hO97 P) (.node (hO161 P) (.node (hO289 P) .nil .nil) .nil) (.node (hO225 P) .nil .nil))) (.node (hO49 P) (.node (hO81 P) (.node (hO145 P) (.node (hO273 P) .nil .nil) .nil) (.node (hO209 P) .nil .nil)) (.node (hO113 P) (.node (hO177 P) (.node (hO305 P) .nil .nil) .nil) (.node (hO241 P) .nil .nil)))) (.node (hO25 P) (.node (hO41 P) (.node (hO73 P) (.node (hO137 P) (.node (hO265 P) .nil .nil) .nil) (.node (hO201 P) .nil .nil)) (.node (hO105 P) (.node (hO169 P) (.node (hO297 P) .nil .nil) .nil) (.node (hO233 P) .nil .nil))) (.node (hO57 P) (.node (hO89 P) (.node (hO153 P) (.node (hO281 P) .nil .nil) .nil) (.node (hO217 P) .nil .nil)) (.node (hO121 P) (.node (hO185 P) (.node (hO313 P) .nil .nil) .nil) (.node (hO249 P) .nil .nil))))) (.node (hO13 P) (.node (hO21 P) (.node (hO37 P) (.node (hO69 P) (.node (hO133 P) (.node (hO261 P) .nil .nil) .nil) (.node (hO197 P) .nil .nil)) (.node (hO101 P) (.node (hO165 P) (.node (hO293 P) .nil .nil) .nil) (.node (hO229 P) .nil .nil))) (.node (hO53 P) (.node (hO85 P) (.node (hO149 P) (.node (hO277 P) .nil .nil) .nil) (.node (hO213 P) .nil .nil)) (.node (hO117 P) (.node (hO181 P) (.node (hO309 P) .nil .nil) .nil) (.node (hO245 P) .nil .nil)))) (.node (hO29 P) (.node (hO45 P) (.node (hO77 P) (.node (hO141 P) (.node (hO269 P) .nil .nil) .nil) (.node (hO205 P) .nil .nil)) (.node (hO109 P) (.node (hO173 P) (.node (hO301 P) .nil .nil) .nil) (.node (hO237 P) .nil .nil))) (.node (hO61 P) (.node (hO93 P) (.node (hO157 P) (.node (hO285 P) .nil .nil) .nil) (.node (hO221 P) .nil .nil)) (.node (hO125 P) (.node (hO189 P) .nil .nil) (.node (hO253 P) .nil .nil))))))) (.node (hO2 P) (.node (hO4 P) (.node (hO8 P) (.node (hO16 P) (.node (hO32 P) (.node (hO64 P) (.node (hO128 P) (.node (hO256 P) .nil .nil) .nil) (.node (hO192 P) .nil .nil)) (.node (hO96 P) (.node (hO160 P) (.node (hO288 P) .nil .nil) .nil) (.node (hO224 P) .nil .nil))) (.node (hO48 P) (.node (hO80 P) (.node (hO144 P) (.node (hO272 P) .nil .nil) .nil) (.node (hO208 P) .nil .nil)) (.node (hO112 P) (.node (hO176 P) (.node (hO304 P) .nil .nil) .nil) (.node (hO240 P) .nil .nil)))) (.node (hO24 P) (.node (hO40 P) (.node (hO72 P) (.node (hO136 P) (.node (hO264 P) .nil .nil) .nil) (.node (hO200 P) .nil .nil)) (.node (hO104 P) (.node (hO168 P) (.node (hO296 P) .nil .nil) .nil) (.node (hO232 P) .nil .nil))) (.node (hO56 P) (.node (hO88 P) (.node (hO152 P) (.node (hO280 P) .nil .nil) .nil) (.node (hO216 P) .nil .nil)) (.node (hO120 P) (.node (hO184 P) (.node (hO312 P) .nil .nil) .nil) (.node (hO248 P) .nil .nil))))) (.node (hO12_3 P) (.node (hO20 P) (.node (hO36 P) (.node (hO68 P) (.node (hO132 P) (.node (hO260 P) .nil .nil) .nil) (.node (hO196 P) .nil .nil)) (.node (hO100 P) (.node (hO164 P) (.node (hO292 P) .nil .nil) .nil) (.node (hO228 P) .nil .nil))) (.node (hO52 P) (.node (hO84 P) (.node (hO148 P) (.node (hO276 P) .nil .nil) .nil) (.node (hO212 P) .nil .nil)) (.node (hO116 P) (.node (hO180 P) (.node (hO308 P) .nil .nil) .nil) (.node (hO244 P) .nil .nil)))) (.node (hO28 P) (.node (hO44 P) (.node (hO76 P) (.node (hO140 P) (.node (hO268 P) .nil .nil) .nil) (.node (hO204 P) .nil .nil)) (.node (hO108 P) (.node (hO172 P) (.node (hO300 P) .nil .nil) .nil) (.node (hO236 P) .nil .nil))) (.node (hO60 P) (.node (hO92 P) (.node (hO156 P) (.node (hO284 P) .nil .nil) .nil) (.node (hO220 P) .nil .nil)) (.node (hO124 P) (.node (hO188 P) (.node (hO316 P) .nil .nil) .nil) (.node (hO252 P) .nil .nil)))))) (.node (hO6 P) (.node (hO10 P) (.node (hO18 P) (.node (hO34 P) (.node (hO66 P) (.node (hO130 P) (.node (hO258 P) .nil .nil) .nil) (.node (hO194 P) .nil .nil)) (.node (hO98 P) (.node (hO162 P) (.node (hO290 P) .nil .nil) .nil) (.node (hO226 P) .nil .nil))) (.node (hO50 P) (.node (hO82 P) (.node (hO146 P) (.node (hO274 P) .nil .nil) .nil) (.node (hO210 P) .nil .nil)) (.node (hO114 P) (.node (hO178 P) (.node (hO306 P) .nil .nil) .nil) (.node (hO242 P) .nil .nil)))) (.node (hO26 P) (.node (hO42 P) (.node (hO74 P) (.node (hO138 P) (.node (hO266 P) .nil .nil) .nil) (.node (hO202 P) .nil .nil)) (.node (hO106 P) (.node (hO170 P) (.node (hO298 P) .nil .nil) .nil) (.node (hO234 P) .nil .nil))) (.node (hO58 P) (.node (hO90 P) (.node (hO154 P) (.node (hO282 P) .nil .nil) .nil) (.node (hO218 P) .nil .nil)) (.node (hO122 P) (.node (hO186 P) (.node (hO314 P) .nil .nil) .nil) (.node (hO250 P) .nil .nil))))) (.node (hO14 P) (.node (hO22 P) (.node (hO38 P) (.node (hO70 P) (.node (hO134 P) (.node (hO262 P) .nil .nil) .nil) (.node (hO198 P) .nil .nil)) (.node (hO102 P) (.node (hO166 P) (.node (hO294 P) .nil .nil) .nil) (.node (hO230 P) .nil .nil))) (.node (hO54 P) (.node (hO86 P) (.node (hO150 P) (.node (hO278 P) .nil .nil) .nil) (.node (hO214 P) .nil .nil)) (.node (hO118 P) (.node (hO182 P) (.node (hO310 P) .nil .nil) .nil) (.node (hO246 P) .nil .nil)))) (.node (hO30 P) (.node (hO46 P) (.node (hO78 P) (.node (hO142 P) (.node (hO270 P) .nil .nil) .nil) (.node (hO206 P) .nil .nil)) (.node (hO110 P) (.node (hO174 P) (.node (hO302 P) .nil .nil) .nil) (.node (hO238 P) .nil .nil))) (.node (hO62 P) (.node (hO94 P) (.node (hO158 P) (.node (hO286 P) .nil .nil) .nil) (.node (hO222 P) .nil .nil)) (.node (hO126 P) (.node (hO190 P) .nil .nil) (.node (hO254 P) .nil .nil))))))))
def hSf (w : World) (os : OsState) : SharedT := ⟨hTf w.params, 317, ⟨[], [], [], 0, [], [], false, (List.toArray []), [], 0, false, false, false, 0, [2000, 10, 10], false, 0, true, [], [], 0, false⟩, #[], ⟨0, 0, 0, 0⟩, 595, os⟩
def hEnv : Env := { scope := (PySem.Challenge.pw_stillheap_k34_whole_deeds_in_memory).main.scope, locals := mainNs, globals := mainNs, cells := [], code := (.ref 13), frame := some 14 }
def hG0 : List Stmt := [top 0, top 1, top 2, top 3, top 4, top 5, top 6, top 7, top 8, top 9, top 10, top 11, top 12, top 13, top 14, top 15, top 16, top 17, top 18]
def hG1 : List Stmt := [top 19, top 20, top 21, top 22, top 23, top 24, top 25, top 26, top 27, top 28, top 29, top 30, top 31, top 32, top 33, top 34, top 35, top 36, top 37]
def hB : List Stmt := hG0 ++ (hG1 ++ [])
def hC : Code := .body hB hEnv
abbrev hF : List Frame := [topFrame ⟨0, 0, 0, 0⟩]
theorem hPre (w : World) (os : OsState) : topGo treeTable PySem.Challenge.pw_stillheap_k34_whole_deeds_in_memory w 11 (.some (.ref 6)) 12 ⟨boot_heap w.params, #[], boot_drawn, boot_toks, os⟩ (topStub PySem.Challenge.pw_stillheap_k34_whole_deeds_in_memory) = some ((hSa w os).abs, ⟨denote treeTable hC, hC, ⟨0, 0, 0, 0⟩, hF⟩) := by kernel_rfl
theorem hBlk (w : World) (os : OsState) : segRun treeTable PySem.Challenge.pw_stillheap_k34_whole_deeds_in_memory w 11 (.some (.ref 6)) 1 1 (hSa w os).abs (blockOf hB hEnv hC ⟨0, 0, 0, 0⟩ hF) = some (.next, (hSb w os).abs, hC, ⟨0, 0, 0, 0⟩) := by kernel_rfl
theorem hR0 (w : World) (os : OsState) : segRunT treeTable PySem.Challenge.pw_stillheap_k34_whole_deeds_in_memory w 11 (.some (.ref 6)) 1 929 (hSb w os) (piecesOf hG0 hEnv hC ⟨0, 0, 0, 0⟩ hF) = some (.next, hS0 w os, hC, ⟨66, 0, 66, 8⟩) := by kernel_rfl
theorem hR1 (w : World) (os : OsState) : segRunT treeTable PySem.Challenge.pw_stillheap_k34_whole_deeds_in_memory w 11 (.some (.ref 6)) 1 914 (hS0 w os) (piecesOf hG1 hEnv hC ⟨66, 0, 66, 8⟩ hF) = some (.next, hS1 w os, hC, ⟨229, 0, 246, 105⟩) := by kernel_rfl
theorem hFin (w : World) (os : OsState) : topRun treeTable PySem.Challenge.pw_stillheap_k34_whole_deeds_in_memory w 11 (.some (.ref 6)) 2 (hS1 w os).abs ⟨doneF .next, hC, ⟨229, 0, 246, 105⟩, hF⟩ = some (hSf w os).abs := by kernel_rfl
theorem hRun (w : World) (os : OsState) : topRun treeTable PySem.Challenge.pw_stillheap_k34_whole_deeds_in_memory w 11 (.some (.ref 6)) (12 + (1 + (929 + (914 + 2)))) ⟨boot_heap w.params, #[], boot_drawn, boot_toks, os⟩ (topStub PySem.Challenge.pw_stillheap_k34_whole_deeds_in_memory) = some (hSf w os).abs := go_top (hPre w os) (piece_block (hBlk w os) (piece_app (segRun_of (hR0 w os)) (piece_app (segRun_of (hR1 w os)) (hFin w os))))
def hK (P : Params) : Frag := (nat_lit 2, hO2 P) :: (nat_lit 3, hO3_3 P) :: (nat_lit 15, hO15 P) :: (nat_lit 17, hO17 P) :: (nat_lit 18, hO18 P) :: (nat_lit 20, hO20 P) :: (nat_lit 21, hO21 P) :: (nat_lit 22, hO22 P) :: (nat_lit 29, hO29 P) :: (nat_lit 31, hO31 P) :: (nat_lit 32, hO32 P) :: (nat_lit 34, hO34 P) :: (nat_lit 35, hO35 P) :: (nat_lit 36, hO36 P) :: (nat_lit 38, hO38 P) :: (nat_lit 39, hO39 P) :: (nat_lit 41, hO41 P) :: (nat_lit 42, hO42 P) :: (nat_lit 43, hO43 P) :: (nat_lit 44, hO44 P) :: (nat_lit 45, hO45 P) :: (nat_lit 46, hO46 P) :: (nat_lit 49, hO49 P) :: (nat_lit 56, hO56 P) :: (nat_lit 58, hO58 P) :: (nat_lit 59, hO59 P) :: (nat_lit 61, hO61 P) :: (nat_lit 62, hO62 P) :: (nat_lit 63, hO63 P) :: (nat_lit 64, hO64 P) :: (nat_lit 65, hO65 P) :: (nat_lit 68, hO68 P) :: (nat_lit 70, hO70 P) :: (nat_lit 71, hO71 P) :: (nat_lit 73, hO73 P) :: (nat_lit 74, hO74 P) :: (nat_lit 75, hO75 P) :: (nat_lit 77, hO77 P) :: (nat_lit 78, hO78 P) :: (nat_lit 80, hO80 P) :: (nat_lit 81, hO81 P) :: (nat_lit 82, hO82 P) :: (nat_lit 85, hO85 P) :: (nat_lit 86, hO86 P) :: (nat_lit 87, hO87 P) :: (nat_lit 89, hO89 P) :: (nat_lit 90, hO90 P) :: (nat_lit 92, hO92 P) :: (nat_lit 93, hO93 P) :: (nat_lit 94, hO94 P) :: (nat_lit 96, hO96 P) :: (nat_lit 97, hO97 P) :: (nat_lit 99, hO99 P) :: (nat_lit 100, hO100 P) :: (nat_lit 101, hO101 P) :: (nat_lit 103, hO103 P) :: (nat_lit 104, hO104 P) :: (nat_lit 106, hO106 P) :: (nat_lit 107, hO107 P) :: (nat_lit 108, hO108 P) :: (nat_lit 110, hO110 P) :: (nat_lit 111, hO111 P) :: (nat_lit 113, hO113 P) :: (nat_lit 114, hO114 P) :: (nat_lit 115, hO115 P) :: (nat_lit 117, hO117 P) :: (nat_lit 118, hO118 P) :: (nat_lit 120, hO120 P) :: (nat_lit 121, hO121 P) :: (nat_lit 122, hO122 P) :: (nat_lit 124, hO124 P) :: (nat_lit 125, hO125 P) :: (nat_lit 127, hO127 P) :: (nat_lit 128, hO128 P) :: (nat_lit 129, hO129 P) :: (nat_lit 131, hO131 P) :: (nat_lit 132, hO132 P) :: (nat_lit 134, hO134 P) :: (nat_lit 135, hO135 P) :: (nat_lit 136, hO136 P) :: (nat_lit 138, hO138 P) :: (nat_lit 139, hO139 P) :: (nat_lit 141, hO141 P) :: (nat_lit 142, hO142 P) :: (nat_lit 143, hO143 P) :: (nat_lit 145, hO145 P) :: (nat_lit 146, hO146 P) :: (nat_lit 148, hO148 P) :: (nat_lit 149, hO149 P) :: (nat_lit 157, hO157 P) :: (nat_lit 159, hO159 P) :: (nat_lit 160, hO160 P) :: (nat_lit 162, hO162 P) :: (nat_lit 163, hO163 P) :: (nat_lit 164, hO164 P) :: (nat_lit 166, hO166 P) :: (nat_lit 167, hO167 P) :: (nat_lit 169, hO169 P) :: (nat_lit 170, hO170 P) :: (nat_lit 171, hO171 P) :: (nat_lit 173, hO173 P) :: (nat_lit 174, hO174 P) :: (nat_lit 176, hO176 P) :: (nat_lit 177, hO177 P) :: (nat_lit 178, hO178 P) :: (nat_lit 180, hO180 P) :: (nat_lit 181, hO181 P) :: (nat_lit 183, hO183 P) :: (nat_lit 184, hO184 P) :: (nat_lit 185, hO185 P) :: (nat_lit 187, hO187 P) :: (nat_lit 188, hO188 P) :: (nat_lit 190, hO190 P) :: (nat_lit 191, hO191 P) :: (nat_lit 192, hO192 P) :: (nat_lit 194, hO194 P) :: (nat_lit 195, hO195 P) :: (nat_lit 197, hO197 P) :: (nat_lit 198, hO198 P) :: (nat_lit 199, hO199 P) :: (nat_lit 200, hO200 P) :: (nat_lit 201, hO201 P) :: (nat_lit 202, hO202 P) :: (nat_lit 203, hO203 P) :: (nat_lit 206, hO206 P) :: (nat_lit 208, hO208 P) :: (nat_lit 209, hO209 P) :: (nat_lit 211, hO211 P) :: (nat_lit 212, hO212 P) :: (nat_lit 213, hO213 P) :: (nat_lit 215, hO215 P) :: (nat_lit 216, hO216 P) :: (nat_lit 218, hO218 P) :: (nat_lit 219, hO219 P) :: (nat_lit 220, hO220 P) :: (nat_lit 223, hO223 P) :: (nat_lit 224, hO224 P) :: (nat_lit 225, hO225 P) :: (nat_lit 228, hO228 P) :: (nat_lit 229, hO229 P) :: (nat_lit 230, hO230 P) :: (nat_lit 232, hO232 P) :: (nat_lit 233, hO233 P) :: (nat_lit 235, hO235 P) :: (nat_lit 236, hO236 P) :: (nat_lit 237, hO237 P) :: (nat_lit 239, hO239 P) :: (nat_lit 240, hO240 P) :: (nat_lit 242, hO242 P) :: (nat_lit 243, hO243 P) :: (nat_lit 244, hO244 P) :: (nat_lit 246, hO246 P) :: (nat_lit 247, hO247 P) :: (nat_lit 249, hO249 P) :: (nat_lit 250, hO250 P) :: (nat_lit 251, hO251 P) :: (nat_lit 253, hO253 P) :: (nat_lit 254, hO254 P) :: (nat_lit 256, hO256 P) :: (nat_lit 257, hO257 P) :: (nat_lit 258, hO258 P) :: (nat_lit 260, hO260 P) :: (nat_lit 261, hO261 P) :: (nat_lit 263, hO263 P) :: (nat_lit 264, hO264 P) :: (nat_lit 265, hO265 P) :: (nat_lit 267, hO267 P) :: (nat_lit 268, hO268 P) :: (nat_lit 270, hO270 P) :: (nat_lit 271, hO271 P) :: (nat_lit 272, hO272 P) :: (nat_lit 274, hO274 P) :: (nat_lit 275, hO275 P) :: (nat_lit 277, hO277 P) :: (nat_lit 278, hO278 P) :: (nat_lit 279, hO279 P) :: (nat_lit 281, hO281 P) :: (nat_lit 282, hO282 P) :: (nat_lit 284, hO284 P) :: (nat_lit 285, hO285 P) :: (nat_lit 286, hO286 P) :: (nat_lit 289, hO289 P) :: (nat_lit 290, hO290 P) :: (nat_lit 291, hO291 P) :: (nat_lit 293, hO293 P) :: (nat_lit 294, hO294 P) :: (nat_lit 296, hO296 P) :: (nat_lit 297, hO297 P) :: (nat_lit 298, hO298 P) :: (nat_lit 300, hO300 P) :: (nat_lit 301, hO301 P) :: (nat_lit 303, hO303 P) :: (nat_lit 304, hO304 P) :: (nat_lit 305, hO305 P) :: (nat_lit 308, hO308 P) :: (nat_lit 309, hO309 P) :: (nat_lit 310, hO310 P) :: (nat_lit 312, hO312 P) :: (nat_lit 313, hO313 P) :: (nat_lit 315, hO315 P) :: (nat_lit 316, hO316 P) :: []
def hAs : List Addr := [2, 3, 15, 17, 18, 20, 21, 22, 29, 31, 32, 34, 35, 36, 38, 39, 41, 42, 43, 44, 45, 46, 49, 56, 58, 59, 61, 62, 63, 64, 65, 68, 70, 71, 73, 74, 75, 77, 78, 80, 81, 82, 85, 86, 87, 89, 90, 92, 93, 94, 96, 97, 99, 100, 101, 103, 104, 106, 107, 108, 110, 111, 113, 114, 115, 117, 118, 120, 121, 122, 124, 125, 127, 128, 129, 131, 132, 134, 135, 136, 138, 139, 141, 142, 143, 145, 146, 148, 149, 157, 159, 160, 162, 163, 164, 166, 167, 169, 170, 171, 173, 174, 176, 177, 178, 180, 181, 183, 184, 185, 187, 188, 190, 191, 192, 194, 195, 197, 198, 199, 200, 201, 202, 203, 206, 208, 209, 211, 212, 213, 215, 216, 218, 219, 220, 223, 224, 225, 228, 229, 230, 232, 233, 235, 236, 237, 239, 240, 242, 243, 244, 246, 247, 249, 250, 251, 253, 254, 256, 257, 258, 260, 261, 263, 264, 265, 267, 268, 270, 271, 272, 274, 275, 277, 278, 279, 281, 282, 284, 285, 286, 289, 290, 291, 293, 294, 296, 297, 298, 300, 301, 303, 304, 305, 308, 309, 310, 312, 313, 315, 316]
theorem hAs_is (P : Params) : hAs = (hK P).map (·.1) := rfl
def hQ : Program := { PySem.Challenge.pw_stillheap_k34_whole_deeds_in_memory with main := { (PySem.Challenge.pw_stillheap_k34_whole_deeds_in_memory).main with body := [top 0, top 2, top 3, top 5, top 7, top 8, top 9, top 10, top 11, top 12, top 13, top 14, top 15, top 16, top 17, top 19, top 21, top 22, top 23, top 24, top 25, top 26, top 27, top 28, top 29, top 30, top 31, top 32, top 33, top 34, top 35, top 36, top 37] } }
def hLo : List Str := []
theorem hOpen (w : World) : (fencedOpening treeTable PySem.Challenge.pw_stillheap_k34_whole_deeds_in_memory w 3808).map (fun s => (s.heap, s.gens, s.drawn, s.toks)) = some (boot_heap w.params, #[], boot_drawn, boot_toks) := by kernel_rfl
theorem hSize (w : World) : ((boot_heap w.params).isNs mainGlobals && (#[] : Array GenState).size == 0, (boot_heap w.params).objs.size, (boot_heap w.params).nsMap mainGlobals "__annotations__") = (true, 11, ((.some (.ref 6)) : Option Value)) := by kernel_rfl
abbrev hXt (s : Shared) : Bool := xlAt hQ [] s && recOk (RowW.records (OpenRow.toRowW (OpenLaw.row PySem.Challenge.rw_stillheap_k34_whole_deeds_in_memory))) s
theorem hLooks (w : World) : (fun os : OsState => ((staticsOk (importedModules (PySem.Challenge.pw_stillheap_k34_whole_deeds_in_memory).main.body) (boot_heap w.params) (absHeap (hTf w.params) 317 ⟨[], [], [], 0, [], [], false, (List.toArray []), [], 0, false, false, false, 0, [2000, 10, 10], false, 0, true, [], [], 0, false⟩) && namesBound PySem.Challenge.pw_stillheap_k34_whole_deeds_in_memory (absHeap (hTf w.params) 317 ⟨[], [], [], 0, [], [], false, (List.toArray []), [], 0, false, false, false, 0, [2000, 10, 10], false, 0, true, [], [], 0, false⟩) && gensDone ⟨absHeap (hTf w.params) 317 ⟨[], [], [], 0, [], [], false, (List.toArray []), [], 0, false, false, false, 0, [2000, 10, 10], false, 0, true, [], [], 0, false⟩, #[], ⟨0, 0, 0, 0⟩, 595, os⟩ && laidKept (boot_heap w.params) (absHeap (hTf w.params) 317 ⟨[], [], [], 0, [], [], false, (List.toArray []), [], 0, false, false, false, 0, [2000, 10, 10], false, 0, true, [], [], 0, false⟩)),
    openSeen hQ hLo (importedModules (PySem.Challenge.pw_stillheap_k34_whole_deeds_in_memory).main.body) hXt true ⟨absHeap (hTf w.params) 317 ⟨[], [], [], 0, [], [], false, (List.toArray []), [], 0, false, false, false, 0, [2000, 10, 10], false, 0, true, [], [], 0, false⟩, #[], ⟨0, 0, 0, 0⟩, 595, os⟩, Hook.obs (kHook hK hAs hAs_is) ⟨absHeap (hTf w.params) 317 ⟨[], [], [], 0, [], [], false, (List.toArray []), [], 0, false, false, false, 0, [2000, 10, 10], false, 0, true, [], [], 0, false⟩, #[], ⟨0, 0, 0, 0⟩, 595, os⟩)) = fun _ => (true, openGood hQ hLo, Hook.val (kHook hK hAs hAs_is) w) := by kernel_rfl
theorem hLeft : LeftO PySem.Challenge.pw_stillheap_k34_whole_deeds_in_memory hQ hLo hXt (Hook.obs (kHook hK hAs hAs_is)) (Hook.val (kHook hK hAs hAs_is)) 3808 :=
  LeftO.of_pieces (H₁ := fun P => absHeap (hTf P) 317 ⟨[], [], [], 0, [], [], false, (List.toArray []), [], 0, false, false, false, 0, [2000, 10, 10], false, 0, true, [], [], 0, false⟩) hOpen hSize hRun (by rfl) hLooks
end
end K34
open PySem PySem.W PyProof.Rows
set_option maxRecDepth 100000 in
set_option maxHeartbeats 0 in
theorem PySem.Challenge.cw_stillheap_k34_whole_deeds_in_memory_holds : PySem.Challenge.rw_stillheap_k34_whole_deeds_in_memory.Holds := by
  w_on; o_law
  refine holds_open (q := K34.hQ) (loose := K34.hLo) (Xt := fun s => xlAt K34.hQ [] s && recOk (RowW.records (OpenRow.toRowW (OpenLaw.row PySem.Challenge.rw_stillheap_k34_whole_deeds_in_memory))) s)
    (XP := XL K34.hQ []) (Yf := Hook.obs (kHook K34.hK K34.hAs K34.hAs_is)) (Ya := Hook.val (kHook K34.hK K34.hAs K34.hAs_is)) (YP := Hook.says (kHook K34.hK K34.hAs K34.hAs_is)) (N := 3808)
    ?hl (Hook.of (kHook K34.hK K34.hAs K34.hAs_is)) (Hook.keeps (kHook K34.hK K34.hAs K34.hAs_is))
    (fun s e => xl_of s (Bool.and_eq_true_iff.mp e).1) XL.keeps (by rfl) (by rfl) (by rfl)
    (fun s e => recFacts_of (Bool.and_eq_true_iff.mp e).2) (by rfl) (by first | assumption | decide +kernel)
    (by decide +kernel) ⟨rfl, rfl, rfl, rfl, rfl, by decide +kernel⟩ ?hw ?hc
  (case hl => exact K34.hLeft)
  (case hw => w_witness2)
  k_fill
  refine K34.walk (l := PySem.Challenge.rw_stillheap_k34_whole_deeds_in_memory) rfl rfl (fun w h Y => PySem.W.kIn_of Y) ?F
  case F =>
    intro w mg fa h KX G hmg
    refine' K34.all_mk KX G hmg ?nH ?n0 ?xH ?x0 ?ga0 ?gt0 ?gc0 ?ii0 ?kc0 ?fi ?gM ?cpg ?chd ?cpo ?csa ?cna ?mmk ?mii ?mfn ?mkp ?t3 ?u3 ?t4 ?u4 ?t5 ?u5 ?t6 ?u6 ?t7 ?u7 ?l1 ?c1 ?k1 ?l2 ?c2 ?k2 ?l3 ?c3 ?k3 ?l4 ?c4 ?k4 ?l5 ?c5 ?k5 ?l6 ?c6 ?k6 ?l7 ?c7 ?k7 ?a8 ?l8 ?c8 ?k8 ?a9 ?l9 ?c9 ?k9 ?a10 ?l10 ?c10 ?k10 ?a11 ?l11 ?c11 ?k11 ?a12 ?l12 ?c12 ?k12 ?a13 ?l13 ?c13 ?k13 ?a14 ?l14 ?c14 ?k14 ?a15 ?l15 ?c15 ?k15 ?a16 ?l16 ?c16 ?k16 ?a17 ?l17 ?c17 ?k17 ?a18 ?l18 ?c18 ?k18 ?a19 ?l19 ?c19 ?k19 ?a20 ?l20 ?c20 ?k20 ?a21 ?l21 ?c21 ?k21 ?a22 ?l22 ?c22 ?k22 ?a23 ?l23 ?c23 ?k23 ?a24 ?l24 ?c24 ?k24 ?a25 ?l25 ?c25 ?k25 ?a26 ?l26 ?c26 ?k26 ?a27 ?l27 ?c27 ?k27 ?a28 ?l28 ?c28 ?k28 ?a29 ?l29 ?c29 ?k29 ?a30 ?l30 ?c30 ?k30 ?a31 ?l31 ?c31 ?k31 ?a32 ?l32 ?c32 ?k32 ?a33 ?l33 ?c33 ?k33 ?a34 ?l34 ?c34 ?k34 ?a35 ?l35 ?c35 ?k35 ?a36 ?l36 ?c36 ?k36 ?z_ValueError ?z_isinstance ?z_len ?z_list ?z_all ?z_range ?z_enumerate ?z_int ?z_str ?z_bool ?z_min ?z_max ?z_tuple ?fv0 ?sb0
    (case nH => k_is)
    (case n0 => k_is)
    (case xH => kernel_rfl)
    (case x0 => kernel_rfl)
    (case ga0 => k_is)
    (case gt0 => k_is)
    (case gc0 => k_is)
    (case ii0 => k_is)
    (case kc0 => k_is)
    (case fi => k_is)
    (case gM => k_is)
    (case cpg => k_is)
    (case chd => k_is)
    (case cpo => k_is)
    (case csa => k_is)
    (case cna => k_is)
    (case mmk => k_is)
    (case mii => k_is)
    (case mfn => k_is)
    (case mkp => k_is)
    (case t3 => k_is)
    (case u3 => k_is)
    (case t4 => k_is)
    (case u4 => k_is)
    (case t5 => k_is)
    (case u5 => k_is)
    (case t6 => k_is)
    (case u6 => k_is)
    (case t7 => k_is)
    (case u7 => k_is)
    (case l1 => k_is)
    (case c1 => k_is)
    (case k1 => k_is)
    (case l2 => k_is)
    (case c2 => k_is)
    (case k2 => k_is)
    (case l3 => k_is)
    (case c3 => k_is)
    (case k3 => k_is)
    (case l4 => k_is)
    (case c4 => k_is)
    (case k4 => k_is)
    (case l5 => k_is)
    (case c5 => k_is)
    (case k5 => k_is)
    (case l6 => k_is)
    (case c6 => k_is)
    (case k6 => k_is)
    (case l7 => k_is)
    (case c7 => k_is)
    (case k7 => k_is)
    (case a8 => k_is)
    (case l8 => k_is)
    (case c8 => k_is)
    (case k8 => k_is)
    (case a9 => k_is)
    (case l9 => k_is)
    (case c9 => k_is)
    (case k9 => k_is)
    (case a10 => k_is)
    (case l10 => k_is)
    (case c10 => k_is)
    (case k10 => k_is)
    (case a11 => k_is)
    (case l11 => k_is)
    (case c11 => k_is)
    (case k11 => k_is)
    (case a12 => k_is)
    (case l12 => k_is)
    (case c12 => k_is)
    (case k12 => k_is)
    (case a13 => k_is)
    (case l13 => k_is)
    (case c13 => k_is)
    (case k13 => k_is)
    (case a14 => k_is)
    (case l14 => k_is)
    (case c14 => k_is)
    (case k14 => k_is)
    (case a15 => k_is)
    (case l15 => k_is)
    (case c15 => k_is)
    (case k15 => k_is)
    (case a16 => k_is)
    (case l16 => k_is)
    (case c16 => k_is)
    (case k16 => k_is)
    (case a17 => k_is)
    (case l17 => k_is)
    (case c17 => k_is)
    (case k17 => k_is)
    (case a18 => k_is)
    (case l18 => k_is)
    (case c18 => k_is)
    (case k18 => k_is)
    (case a19 => k_is)
    (case l19 => k_is)
    (case c19 => k_is)
    (case k19 => k_is)
    (case a20 => k_is)
    (case l20 => k_is)
    (case c20 => k_is)
    (case k20 => k_is)
    (case a21 => k_is)
    (case l21 => k_is)
    (case c21 => k_is)
    (case k21 => k_is)
    (case a22 => k_is)
    (case l22 => k_is)
    (case c22 => k_is)
    (case k22 => k_is)
    (case a23 => k_is)
    (case l23 => k_is)
    (case c23 => k_is)
    (case k23 => k_is)
    (case a24 => k_is)
    (case l24 => k_is)
    (case c24 => k_is)
    (case k24 => k_is)
    (case a25 => k_is)
    (case l25 => k_is)
    (case c25 => k_is)
    (case k25 => k_is)
    (case a26 => k_is)
    (case l26 => k_is)
    (case c26 => k_is)
    (case k26 => k_is)
    (case a27 => k_is)
    (case l27 => k_is)
    (case c27 => k_is)
    (case k27 => k_is)
    (case a28 => k_is)
    (case l28 => k_is)
    (case c28 => k_is)
    (case k28 => k_is)
    (case a29 => k_is)
    (case l29 => k_is)
    (case c29 => k_is)
    (case k29 => k_is)
    (case a30 => k_is)
    (case l30 => k_is)
    (case c30 => k_is)
    (case k30 => k_is)
    (case a31 => k_is)
    (case l31 => k_is)
    (case c31 => k_is)
    (case k31 => k_is)
    (case a32 => k_is)
    (case l32 => k_is)
    (case c32 => k_is)
    (case k32 => k_is)
    (case a33 => k_is)
    (case l33 => k_is)
    (case c33 => k_is)
    (case k33 => k_is)
    (case a34 => k_is)
    (case l34 => k_is)
    (case c34 => k_is)
    (case k34 => k_is)
    (case a35 => k_is)
    (case l35 => k_is)
    (case c35 => k_is)
    (case k35 => k_is)
    (case a36 => k_is)
    (case l36 => k_is)
    (case c36 => k_is)
    (case k36 => k_is)
    (case z_ValueError => k_is)
    (case z_isinstance => k_is)
    (case z_len => k_is)
    (case z_list => k_is)
    (case z_all => k_is)
    (case z_range => k_is)
    (case z_enumerate => k_is)
    (case z_int => k_is)
    (case z_str => k_is)
    (case z_bool => k_is)
    (case z_min => k_is)
    (case z_max => k_is)
    (case z_tuple => k_is)
    (case fv0 => kernel_rfl)
    (case sb0 => k_is)
#print axioms PySem.Challenge.cw_stillheap_k34_whole_deeds_in_memory_holds
end
