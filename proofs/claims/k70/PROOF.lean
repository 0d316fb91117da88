import PyProof.Rows.All
import Wide.All
import OpenK.AllK
import Wide.FinOn
import PyProof.EqAt
import PyProof.EqKinds
import PyProof.TupleCall
import OpenK.KCls
import PyProof.ExcClass2
import PyProof.ExcBaseAll.ValueError
import PyProof.ExcArgs
import PyProof.Rows.Exc
import KE.KIsAll
import PyProof.StationsW
import PyProof.EnumFor
import PyProof.EnumStmt
import PyProof.EnumMake
import PyProof.NeKinds
import PyProof.Rows.SumAny
import KE.KDictSum
import PyProof.Rows.SortWalk
import PyProof.Rows.Range3
import PyProof.Rows.SetFrom
import KE.KEqDict
import PyProof.Rows.DictUnroll
import KE.KRevSl
import PyProof.AutoListH
import PyProof.AttrMiss
import KE.KRevIter
import PySem.Challenge.RW_stillheap_k70_round_papers
section
set_option Elab.async false
set_option linter.all false
set_option maxRecDepth 100000
/-! THE HAND LAYER, for ints, bools, texts, own classes, LISTS and tuples (index, slices, in, append, pop ..), calls, loops. Paste it whole ahead of your own text; what your proof does not reach may be deleted. -/
namespace L2
open PySem PySem.Spec PyProof.Rows

/-- a key: an int or a str -/
abbrev Key := Sum Int Str
def keyIs : Key → Value → Bool
  | .inl k, v => Value.isInt k v
  | .inr x, v => Value.isStrOf x v
def keyH (w : World) : Key → Int
  | .inl k => hashInt k
  | .inr x => hashStr w x
theorem keyIs_shape : ∀ {k : Key} {v : Value}, keyIs k v = true → (∃ i t, k = Sum.inl i ∧ v = Value.int i t) ∨ (∃ x t, k = Sum.inr x ∧ v = Value.str x t)
  | .inl i, v, h => by
    obtain ⟨t, e⟩ := Value.isInt_shape (k := i) (v := v) h
    exact .inl ⟨i, t, rfl, e⟩
  | .inr x, v, h => by
    obtain ⟨t, e⟩ := Value.isStrOf_shape (x := x) (v := v) h
    exact .inr ⟨x, t, rfl, e⟩
theorem keyIs_int (i : Int) (t : Tok) : keyIs (.inl i) (.int i t) = true := by simp [keyIs, Value.isInt]
theorem keyIs_str (x : Str) (t : Tok) : keyIs (.inr x) (.str x t) = true := by simp [keyIs, Value.isStrOf]
theorem key_ll (a b : Int) : decide ((Sum.inl a : Key) = Sum.inl b) = (a == b) := by
  by_cases e : a = b
  · subst e; simp
  · have h : ¬ (Sum.inl a : Key) = Sum.inl b := fun q => e (Sum.inl.inj q)
    rw [decide_eq_false h]
    exact (beq_eq_false_iff_ne.mpr e).symm
theorem key_rr (a b : Str) : decide ((Sum.inr a : Key) = Sum.inr b) = decide (a = b) := by
  by_cases e : a = b
  · subst e; simp
  · have h : ¬ (Sum.inr a : Key) = Sum.inr b := fun q => e (Sum.inr.inj q)
    rw [decide_eq_false h, decide_eq_false e]
theorem key_lr (a : Int) (b : Str) : decide ((Sum.inl a : Key) = Sum.inr b) = false := decide_eq_false (fun q => nomatch q)
theorem key_rl (a : Str) (b : Int) : decide ((Sum.inr a : Key) = Sum.inl b) = false := decide_eq_false (fun q => nomatch q)

def mixKind (prog : Program) (w : World) : PySem.KeyKind prog w Key where
  is := keyIs
  hash := keyH w
  inj := fun v a b ha hb => by
    rcases keyIs_shape ha with ⟨i, t, rfl, rfl⟩ | ⟨x, t, rfl, rfl⟩
    · rcases keyIs_shape hb with ⟨j, u, rfl, e⟩ | ⟨y, u, rfl, e⟩
      · injection e with e1 _; rw [e1]
      · exact nomatch e
    · rcases keyIs_shape hb with ⟨j, u, rfl, e⟩ | ⟨y, u, rfl, e⟩
      · exact nomatch e
      · injection e with e1 _; rw [e1]
  byValue := fun k v h => by
    rcases keyIs_shape h with ⟨i, t, rfl, rfl⟩ | ⟨x, t, rfl, rfl⟩ <;> rfl
  pyHash := fun hv h => by
    rcases keyIs_shape hv with ⟨i, t, rfl, rfl⟩ | ⟨x, t, rfl, rfl⟩
    · exact wpAny_pyHash_int h
    · exact wpAny_pyHash_str h
  eqBool := fun hu hv h => by
    rcases keyIs_shape hu with ⟨i, t, rfl, rfl⟩ | ⟨x, t, rfl, rfl⟩
    · rcases keyIs_shape hv with ⟨j, u, rfl, rfl⟩ | ⟨y, u, rfl, rfl⟩
      · rw [key_ll] at h; exact wpAny_eqBool_int h
      · rw [key_lr] at h; exact SeqAt.EqAt.int_str i t y u _ _ _ _ h
    · rcases keyIs_shape hv with ⟨j, u, rfl, rfl⟩ | ⟨y, u, rfl, rfl⟩
      · rw [key_rl] at h; exact SeqAt.EqAt.str_int x t j u _ _ _ _ h
      · rw [key_rr] at h; exact wpAny_eqBool_str h
  «strs» := fun k x t v h => by
    rcases keyIs_shape h with ⟨i, u, rfl, e⟩ | ⟨y, u, rfl, e⟩
    · exact nomatch e
    · injection e with e1 _
      subst e1
      cases v <;> rfl

theorem mixKind_int (prog : Program) (w : World) (i : Int) (t : Tok) : (mixKind prog w).is (.inl i) (.int i t) = true := keyIs_int i t
theorem mixKind_str (prog : Program) (w : World) (x : Str) (t : Tok) : (mixKind prog w).is (.inr x) (.str x t) = true := keyIs_str x t
end L2

namespace L2
open PySem PySem.Spec PyProof.Rows

/-- a value, without the heap -/
inductive V where
  | non | bl (b : Bool) | int (i : Int) | str (x : Str) | byt (b : Array UInt8) | flt (b : UInt64) | ref (a : Addr) | ty (n : String)
  deriving DecidableEq

def RelV : V → Value → Prop
  | .non, u => u = Value.none
  | .bl b, u => u = Value.bool b
  | .int i, u => ∃ t, u = Value.int i t
  | .str x, u => ∃ t, u = Value.str x t
  | .byt b, u => ∃ t, u = Value.bytes b t
  | .flt b, u => ∃ t, u = Value.float b t
  | .ref a, u => u = Value.ref a
  | .ty n, u => u = Value.type n

abbrev Vals : List V → List Value → Prop := Paired RelV
theorem Vals.length {xs : List V} {us : List Value} (r : Vals xs us) : xs.length = us.length := Paired.length r
theorem Vals.get : ∀ {xs : List V} {us : List Value} {i : Nat} {x : V}, Vals xs us → xs[i]? = some x → ∃ u, us[i]? = some u ∧ RelV x u
  | _, _, _, _, .nil, e => by simp at e
  | _, _, 0, _, .cons r _, e => by simp at e; subst e; exact ⟨_, rfl, r⟩
  | _, _, i + 1, x, .cons _ t, e => by
    obtain ⟨u, h1, h2⟩ := Vals.get (i := i) (x := x) t (by simpa using e)
    exact ⟨u, by simpa using h1, h2⟩
theorem Vals.append : ∀ {xs ys : List V} {us ws : List Value}, Vals xs us → Vals ys ws → Vals (xs ++ ys) (us ++ ws)
  | _, _, _, _, .nil, s => s
  | _, _, _, _, .cons r t, s => .cons r (Vals.append t s)
theorem Vals.take : ∀ {xs : List V} {us : List Value} (n : Nat), Vals xs us → Vals (xs.take n) (us.take n)
  | _, _, 0, _ => .nil
  | _, _, _ + 1, .nil => .nil
  | _, _, n + 1, .cons r t => .cons r (Vals.take n t)
theorem Vals.drop : ∀ {xs : List V} {us : List Value} (n : Nat), Vals xs us → Vals (xs.drop n) (us.drop n)
  | _, _, 0, r => r
  | _, _, _ + 1, .nil => .nil
  | _, _, n + 1, .cons _ t => Vals.drop n t

def RelO : Option V → Option Value → Prop
  | some v, some u => RelV v u
  | none, none => True
  | _, _ => False
def KV {κ : Type} : List (κ × V) → List (κ × Value) → Prop := Paired fun (p : κ × V) (q : κ × Value) => p.1 = q.1 ∧ RelV p.2 q.2

/-- a key of a dict (00_mix): an int or a text -/
def kV : Key → V
  | .inl i => .int i
  | .inr x => .str x

/-- what stands at a tracked address -/
inductive HO where
  /-- a list -/
  | lst (xs : List V)
  /-- a tuple (never changes) -/
  | tup (xs : List V)
  /-- a dict whose keys are ints and texts; one whose keys are tuples of ints and texts (the empty one is both) -/
  | dK (kvs : List (Key × V)) | dT (kvs : List (List Key × V))
  /-- a set of ints: its members, its size -/
  | set (S : Int → Bool) (n : Nat)
  /-- an instance of the class at C, its dict at dx, its attributes -/
  | ins (C dx : Addr) (fs : List (Str × V))
  /-- the dict of the instance at x -/
  | own (x : Addr)
  /-- the dict of an exception -/
  | xd (fs : List (Str × V))
  /-- a bound method, f of x -/
  | met (f x : Addr)
  /-- a range object lo, lo + 1, .. below hi -/
  | rng (lo hi : Int)
  /-- a thing that is known to the object (the script; a dict while a loop walks it): read, never written while it is so -/
  | frz (o : Obj) (u : HO)
  /-- a code object's table -/
  | tbl (ps : Array Value)
  /-- any other thing, by what is true of its one object (a def of one's own: SetO a S n := HO.ext fun h => ..) -/
  | ext (φ : Heap → Prop)

abbrev Hp := Addr → Option HO
def upd (H : Hp) (a : Addr) (o : HO) : Hp := fun b => if b = a then some o else H b
theorem upd_same {H : Hp} {a : Addr} {o : HO} : upd H a o a = some o := by unfold upd; rw [if_pos rfl]
theorem upd_ne {H : Hp} {a b : Addr} {o : HO} (h : b ≠ a) : upd H a o b = H b := by unfold upd; rw [if_neg h]
/-- two objects of different content stand apart -/
theorem ne_of {H : Hp} {a b : Addr} {o u : HO} (h : H a = some o) (h' : H b = some u) (d : o ≠ u) : a ≠ b := by
  intro e; subst e; rw [h] at h'; exact d (Option.some.inj h')
theorem ne_of_none {H : Hp} {a b : Addr} {o : HO} (h : H a = some o) (h' : H b = none) : a ≠ b := by
  intro e; subst e; rw [h] at h'; cases h'

section
variable (P : Program) (w : World)
def ObjOk (H : Hp) (h : Heap) (a : Addr) : HO → Prop
  | .lst xs => xs.length ≤ sizeLine ∧ ∃ (its : List Value) (n : Nat), Vals xs its ∧ h.get? a = some { cls := .type "list", data := .seq its.toArray n }
  | .tup xs => xs.length ≤ sizeLine ∧ ∃ its : List Value, Vals xs its ∧ IsTup h a its.toArray
  | .dK kvs => kvs.length ≤ sizeLine ∧ (a == sysModules) = false ∧ ∃ vs, KV kvs vs ∧ h.DictOf (mixKind P w) a vs
  | .dT kvs => kvs.length ≤ sizeLine ∧ (a == sysModules) = false ∧ ∃ xs : List (List Key × Addr × Value),
      Paired (fun (p : List Key × V) (q : List Key × Addr × Value) => p.1 = q.1 ∧ H q.2.1 = some (.tup (p.1.map kV)) ∧ RelV p.2 q.2.2) kvs xs ∧
      ∃ o es ep, h.get? a = some o ∧ o.ExactDict ∧ o.data = .dict es ep ∧ es.toList = xs.map (entryOfKey (tupleKind (mixKind P w))) ∧ (xs.map (·.1)).Nodup
  | .set S n => h.SetOf (intKind P w) a S n
  | .ins C dx fs => H dx = some (.own a) ∧ fs.length ≤ 1000 ∧ dx ≠ a ∧ h.get? a = some (PySem.W.instObj C dx) ∧
      ∃ mA, h.Ns1 dx mA ∧ (∀ f, RelO (fs.lookup f) (mA f)) ∧ PySem.Within mA (fs.map (·.1))
  | .own _ => ∃ o, h.get? a = some o
  | .xd fs => ∃ mA, h.Ns1 a mA ∧ ∀ f, RelO (fs.lookup f) (mA f)
  | .rng lo hi => ∃ t u v, h.get? a = some { cls := .type "range", data := .fields #[.int lo t, .int hi u, .int 1 v] }
  | .frz o u => h.get? a = some o ∧ ObjOk H h a u
  | .tbl ps => h.get? a = some { cls := .none, data := .fields ps }
  | .met f x => h.get? a = some (PySem.W.methodObj (.ref f) (.ref x))
  | .ext φ => φ h ∧ (∃ o, h.get? a = some o) ∧ ∀ h1 h2 : Heap, φ h1 → (∀ o, h1.get? a = some o → h2.get? a = some o) → φ h2
/-- the abstract heap is held -/
def HOk (H : Hp) (h : Heap) : Prop := ∀ a o, H a = some o → ObjOk P w H h a o
end

section
variable {P : Program} {w : World} {H H' : Hp} {h h' : Heap} {a : Addr} {o : HO}
theorem ObjOk.lt (x : ObjOk P w H h a o) : a < h.objs.size := by
  cases o with
  | lst xs => obtain ⟨_, _, _, _, e⟩ := x; exact Heap.lt_size e
  | tup xs => obtain ⟨_, _, _, p⟩ := x; exact p.lt
  | dK kvs => obtain ⟨_, _, _, _, o, _, _, e, _⟩ := x; exact Heap.lt_size e
  | dT kvs => obtain ⟨_, _, _, _, o, _, _, e, _⟩ := x; exact Heap.lt_size e
  | set S n => obtain ⟨o, _, _, _, e, _⟩ := x; exact Heap.lt_size e
  | ins C dx fs => obtain ⟨_, _, _, e, _⟩ := x; exact Heap.lt_size e
  | own y => obtain ⟨_, e⟩ := x; exact Heap.lt_size e
  | xd fs => obtain ⟨_, ⟨_, _, _, e, _⟩, _⟩ := x; exact Heap.lt_size e
  | rng lo hi => obtain ⟨_, _, _, e⟩ := x; exact Heap.lt_size e
  | frz ob u => obtain ⟨e, _⟩ := x; exact Heap.lt_size e
  | tbl ps => exact Heap.lt_size (show h.get? a = some _ from x)
  | met f y => exact Heap.lt_size (show h.get? a = some _ from x)
  | ext φ => obtain ⟨_, ⟨_, e⟩, _⟩ := x; exact Heap.lt_size e
theorem Paired.mapP {α β : Type} {F G : α → β → Prop} : ∀ {l₁ : List α} {l₂ : List β}, Paired F l₁ l₂ → (∀ a b, F a b → G a b) → Paired G l₁ l₂
  | _, _, .nil, _ => .nil
  | _, _, .cons r t, f => .cons (f _ _ r) (Paired.mapP t f)
/-- what an object's description leans on: its own object, its own dict, the tuples -/
theorem ObjOk.stay (x : ObjOk P w H h a o) (k : ∀ b u, (b = a ∨ H b = some (.own a)) → h.get? b = some u → h'.get? b = some u)
    (ho : ∀ b, H b = some (.own a) → H' b = some (.own a)) (ht : ∀ b xs, H b = some (.tup xs) → H' b = some (.tup xs)) : ObjOk P w H' h' a o := by
  induction o with
  | lst xs => obtain ⟨z, its, n, r, e⟩ := x; exact ⟨z, its, n, r, k _ _ (.inl rfl) e⟩
  | tup xs => obtain ⟨z, its, r, ob, e, c⟩ := x; exact ⟨z, its, r, ob, k _ _ (.inl rfl) e, c⟩
  | dK kvs => obtain ⟨z, y, vs, r, ob, es, ep, e, c⟩ := x; exact ⟨z, y, vs, r, ob, es, ep, k _ _ (.inl rfl) e, c⟩
  | dT kvs =>
    obtain ⟨z, y, xs, r, ob, es, ep, e, c⟩ := x
    exact ⟨z, y, xs, Paired.mapP r fun p q z => ⟨z.1, ht _ _ z.2.1, z.2.2⟩, ob, es, ep, k _ _ (.inl rfl) e, c⟩
  | set S n => obtain ⟨ob, es, ep, t, e, c⟩ := x; exact ⟨ob, es, ep, t, k _ _ (.inl rfl) e, c⟩
  | ins C dx fs =>
    obtain ⟨d, z, ne, e, mA, ⟨od, es, ep, e2, c⟩, r⟩ := x
    exact ⟨ho _ d, z, ne, k _ _ (.inl rfl) e, mA, ⟨od, es, ep, k _ _ (.inr d) e2, c⟩, r⟩
  | own y => obtain ⟨ob, e⟩ := x; exact ⟨ob, k _ _ (.inl rfl) e⟩
  | xd fs => obtain ⟨mA, ⟨od, es, ep, e, c⟩, r⟩ := x; exact ⟨mA, ⟨od, es, ep, k _ _ (.inl rfl) e, c⟩, r⟩
  | rng lo hi => obtain ⟨t, u, v, e⟩ := x; exact ⟨t, u, v, k _ _ (.inl rfl) e⟩
  | frz ob u ih => obtain ⟨e, q⟩ := x; exact ⟨k _ _ (.inl rfl) e, ih q⟩
  | tbl ps =>
    have e : h.get? a = some { cls := .none, data := .fields ps } := x
    show h'.get? a = some { cls := .none, data := .fields ps }
    exact k a _ (.inl rfl) e
  | met f y =>
    have e : h.get? a = some (PySem.W.methodObj (.ref f) (.ref y)) := x
    show h'.get? a = some (PySem.W.methodObj (.ref f) (.ref y))
    exact k a _ (.inl rfl) e
  | ext φ => obtain ⟨p, ⟨o, e⟩, st⟩ := x; exact ⟨st _ _ p fun o q => k _ _ (.inl rfl) q, ⟨o, k _ _ (.inl rfl) e⟩, st⟩
theorem HOk.lt (x : HOk P w H h) (e : H a = some o) : a < h.objs.size := (x a o e).lt
theorem HOk.fresh (x : HOk P w H h) (e : h.objs.size ≤ a) : H a = none := by
  cases q : H a with
  | none => rfl
  | some u => exact absurd (Nat.lt_of_lt_of_le (x.lt q) e) (Nat.lt_irrefl _)
/-- every object of the heap is kept -/
theorem HOk.kept (x : HOk P w H h) (k : ∀ b u, h.get? b = some u → h'.get? b = some u) : HOk P w H h' := fun a o e =>
  (x a o e).stay (fun b u _ q => k b u q) (fun _ q => q) fun _ _ q => q
/-- a new object is laid and tracked -/
theorem HOk.laid (x : HOk P w H h) (k : ∀ b u, h.get? b = some u → h'.get? b = some u) (hp : h.objs.size ≤ a) (new : ObjOk P w (upd H a o) h' a o) : HOk P w (upd H a o) h' := fun b u e => by
  have hn := x.fresh hp
  by_cases hb : b = a
  · subst hb; rw [upd_same] at e; cases e; exact new
  · rw [upd_ne hb] at e
    exact (x b u e).stay (fun c v _ q => k c v q) (fun c q => by rw [upd_ne (ne_of_none q hn)]; exact q) fun c xs q => by rw [upd_ne (ne_of_none q hn)]; exact q
end

/-- what may be read as u: it is u, or a known u -/
def Rd (H : Hp) (a : Addr) (u : HO) : Prop := H a = some u ∨ ∃ o, H a = some (.frz o u)
theorem Rd.ok {P : Program} {w : World} {H : Hp} {h : Heap} {a : Addr} {u : HO} (r : Rd H a u) (x : HOk P w H h) : ObjOk P w H h a u := by
  rcases r with r | ⟨o, r⟩
  · exact x a u r
  · obtain ⟨_, q⟩ := x a _ r
    exact q
/-- what may be written -/
def Mut : Option HO → Prop
  | some (.lst _) => True
  | some (.dK _) => True
  | some (.dT _) => True
  | some (.set _ _) => True
  | some (.ins _ _ _) => True
  | some (.ext _) => True
  | _ => False
section
variable {P : Program} {w : World} {H : Hp} {h h' : Heap} {x e : Addr} {o' : HO}
/-- the object at e is changed: x itself, or the dict of the instance x -/
theorem HOk.write (ok : HOk P w H h) (mu : Mut (H x)) (he : e = x ∨ H e = some (.own x)) (k : ∀ b u, b ≠ e → h.get? b = some u → h'.get? b = some u) (heo : ∃ u, h'.get? e = some u)
    (new : ObjOk P w (upd H x o') h' x o') : HOk P w (upd H x o') h' := fun b u q => by
  have nown : ∀ c y, H c = some (.own y) → c ≠ x := fun c y r z => by subst z; rw [r] at mu; exact mu
  have ntup : ∀ c xs, H c = some (.tup xs) → c ≠ x := fun c xs r z => by subst z; rw [r] at mu; exact mu
  by_cases hb : b = x
  · subst hb; rw [upd_same] at q; cases q; exact new
  · rw [upd_ne hb] at q
    by_cases hbe : b = e
    · have q' : H b = some (.own x) := by
        rcases he with z | z
        · exact absurd (hbe.trans z) hb
        · rw [hbe]; exact z
      rw [q] at q'; cases q'
      obtain ⟨v, hv⟩ := heo
      exact ⟨v, by rw [hbe]; exact hv⟩
    · refine (ok b u q).stay (fun c v hc r => k c v ?_ r) (fun c r => by rw [upd_ne (nown c b r)]; exact r) fun c xs r => by rw [upd_ne (ntup c xs r)]; exact r
      rcases hc with rfl | hc
      · exact hbe
      · rintro rfl
        rcases he with z | z
        · exact nown c b hc z
        · rw [hc] at z; cases z; exact hb rfl
end

/-! ### kept unless tracked; of the frames at fs (the callers') the slots may change (an exception that passes writes there); of the records at ex (iterators) nothing is said -/
structure Un (fs ex : List Addr) (H H' : Hp) (h h' : Heap) : Prop where
  keep : ∀ b o, h.get? b = some o → H b = none → b ∉ fs → b ∉ ex → h'.get? b = some o
  slot : ∀ b o, h.get? b = some o → H b = none → b ∈ fs → b ∉ ex → ∃ sl, h'.get? b = some { o with slots := sl }
  free : ∀ b o, h.get? b = some o → H b = none → b ∉ ex → H' b = none
  there : ∀ b o, h.get? b = some o → b ∉ ex → ∃ o', h'.get? b = some o'
  tups : ∀ b xs, H b = some (.tup xs) → H' b = some (.tup xs)
  frzs : ∀ b o u, H b = some (.frz o u) → H' b = some (.frz o u)
  tbls : ∀ b ps, H b = some (.tbl ps) → ∃ more, H' b = some (.tbl (ps ++ more))
section
variable {fs fs' ex ex' : List Addr} {H H1 H2 : Hp} {h h1 h2 h' : Heap} {a x e : Addr} {o : HO}
theorem Un.any (u : Un fs ex H H1 h h1) {b : Addr} {ob : Obj} (q : h.get? b = some ob) (n : H b = none) (hx : b ∉ ex) : ∃ sl, h1.get? b = some { ob with slots := sl } := by
  by_cases hb : b ∈ fs
  · exact u.slot b ob q n hb hx
  · exact ⟨ob.slots, u.keep b ob q n hb hx⟩
theorem Un.kept (k : ∀ b u, h.get? b = some u → h'.get? b = some u) : Un fs ex H H h h' :=
  ⟨fun b ob q _ _ _ => k b ob q, fun b ob q _ _ _ => ⟨ob.slots, k b ob q⟩, fun _ _ _ n _ => n, fun b ob q _ => ⟨ob, k b ob q⟩, fun _ _ q => q, fun _ _ _ q => q, fun _ ps q => ⟨#[], by rw [q]; simp⟩⟩
theorem Un.refl : Un fs ex H H h h := Un.kept fun _ _ q => q
theorem Un.laid (k : ∀ b u, h.get? b = some u → h'.get? b = some u) (hp : h.objs.size ≤ a) (hn : H a = none) : Un fs ex H (upd H a o) h h' where
  keep := fun b u q _ _ _ => k b u q
  slot := fun b u q _ _ _ => ⟨u.slots, k b u q⟩
  free := fun b u q n _ => by rw [upd_ne (Nat.ne_of_lt (Nat.lt_of_lt_of_le (Heap.lt_size q) hp))]; exact n
  there := fun b u q _ => ⟨u, k b u q⟩
  tups := fun b xs q => by rw [upd_ne (ne_of_none q hn)]; exact q
  frzs := fun b u xs q => by rw [upd_ne (ne_of_none q hn)]; exact q
  tbls := fun b ps q => ⟨#[], by rw [upd_ne (ne_of_none q hn), q]; simp⟩
theorem Un.write (mu : Mut (H x)) (he : e = x ∨ H e = some (.own x)) (k : ∀ b u, b ≠ e → h.get? b = some u → h'.get? b = some u) (heo : ∃ u, h'.get? e = some u) : Un fs ex H (upd H x o) h h' := by
  have hx : ∀ b, H b = none → b ≠ x := fun b n z => by subst z; rw [n] at mu; exact mu
  have hb : ∀ b, H b = none → b ≠ e := fun b n z => by
    subst z
    rcases he with r | r
    · exact hx b n r
    · rw [n] at r; cases r
  have hm : ∀ b u, H b = some u → ¬ Mut (some u) → b ≠ x := fun b u q nm z => by subst z; rw [q] at mu; exact nm mu
  refine ⟨fun b u q n _ _ => k b u (hb b n) q, fun b u q n _ _ => ⟨u.slots, k b u (hb b n) q⟩, fun b u q n _ => by rw [upd_ne (hx b n)]; exact n, fun b u q _ => ?_,
    fun b xs q => by rw [upd_ne (hm b _ q fun z => z)]; exact q, fun b u xs q => by rw [upd_ne (hm b _ q fun z => z)]; exact q, fun b ps q => ⟨#[], by rw [upd_ne (hm b _ q fun z => z), q]; simp⟩⟩
  by_cases hbe : b = e
  · subst hbe; exact heo
  · exact ⟨u, k b u hbe q⟩
end

/-! ### the heap without what is tracked -/
def trk (h : Heap) (H : Hp) : List Addr := (List.range h.objs.size).filter fun a => (H a).isSome
def hidT (h : Heap) (H : Hp) : Heap := PySem.W.hideAll h (trk h H)
theorem hidT_size (h : Heap) (H : Hp) : (hidT h H).objs.size = h.objs.size := PySem.W.hideAll_size _ _
theorem hidT_get {h : Heap} {H : Hp} {b : Addr} {o : Obj} (e : h.get? b = some o) (n : H b = none) : (hidT h H).get? b = some o :=
  PySem.W.hideAll_get _ e fun hm => by
    have q : (H b).isSome = true := (List.mem_filter.mp hm).2
    rw [n] at q; simp at q
theorem of_hidT {h : Heap} {H : Hp} {b : Addr} {o : Obj} (e : (hidT h H).get? b = some o) : h.get? b = some o ∧ H b = none := by
  have e' : h.get? b = some o := PySem.W.of_hideAll (trk h H) e
  refine ⟨e', ?_⟩
  cases q : H b with
  | none => rfl
  | some x =>
    have hm : b ∈ trk h H := List.mem_filter.mpr ⟨List.mem_range.mpr (Heap.lt_size e'), by simp [q]⟩
    have z : (hidT h H).get? b = none := PySem.W.hideAll_none (trk h H) hm
    rw [z] at e; cases e

/-! ### OpenK's ledger, filled with every new object but one -/
end L2

namespace L2
open PySem PySem.Spec PyProof.Rows

/-- the module's facts, over the base: the heap at the law's entry without what is tracked there -/
structure Mod (K : PySem.W.Frag) (mg : Str → Option Value) (base : Heap) : Prop where
  kin : K.In base
  glob : base.Ns mainGlobals mg
  blt : ∃ mb, base.Ns builtinsNs mb ∧ ∀ x : Str, x ≠ "__name__" → mb x = bootBuiltins x
  nolimit : base.NoLimit

/-- the context: a def's body (or a comprehension's block) running. base: fixed through the whole law; s₀, H₀: the entry; outer: the frames whose slots others may change (a def's callers); stack: all frames that run;
   ex: iterators that were made ahead of the entry and are walked here (a comprehension's); fn: the names whose cells were made at the entry (a def: all; a comprehension's block: its own); calm: not within an except suite; pn: pins that every state bears; xe: what is wanted of an exception that leaves the code -/
structure Cx where
  prog : Program
  w : World
  K : PySem.W.Frag
  mg : Str → Option Value
  base : Heap
  A : Around
  N : List Str
  s₀ : Shared
  H₀ : Hp
  env : Env
  outer : List Env
  stack : List Env
  ex : List Addr
  fn : Str → Bool
  calm : Bool
  pn : List (Addr × Obj)
  xe : Value → Shared → Prop
/-- the callers' frames -/
def frs (l : List Env) : List Addr := l.filterMap (·.frame)
abbrev Cx.fs (X : Cx) : List Addr := frs X.outer

def Vis (sc : Scope) (x : Str) : Prop := sc.names.lookup x = some .local ∨ sc.names.lookup x = some .cell ∨ sc.names.lookup x = some .free
def Loc (sc : Scope) (x : Str) : Prop := sc.names.lookup x = some .local ∨ sc.names.lookup x = some .cell
def Look (env : Env) (h : Heap) (m : Str → Option Value) (x : Str) (u : Value) : Prop :=
  (env.kindOf x = some .local ∧ m x = some u) ∨ ((env.kindOf x = some .cell ∨ env.kindOf x = some .free) ∧ ∃ c, env.cells.lookup x = some c ∧ h.IsCell c (some u))

structure Cx.Ok (X : Cx) : Prop where
  mod : Mod X.K X.mg X.base
  kind : X.env.scope.kind = .function
  glob : X.env.globals = mainGlobals
  blt : X.env.builtins = builtinsNs
  above : X.s₀.heap.objs.size ≤ X.env.locals
  inj : ∀ x y c, X.env.cells.lookup x = some c → X.env.cells.lookup y = some c → x = y
  has : ∀ x, (X.env.kindOf x = some .cell ∨ X.env.kindOf x = some .free) → ∃ c, X.env.cells.lookup x = some c
  cab : ∀ x c, X.fn x = true → X.env.cells.lookup x = some c → X.s₀.heap.objs.size ≤ c
  hd : X.calm = true → X.A.handled = none
  frames : X.A.frames = some X.stack
  stk : X.stack = X.outer ∨ (X.stack = X.env :: X.outer ∧ X.env.frame = some X.env.locals)
  exf : ∀ b ∈ X.ex, b ≠ X.env.locals ∧ ∀ x c, X.env.cells.lookup x = some c → c ≠ b
  bs : ∀ b o, X.base.get? b = some o → X.s₀.heap.get? b = some o ∧ X.H₀ b = none
  bsz : X.base.objs.size ≤ X.s₀.heap.objs.size
  noex : ∀ b o, X.base.get? b = some o → b ∉ X.ex
  exfs : ∀ b ∈ X.ex, b ∉ X.fs
  funs : X.s₀.heap.FunFrames X.base X.outer
  frf : ∀ b ∈ X.fs, X.H₀ b = none

structure Inv (X : Cx) (pins : List (Addr × Obj)) (σ : List (Option V)) (H : Hp) (s : Shared) : Prop where
  ok : X.Ok
  os : s.os = X.s₀.os
  bare : AllBare s.gens
  base : Un X.fs X.ex X.H₀ H X.s₀.heap s.heap
  loc : ∃ m, s.heap.Ns X.env.locals m ∧ ∀ (i : Nat) (x : Str) (v : V), X.N[i]? = some x → σ[i]? = some (some v) → Vis X.env.scope x → ∃ u, RelV v u ∧ Look X.env s.heap m x u
  cell : ∀ x c, X.env.cells.lookup x = some c → ∃ v, s.heap.IsCell c v
  free : H X.env.locals = none
  freeC : ∀ x c, X.env.cells.lookup x = some c → H c = none
  pin : ∀ p ∈ X.pn ++ pins, s.heap.get? p.1 = some p.2 ∧ H p.1 = none ∧ p.1 ≠ X.env.locals ∧ p.1 ∉ X.fs ∧ ∀ v, p.2.data ≠ .cell v
  hok : HOk X.prog X.w H s.heap
  len : σ.length = X.N.length

section
variable {X : Cx} {pins : List (Addr × Obj)} {σ : List (Option V)} {H H' : Hp} {s : Shared} {h' : Heap}

theorem Cx.Ok.nofr (ok : X.Ok) {b : Addr} {o : Obj} (e : X.base.get? b = some o) : b ∉ X.fs := fun hb => by
  have := (ok.funs.mem hb).1
  rw [e] at this; cases this
theorem Inv.bs (I : Inv X pins σ H s) : ∀ b o, X.base.get? b = some o → s.heap.get? b = some o ∧ H b = none := fun b o e =>
  ⟨I.base.keep b o (I.ok.bs b o e).1 (I.ok.bs b o e).2 (I.ok.nofr e) (I.ok.noex b o e), I.base.free b o (I.ok.bs b o e).1 (I.ok.bs b o e).2 (I.ok.noex b o e)⟩
theorem Inv.bk (I : Inv X pins σ H s) : ∀ b o, X.base.get? b = some o → s.heap.get? b = some o := fun b o e => (I.bs b o e).1
theorem Inv.mod (I : Inv X pins σ H s) : Mod X.K X.mg X.base := I.ok.mod
theorem Inv.kIn (I : Inv X pins σ H s) : X.K.In s.heap := I.ok.mod.kin.keeps I.bk
theorem Inv.lt (I : Inv X pins σ H s) : X.env.locals < s.heap.objs.size := let ⟨_, hn, _⟩ := I.loc; hn.lt
theorem Inv.sz (I : Inv X pins σ H s) : X.s₀.heap.objs.size ≤ s.heap.objs.size := Nat.le_trans I.ok.above (Nat.le_of_lt I.lt)
theorem Inv.nofs (I : Inv X pins σ H s) {a : Addr} (h : s.heap.objs.size ≤ a) : a ∉ X.fs := fun hb => by
  obtain ⟨_, o, ho, _⟩ := I.ok.funs.mem hb
  exact absurd (Nat.lt_of_lt_of_le (Heap.lt_size ho) (Nat.le_trans I.sz h)) (Nat.lt_irrefl _)
theorem Inv.cne (I : Inv X pins σ H s) : ∀ x c, X.env.cells.lookup x = some c → c ≠ X.env.locals := fun x c e z => by
  obtain ⟨v, o, ho, hd⟩ := I.cell x c e
  obtain ⟨m, ⟨o', es, ep, ho', hd', _⟩, _⟩ := I.loc
  rw [z, ho'] at ho; cases ho; rw [hd'] at hd; cases hd
theorem Inv.funs (I : Inv X pins σ H s) : s.heap.FunFrames X.base X.outer := by
  have all : ∀ (l : List Env), (∀ b ∈ frs l, b ∈ X.fs) → X.s₀.heap.FunFrames X.base l → s.heap.FunFrames X.base l := by
    intro l
    induction l with
    | nil => intro _ _; trivial
    | cons env r ih =>
      intro hs hl
      obtain ⟨hk, ⟨L, o, hf, hn, ho, hd⟩, hr⟩ := hl
      have hL : L ∈ X.fs := hs L (by unfold frs; rw [List.filterMap_cons, hf]; exact List.mem_cons_self)
      obtain ⟨sl, e⟩ := I.base.slot L o ho (I.ok.frf L hL) hL fun z => I.ok.exfs L z hL
      exact ⟨hk, ⟨L, _, hf, hn, e, hd⟩, ih (fun b hb => hs b (by unfold frs; rw [List.filterMap_cons, hf]; exact List.mem_cons_of_mem _ hb)) hr⟩
  exact all X.outer (fun _ hb => hb) I.ok.funs

/-- the frames that run, for a call -/
theorem Inv.stack (I : Inv X pins σ H s) : s.heap.FunFrames X.base X.stack := by
  rcases I.ok.stk with e | ⟨e, hf⟩
  · rw [e]; exact I.funs
  · rw [e]
    obtain ⟨m, hn, _⟩ := I.loc
    refine .cons (by rw [I.ok.kind]; decide) hf hn ?_ I.funs
    exact Heap.get?_none_of_le (Nat.le_trans I.ok.bsz I.ok.above)
theorem Inv.stkSub (I : Inv X pins σ H s) : ∀ b ∈ frs X.stack, b ∈ X.env.locals :: X.fs := fun b hb => by
  rcases I.ok.stk with e | ⟨e, hf⟩
  · rw [e] at hb; exact List.mem_cons_of_mem _ hb
  · rw [e] at hb
    unfold frs at hb
    rw [List.filterMap_cons, hf] at hb
    exact hb
theorem Inv.stkFree (I : Inv X pins σ H s) : ∀ b ∈ frs X.stack, H b = none := fun b hb => by
  rcases List.mem_cons.mp (I.stkSub b hb) with e | hb
  · rw [e]; exact I.free
  · obtain ⟨_, o, ho, _⟩ := I.ok.funs.mem hb
    exact I.base.free b o ho (I.ok.frf b hb) fun z => I.ok.exfs b z hb

/-- THE STEP: the untracked objects but the frame and the records at ch are kept (the callers' frames up to slots), the frame's map is kept, the new abstract heap is held -/
theorem Inv.step {g' : Array GenState} {t' : Nat} {d' : Drawn} {ch : List Addr} (I : Inv X pins σ H s)
    (hch : ∀ b ∈ ch, (b ∈ X.ex ∨ X.s₀.heap.objs.size ≤ b) ∧ b ≠ X.env.locals ∧ (∀ x c, X.env.cells.lookup x = some c → c ≠ b) ∧ ∀ p ∈ X.pn ++ pins, p.1 ≠ b)
    (keep : ∀ b o, b ≠ X.env.locals → b ∉ X.fs → b ∉ ch → s.heap.get? b = some o → H b = none → h'.get? b = some o)
    (slot : ∀ b o, b ≠ X.env.locals → b ∈ X.fs → b ∉ ch → s.heap.get? b = some o → H b = none → ∃ sl, h'.get? b = some { o with slots := sl }) (free : ∀ b o, b ∉ ch → s.heap.get? b = some o → H b = none → H' b = none)
    (there : ∀ b o, b ∉ ch → s.heap.get? b = some o → ∃ o', h'.get? b = some o')
    (tups : ∀ b xs, H b = some (.tup xs) → H' b = some (.tup xs)) (frzs : ∀ b o u, H b = some (.frz o u) → H' b = some (.frz o u)) (tbls : ∀ b ps, H b = some (.tbl ps) → ∃ more, H' b = some (.tbl (ps ++ more)))
    (ns : ∀ m, s.heap.Ns X.env.locals m → h'.Ns X.env.locals m) (hok : HOk X.prog X.w H' h') (hg : AllBare g') :
    Inv X pins σ H' { s with heap := h', gens := g', drawn := d', toks := t' } := by
  have neL : ∀ b o, X.s₀.heap.get? b = some o → b ≠ X.env.locals := fun b o e => Nat.ne_of_lt (Nat.lt_of_lt_of_le (Heap.lt_size e) I.ok.above)
  have neC : ∀ b o, X.s₀.heap.get? b = some o → b ∉ X.ex → b ∉ ch := fun b o e hx hb => by
    rcases (hch b hb).1 with z | z
    · exact hx z
    · exact absurd (Nat.lt_of_lt_of_le (Heap.lt_size e) z) (Nat.lt_irrefl _)
  have cellK : ∀ x c, X.env.cells.lookup x = some c → ∀ v, s.heap.IsCell c v → h'.IsCell c v := fun x c e v ⟨o, ho, hd⟩ => by
    have nch : c ∉ ch := fun z => (hch c z).2.2.1 x c e rfl
    by_cases hc : c ∈ X.fs
    · obtain ⟨sl, q⟩ := slot c o (I.cne x c e) hc nch ho (I.freeC x c e)
      exact ⟨_, q, hd⟩
    · exact ⟨o, keep c o (I.cne x c e) hc nch ho (I.freeC x c e), hd⟩
  refine ⟨I.ok, I.os, hg, ⟨fun b o e n hb hx => ?_, fun b o e n hb hx => ?_, fun b o e n hx => ?_, fun b o e hx => ?_, fun b xs e => tups b xs (I.base.tups b xs e), fun b o xs e => frzs b o xs (I.base.frzs b o xs e), fun b ps e => ?_⟩, ?_, fun x c e => ?_, ?_, fun x c e => ?_, fun p hp => ?_, hok, I.len⟩
  · exact keep b o (neL b o e) hb (neC b o e hx) (I.base.keep b o e n hb hx) (I.base.free b o e n hx)
  · obtain ⟨sl, e1⟩ := I.base.slot b o e n hb hx
    obtain ⟨sl', e2⟩ := slot b _ (neL b o e) hb (neC b o e hx) e1 (I.base.free b o e n hx)
    exact ⟨sl', e2⟩
  · obtain ⟨o', e1⟩ := I.base.there b o e hx
    exact free b o' (neC b o e hx) e1 (I.base.free b o e n hx)
  · obtain ⟨o', e1⟩ := I.base.there b o e hx
    exact there b o' (neC b o e hx) e1
  · obtain ⟨m1, e1⟩ := I.base.tbls b ps e
    obtain ⟨m2, e2⟩ := tbls b _ e1
    exact ⟨m1 ++ m2, by rw [e2, Array.append_assoc]⟩
  · obtain ⟨m, hn, hl⟩ := I.loc
    refine ⟨m, ns m hn, fun i x v e1 e2 e3 => ?_⟩
    obtain ⟨u, r, l⟩ := hl i x v e1 e2 e3
    refine ⟨u, r, ?_⟩
    rcases l with l | ⟨k, c, e, z⟩
    · exact .inl l
    · exact .inr ⟨k, c, e, cellK x c e _ z⟩
  · obtain ⟨v, z⟩ := I.cell x c e
    exact ⟨v, cellK x c e v z⟩
  · obtain ⟨m, ⟨o, _, _, ho, _⟩, _⟩ := I.loc
    exact free _ o (fun z => (hch _ z).2.1 rfl) ho I.free
  · obtain ⟨v, o, ho, hd⟩ := I.cell x c e
    exact free c o (fun z => (hch c z).2.2.1 x c e rfl) ho (I.freeC x c e)
  · obtain ⟨e, n, ne, nf, d⟩ := I.pin p hp
    have nch : p.1 ∉ ch := fun z => (hch p.1 z).2.2.2 p hp rfl
    exact ⟨keep p.1 p.2 ne nf nch e n, free p.1 p.2 nch e n, ne, nf, d⟩
/-- .. where the frame's own object is kept too -/
theorem Inv.un {t' : Nat} (I : Inv X pins σ H s) (u : Un X.fs [] H H' s.heap h') (hok : HOk X.prog X.w H' h') : Inv X pins σ H' { s with heap := h', toks := t' } := by
  obtain ⟨m, ⟨o, es, ep, ho, r⟩, _⟩ := id I.loc
  obtain ⟨sl, hL⟩ := u.any ho I.free (by simp)
  exact I.step (g' := s.gens) (d' := s.drawn) (ch := []) (fun _ z => nomatch z) (fun b o _ hb _ e n => u.keep b o e n hb (by simp)) (fun b o _ hb _ e n => u.slot b o e n hb (by simp)) (fun b o _ e n => u.free b o e n (by simp)) (fun b o _ e => u.there b o e (by simp)) u.tups u.frzs u.tbls (fun m' hm => by
    obtain ⟨o', es', ep', ho', r'⟩ := hm
    rw [ho] at ho'; cases ho'
    exact ⟨_, es', ep', hL, r'⟩) hok I.bare
/-- behind a call (or a comprehension's block): the slots of this frame may have changed too, the records at ch may have turned -/
theorem Inv.call {g' : Array GenState} {t' : Nat} {d' : Drawn} {ch : List Addr} (I : Inv X pins σ H s) (u : Un (frs X.stack) ch H H' s.heap h') (hok : HOk X.prog X.w H' h') (hg : AllBare g')
    (hch : ∀ b ∈ ch, (b ∈ X.ex ∨ X.s₀.heap.objs.size ≤ b) ∧ b ≠ X.env.locals ∧ (∀ x c, X.env.cells.lookup x = some c → c ≠ b) ∧ ∀ p ∈ X.pn ++ pins, p.1 ≠ b) :
    Inv X pins σ H' { s with heap := h', gens := g', drawn := d', toks := t' } := by
  obtain ⟨m, ⟨o, es, ep, ho, r⟩, _⟩ := id I.loc
  obtain ⟨sl, hL⟩ := u.any ho I.free fun z => (hch _ z).2.1 rfl
  exact I.step (ch := ch) hch (fun b o hL hb hc e n => u.keep b o e n (fun z => (List.mem_cons.mp (I.stkSub b z)).elim hL hb) hc) (fun b o _ _ hc e n => u.any e n hc) (fun b o hc e n => u.free b o e n hc) (fun b o hc e => u.there b o e hc) u.tups u.frzs u.tbls (fun m' hm => by
    obtain ⟨o', es', ep', ho', r'⟩ := hm
    rw [ho] at ho'; cases ho'
    exact ⟨_, es', ep', hL, r'⟩) hok hg
/-- an untracked record of ours (an iterator) has turned -/
theorem Inv.turned {t' : Nat} {it : Addr} (I : Inv X pins σ H s) (k : ∀ b o, b ≠ it → s.heap.get? b = some o → h'.get? b = some o) (hn : H it = none) (hL : it ≠ X.env.locals)
    (h1 : it ∈ X.ex ∨ X.s₀.heap.objs.size ≤ it) (h2 : ∀ x c, X.env.cells.lookup x = some c → c ≠ it) (h3 : ∀ p ∈ X.pn ++ pins, p.1 ≠ it) : Inv X pins σ H { s with heap := h', toks := t' } := by
  have nit : ∀ b u, H b = some u → b ≠ it := fun b u e z => by rw [z, hn] at e; cases e
  refine I.step (g' := s.gens) (d' := s.drawn) (ch := [it]) (fun b hb => ?_) (fun b o _ _ hc e _ => k b o (fun z => hc (by simp [z])) e) (fun b o _ _ hc e _ => ⟨o.slots, k b o (fun z => hc (by simp [z])) e⟩) (fun _ _ _ _ n => n)
    (fun b o hc e => ⟨o, k b o (fun z => hc (by simp [z])) e⟩) (fun _ _ e => e) (fun _ _ _ e => e) (fun b ps e => ⟨#[], by rw [e]; simp⟩) (fun m hm => ?_) (fun b u e => ?_) I.bare
  · have e : b = it := by simpa using hb
    subst e
    exact ⟨h1, hL, h2, h3⟩
  · obtain ⟨o, es, ep, ho, r⟩ := hm
    exact ⟨o, es, ep, k _ o (Ne.symm hL) ho, r⟩
  · refine (I.hok b u e).stay (fun c v hc q => k c v ?_ q) (fun _ q => q) fun _ _ q => q
    rcases hc with z | z
    · rw [z]; exact nit b u e
    · exact nit c _ z
theorem Inv.tok (I : Inv X pins σ H s) (t : Nat) : Inv X pins σ H { s with toks := t } := I.un (h' := s.heap) (t' := t) Un.refl I.hok
/-- all objects kept -/
theorem Inv.kept {t' : Nat} (I : Inv X pins σ H s) (k : ∀ b u, s.heap.get? b = some u → h'.get? b = some u) : Inv X pins σ H { s with heap := h', toks := t' } := I.un (Un.kept k) (I.hok.kept k)
/-- a new object laid and tracked -/
theorem Inv.laid {a : Addr} {o : HO} {t' : Nat} (I : Inv X pins σ H s) (k : ∀ b u, s.heap.get? b = some u → h'.get? b = some u) (hp : s.heap.objs.size ≤ a) (new : ObjOk X.prog X.w (upd H a o) h' a o) :
    Inv X pins σ (upd H a o) { s with heap := h', toks := t' } := I.un (Un.laid k hp (I.hok.fresh hp)) (I.hok.laid k hp new)
/-- an object written -/
theorem Inv.write {x e : Addr} {o : HO} {t' : Nat} (I : Inv X pins σ H s) (mu : Mut (H x)) (he : e = x ∨ H e = some (.own x)) (k : ∀ b u, b ≠ e → s.heap.get? b = some u → h'.get? b = some u) (heo : ∃ u, h'.get? e = some u)
    (new : ObjOk X.prog X.w (upd H x o) h' x o) : Inv X pins σ (upd H x o) { s with heap := h', toks := t' } := I.un (Un.write mu he k heo) (I.hok.write mu he k heo new)
theorem Inv.pins_of {pins' : List (Addr × Obj)} (I : Inv X pins σ H s) (h : ∀ p ∈ pins', s.heap.get? p.1 = some p.2 ∧ H p.1 = none ∧ p.1 ≠ X.env.locals ∧ p.1 ∉ X.fs ∧ ∀ v, p.2.data ≠ .cell v) : Inv X pins' σ H s :=
  ⟨I.ok, I.os, I.bare, I.base, I.loc, I.cell, I.free, I.freeC, fun p hp => (List.mem_append.mp hp).elim (fun z => I.pin p (List.mem_append_left _ z)) (h p), I.hok, I.len⟩

theorem nodup_ix {N : List Str} (hN : N.Nodup) {i j : Nat} {x : Str} (a : N[i]? = some x) (b : N[j]? = some x) : i = j := by
  obtain ⟨h1, e1⟩ := List.getElem?_eq_some_iff.mp a
  obtain ⟨h2, e2⟩ := List.getElem?_eq_some_iff.mp b
  exact (List.getElem_inj hN).mp (e1.trans e2.symm)

/-- a name is stored; what changed -/
theorem store_ok2 {M : Model} {A : Around} {E : Value → Shared → Prop} {i : Nat} {x : Str} {v : V} {u : Value} {Q : Unit → Shared → Prop} (I : Inv X pins σ H s) (hN : X.N.Nodup) (hi : X.N[i]? = some x) (hx : Loc X.env.scope x) (r : RelV v u)
    (h : ∀ s', Inv X pins (σ.set i (some v)) H s' → (∃ a, Heap.SameBut a s.heap s'.heap ∧ (a = X.env.locals ∨ X.env.cells.lookup x = some a)) → Q () s') (hf : X.fn x = true ∨ X.env.scope.names.lookup x = some .local := by first | exact .inl rfl | exact .inr rfl | assumption) : wpAny M A (storeName X.env x u) Q E s := by
  obtain ⟨m, hn, hl⟩ := id I.loc
  have hcls : (X.env.scope.kind == .class || (X.env.scope.kind == .module && X.env.locals != X.env.globals)) = false := by rw [I.ok.kind]; rfl
  have hiσ : i < σ.length := by rw [I.len]; exact (List.getElem?_eq_some_iff.mp hi).1
  have cne := I.cne
  have tracked : ∀ {a : Addr} {h' : Heap}, (∃ o, s.heap.get? a = some o ∧ H a = none) → Heap.SameBut a s.heap h' → HOk X.prog X.w H h' := fun {a h'} ha hs b ob e => by
    obtain ⟨_, _, hfree⟩ := ha
    refine (I.hok b ob e).stay (fun c w' hc q => (hs.2 c ?_).trans q) (fun _ q => q) fun _ _ q => q
    rintro rfl
    rcases hc with rfl | hc
    · rw [hfree] at e; cases e
    · rw [hfree] at hc; cases hc
  rcases hx with hk | hk
  · refine wpAny_storeName_local hk hn (fun h' hn' hs => ?_) hcls
    obtain ⟨oL, _, _, hoL, _⟩ := id hn
    refine h _ ⟨I.ok, I.os, I.bare, ⟨fun b o e n hb hx => ?_, fun b o e n hb hx => ?_, I.base.free, fun b o e hx => ?_, I.base.tups, I.base.frzs, I.base.tbls⟩, ⟨_, hn', fun j y v' e1 e2 e3 => ?_⟩, fun y c e => ?_, I.free, I.freeC, fun p hp => ?_, tracked ⟨oL, hoL, I.free⟩ hs, by simpa using I.len⟩ ⟨_, hs, .inl rfl⟩
    · exact (hs.2 b (Nat.ne_of_lt (Nat.lt_of_lt_of_le (Heap.lt_size e) I.ok.above))).trans (I.base.keep b o e n hb hx)
    · obtain ⟨sl, e1⟩ := I.base.slot b o e n hb hx
      exact ⟨sl, (hs.2 b (Nat.ne_of_lt (Nat.lt_of_lt_of_le (Heap.lt_size e) I.ok.above))).trans e1⟩
    · obtain ⟨o', e1⟩ := I.base.there b o e hx
      exact ⟨o', (hs.2 b (Nat.ne_of_lt (Nat.lt_of_lt_of_le (Heap.lt_size e) I.ok.above))).trans e1⟩
    · by_cases hj : j = i
      · subst hj
        rw [hi] at e1; cases e1
        rw [List.getElem?_set_self hiσ] at e2
        cases e2
        exact ⟨u, r, .inl ⟨hk, by simp⟩⟩
      · rw [List.getElem?_set_ne (Ne.symm hj)] at e2
        obtain ⟨u', r', q⟩ := hl j y v' e1 e2 e3
        refine ⟨u', r', ?_⟩
        rcases q with ⟨k, e⟩ | ⟨k, c, e, z⟩
        · refine .inl ⟨k, ?_⟩
          have : y ≠ x := fun e => hj (nodup_ix hN e1 (e ▸ hi))
          simp [this, e]
        · exact .inr ⟨k, c, e, z.sameBut hs (cne y c e)⟩
    · obtain ⟨w', z⟩ := I.cell y c e
      exact ⟨w', z.sameBut hs (cne y c e)⟩
    · obtain ⟨e, n, ne, nf, d⟩ := I.pin p hp
      exact ⟨(hs.2 p.1 ne).trans e, n, ne, nf, d⟩
  · have hfn : X.fn x = true := by
      rcases hf with z | z
      · exact z
      · rw [z] at hk; cases hk
    obtain ⟨c, hc⟩ := I.ok.has x (.inl hk)
    obtain ⟨w', z⟩ := I.cell x c hc
    refine wpAny_storeName_cell I.ok.kind hk hc z (fun h' hc' hs => ?_)
    obtain ⟨oc, hoc, hocd⟩ := id z
    refine h { s with heap := h' } ⟨I.ok, I.os, I.bare, ⟨fun b o e n hb hx => ?_, fun b o e n hb hx => ?_, I.base.free, fun b o e hx => ?_, I.base.tups, I.base.frzs, I.base.tbls⟩, ⟨m, hn.sameBut hs (Ne.symm (cne x c hc)), fun j y v' e1 e2 e3 => ?_⟩, fun y c' e => ?_, I.free, I.freeC, fun p hp => ?_, tracked ⟨oc, hoc, I.freeC x c hc⟩ hs, by simpa using I.len⟩ ⟨c, hs, .inr hc⟩
    · exact (hs.2 b (Nat.ne_of_lt (Nat.lt_of_lt_of_le (Heap.lt_size e) (I.ok.cab x c hfn hc)))).trans (I.base.keep b o e n hb hx)
    · obtain ⟨sl, e1⟩ := I.base.slot b o e n hb hx
      exact ⟨sl, (hs.2 b (Nat.ne_of_lt (Nat.lt_of_lt_of_le (Heap.lt_size e) (I.ok.cab x c hfn hc)))).trans e1⟩
    · obtain ⟨o', e1⟩ := I.base.there b o e hx
      exact ⟨o', (hs.2 b (Nat.ne_of_lt (Nat.lt_of_lt_of_le (Heap.lt_size e) (I.ok.cab x c hfn hc)))).trans e1⟩
    · by_cases hj : j = i
      · subst hj
        rw [hi] at e1; cases e1
        rw [List.getElem?_set_self hiσ] at e2
        cases e2
        exact ⟨u, r, .inr ⟨.inl hk, c, hc, hc'⟩⟩
      · rw [List.getElem?_set_ne (Ne.symm hj)] at e2
        obtain ⟨u', r', q⟩ := hl j y v' e1 e2 e3
        refine ⟨u', r', ?_⟩
        rcases q with q | ⟨k, c', e, z'⟩
        · exact .inl q
        · refine .inr ⟨k, c', e, z'.sameBut hs ?_⟩
          rintro rfl
          exact hj (nodup_ix hN e1 (I.ok.inj _ _ _ e hc ▸ hi))
    · by_cases hcc : c' = c
      · subst hcc; exact ⟨_, hc'⟩
      · obtain ⟨w2, z2⟩ := I.cell y c' e
        exact ⟨w2, z2.sameBut hs hcc⟩
    · obtain ⟨e, n, ne, nf, d⟩ := I.pin p hp
      refine ⟨(hs.2 p.1 ?_).trans e, n, ne, nf, d⟩
      intro q
      rw [q, hoc] at e
      have q' : oc = p.2 := Option.some.inj e
      exact d w' (by rw [← q']; exact hocd)
theorem store_ok {M : Model} {A : Around} {E : Value → Shared → Prop} {i : Nat} {x : Str} {v : V} {u : Value} {Q : Unit → Shared → Prop} (I : Inv X pins σ H s) (hN : X.N.Nodup) (hi : X.N[i]? = some x) (hx : Loc X.env.scope x) (r : RelV v u)
    (h : ∀ s', Inv X pins (σ.set i (some v)) H s' → Q () s') (hf : X.fn x = true ∨ X.env.scope.names.lookup x = some .local := by first | exact .inl rfl | exact .inr rfl | assumption) : wpAny M A (storeName X.env x u) Q E s :=
  store_ok2 I hN hi hx r (fun s' I' _ => h s' I') hf
/-- behind a call or a block, the state as it is -/
theorem Inv.call' {s' : Shared} {ch : List Addr} (I : Inv X pins σ H s) (ho : s'.os = s.os) (u : Un (frs X.stack) ch H H' s.heap s'.heap) (hok : HOk X.prog X.w H' s'.heap) (hg : AllBare s'.gens)
    (hch : ∀ b ∈ ch, (b ∈ X.ex ∨ X.s₀.heap.objs.size ≤ b) ∧ b ≠ X.env.locals ∧ (∀ x c, X.env.cells.lookup x = some c → c ≠ b) ∧ ∀ p ∈ X.pn ++ pins, p.1 ≠ b) : Inv X pins σ H' s' := by
  obtain ⟨h', g', d', t', o'⟩ := s'
  have e : o' = s.os := ho
  subst e
  exact I.call (g' := g') (t' := t') (d' := d') u hok hg hch
end

/-! ### the judgements -/
/-- an exception: its class, its own dict's address (where it has one), the abstract heap behind it -/
abbrev XK := Value → Option Addr → Hp → Prop
abbrev St := List (Option V)
abbrev VK := V → Hp → Prop
/-- an expression's reading; a test's; an argument list's -/
abbrev TE := St → Hp → VK → Prop
abbrev TT := St → Hp → (Bool → Hp → Prop) → Prop
abbrev TA := St → Hp → (List V → Hp → Prop) → Prop
/-- what is wanted behind a statement -/
structure Ends where
  nx : St → Hp → Prop
  rt : VK
  bk : St → Hp → Prop := fun _ _ => False
  ct : St → Hp → Prop := fun _ _ => False
abbrev TS := Ends → St → Hp → Prop

def EP (X : Cx) (pins : List (Addr × Obj)) (σ : St) (Q : VK) (u : Value) (s' : Shared) : Prop := ∃ v H', Inv X pins σ H' s' ∧ RelV v u ∧ Q v H'
def TP (X : Cx) (pins : List (Addr × Obj)) (σ : St) (Q : Bool → Hp → Prop) (b : Bool) (s' : Shared) : Prop := ∃ H', Inv X pins σ H' s' ∧ Q b H'
def AP (X : Cx) (pins : List (Addr × Obj)) (σ : St) (Q : List V → Hp → Prop) (us : List Value) (s' : Shared) : Prop := ∃ vs H', Inv X pins σ H' s' ∧ Vals vs us ∧ Q vs H'
def SP (X : Cx) (pins : List (Addr × Obj)) (D : Ends) (f : Flow) (s' : Shared) : Prop :=
  match f with
  | .next => ∃ σ' H', Inv X pins σ' H' s' ∧ D.nx σ' H'
  | .brk => ∃ σ' H', Inv X pins σ' H' s' ∧ D.bk σ' H'
  | .cont => ∃ σ' H', Inv X pins σ' H' s' ∧ D.ct σ' H'
  | .ret u => ∃ v σ' H', Inv X pins σ' H' s' ∧ RelV v u ∧ D.rt v H'

def PE (X : Cx) (e : Expr) (t : TE) : Prop :=
  ∀ (pins : List (Addr × Obj)) (s : Shared) (σ : St) (H : Hp) (Q : VK), Inv X pins σ H s → t σ H Q → wpAny (model X.prog X.w) X.A (eval e X.env) (EP X pins σ Q) X.xe s
def PT (X : Cx) (e : Expr) (t : TT) : Prop :=
  ∀ (pins : List (Addr × Obj)) (s : Shared) (σ : St) (H : Hp) (Q : Bool → Hp → Prop), Inv X pins σ H s → t σ H Q → wpAny (model X.prog X.w) X.A (isTrue e X.env (eval e X.env)) (TP X pins σ Q) X.xe s
/-- a test whatever its 'whole' is (and, or) -/
def PW (X : Cx) (e : Expr) (t : TT) : Prop :=
  ∀ (whole : Sem Value) (pins : List (Addr × Obj)) (s : Shared) (σ : St) (H : Hp) (Q : Bool → Hp → Prop), Inv X pins σ H s → t σ H Q → wpAny (model X.prog X.w) X.A (isTrue e X.env whole) (TP X pins σ Q) X.xe s
theorem PW.pt {X : Cx} {e : Expr} {t : TT} (h : PW X e t) : PT X e t := h _
/-- an argument list (no star), from the left -/
def PA (X : Cx) (es : List Expr) (t : TA) : Prop :=
  ∀ (pos : Pos) (pins : List (Addr × Obj)) (s : Shared) (σ : St) (H : Hp) (Q : List V → Hp → Prop), Inv X pins σ H s → t σ H Q → wpAny (model X.prog X.w) X.A (spliced (backTo pos (starEach es X.env))) (AP X pins σ Q) X.xe s
def PS (X : Cx) (st : Stmt) (t : TS) : Prop :=
  ∀ (pins : List (Addr × Obj)) (s : Shared) (σ : St) (H : Hp) (D : Ends), Inv X pins σ H s → t D σ H → wpAny (model X.prog X.w) X.A (exec st X.env) (SP X pins D) X.xe s
def PSs (X : Cx) (st : List Stmt) (t : TS) : Prop :=
  ∀ (pins : List (Addr × Obj)) (s : Shared) (σ : St) (H : Hp) (D : Ends), Inv X pins σ H s → t D σ H → wpAny (model X.prog X.w) X.A (execs st X.env) (SP X pins D) X.xe s
/-- weaken the end -/
theorem thn {α : Type} {t : Sem α} {Q Q' : α → Shared → Prop} {M : Model} {A : Around} {E : Value → Shared → Prop} {s : Shared} (h : wpAny M A t Q E s) (hQ : ∀ a s, Q a s → Q' a s) : wpAny M A t Q' E s := wpAny_mono h hQ fun _ _ x => x
end L2

namespace L2
open PySem PySem.Spec PyProof.Rows
section
variable {X : Cx}


/-! ### names and constants -/
def tVar (i : Nat) : TE := fun σ H Q => ∃ v, σ[i]? = some (some v) ∧ Q v H
def tC (v : V) : TE := fun _ H Q => Q v H
theorem pe_var {i : Nat} {x : Str} {pos : Pos} (hN : X.N[i]? = some x) (hv : Vis X.env.scope x) (hd : (x == ("__debug__" : Str)) = false := by decide) (hcd : (x == ("__classdict__" : Str)) = false := by decide) : PE X (.Name x pos) (tVar i) := by
  intro pins s σ H Q I h
  obtain ⟨v, e, h⟩ := h
  obtain ⟨m, hn, hl⟩ := I.loc
  obtain ⟨u, r, l⟩ := hl i x v hN e hv
  have fin : EP X pins σ Q u s := ⟨v, H, I, r, h⟩
  rcases l with ⟨hk, hm⟩ | ⟨hk, c, hc, hcell⟩
  · exact wpAny_Name (wpAny_loadName_local I.ok.kind hk hn hm fin) hd
  · rcases hk with hk | hk
    · exact wpAny_Name (wpAny_loadName_cell I.ok.kind hk hc hcell fin) hd
    · exact wpAny_Name (wpAny_loadName_free I.ok.kind hk hc hcell fin hcd) hd
theorem pe_int {i j pos} : PE X (.Constant (.int i) j pos) (tC (.int i)) := fun _ _ _ H _ I h => wpAny_Constant_int ⟨.int i, H, I.tok _, ⟨_, rfl⟩, h⟩
theorem pe_bl {b j pos} : PE X (.Constant (.bool b) j pos) (tC (.bl b)) := fun _ _ _ H _ I h => Constant_bool ⟨.bl b, H, I, rfl, h⟩
theorem pe_non {j pos} : PE X (.Constant .none j pos) (tC .non) := fun _ _ _ H _ I h => Constant_none ⟨.non, H, I, rfl, h⟩

/-- a global name of the def -/
def Gl (X : Cx) (x : Str) : Prop := X.env.kindOf x = some .globalImplicit
theorem ld_glob {E : Value → Shared → Prop} {pins : List (Addr × Obj)} {s : Shared} {σ : St} {H : Hp} {x : Str} {u : Value} {pos : Pos} {Q : Value → Shared → Prop} (I : Inv X pins σ H s) (hg : Gl X x) (hm : X.mg x = some u) (h : Q u s)
    (hd : (x == ("__debug__" : Str)) = false := by decide) : wpAny (model X.prog X.w) X.A (eval (.Name x pos) X.env) Q E s :=
  Calls.Name_function_global I.ok.kind hg (Calls.loadGlobal_global (by rw [I.ok.glob]; exact I.mod.glob.keeps I.bk) hm h) hd
theorem ld_blt {E : Value → Shared → Prop} {pins : List (Addr × Obj)} {s : Shared} {σ : St} {H : Hp} {x : Str} {u : Value} {pos : Pos} {Q : Value → Shared → Prop} (I : Inv X pins σ H s) (hg : Gl X x) (hm : X.mg x = none) (hv : bootBuiltins x = some u) (h : Q u s)
    (hn : x ≠ "__name__" := by decide) (hd : (x == ("__debug__" : Str)) = false := by decide) : wpAny (model X.prog X.w) X.A (eval (.Name x pos) X.env) Q E s := by
  obtain ⟨mb, h1, h2⟩ := I.mod.blt
  exact Calls.Name_function_global I.ok.kind hg (Calls.loadGlobal_builtin (by rw [I.ok.glob]; exact I.mod.glob.keeps I.bk) hm (by rw [I.ok.blt]; exact h1.keeps I.bk) ((h2 x hn).trans hv) h) hd
/-- a module's constant, a class, a function, as a value -/
theorem pe_glob {x : Str} {v : V} {u : Value} {pos : Pos} (hg : Gl X x) (hm : X.mg x = some u) (r : RelV v u) (hd : (x == ("__debug__" : Str)) = false := by decide) : PE X (.Name x pos) (tC v) :=
  fun _ _ _ H _ I h => ld_glob I hg hm ⟨v, H, I, r, h⟩ hd

/-! ### arithmetic -/
variable {a b : Expr} {ta tb : TE} {pos : Pos}

/-! ### comparisons -/
def PC (X : Cx) (op : CmpOp) (a b : Expr) (t : TE) : Prop :=
  ∀ (pins : List (Addr × Obj)) (s : Shared) (σ : St) (H : Hp) (Q : VK), Inv X pins σ H s → t σ H Q →
    wpAny (model X.prog X.w) X.A (eval a X.env) (fun v s₁ => wpAny (model X.prog X.w) X.A (eval b X.env) (fun u s₂ => wpAny (model X.prog X.w) X.A (compareOp op v u) (EP X pins σ Q) X.xe s₂) X.xe s₁) X.xe s
/-- a comparison as a value, as a test -/
def tB (t : TE) : TT := fun σ H Q => t σ H fun x H1 => ∃ c, x = .bl c ∧ Q c H1
theorem pe_cmp {op : CmpOp} {t : TE} (h : PC X op a b t) (h1 : behindInMarks op b = false := by first | exact nobehind _ (by decide) (by decide) | rfl) : PE X (.Compare a [op] [b] pos) t := fun pins s σ H Q I hw => wpAny_Compare1 (h pins s σ H Q I hw) h1
theorem pt_cmp {op : CmpOp} {t : TE} (h : PC X op a b t) (h1 : behindInMarks op b = false := by first | exact nobehind _ (by decide) (by decide) | rfl) : PT X (.Compare a [op] [b] pos) (tB t) := by
  intro pins s σ H Q I hw
  refine wpAny_isTrue_Compare1 (thn (h pins s σ H _ I hw) fun v s1 h1 => thn h1 fun u s2 h2 => thn h2 fun c s3 ⟨x, H1, I1, r1, q1⟩ => ?_) h1
  obtain ⟨d, rfl, q⟩ := q1
  cases r1
  exact wpAny_truthy_bool ⟨H1, I1, q⟩
/-- an expression whose value is a bool, as a test -/
theorem pt_val {e : Expr} {t : TE} (h : PE X e t) (he : ∀ whole, isTrue e X.env whole = (do let v ← whole; standAt e.pos; holding [v] (truthy v)) := by intro _; rfl) : PT X e (tB t) := by
  intro pins s σ H Q I hw
  refine isTrue_plain (thn (h pins s σ H _ I hw) fun v s1 ⟨x, H1, I1, r1, q1⟩ => ?_) (he _)
  obtain ⟨d, rfl, q⟩ := q1
  cases r1
  exact wpAny_truthy_bool ⟨H1, I1, q⟩

/-! ### and, or, not -/
variable {tA tB' : TT} {rest : List Expr}
def tAnd (t u : TT) : TT := fun σ H Q => t σ H fun c H1 => if c = true then u σ H1 Q else Q false H1
def tOr (t u : TT) : TT := fun σ H Q => t σ H fun c H1 => if c = true then Q true H1 else u σ H1 Q
def tNot (t : TT) : TT := fun σ H Q => t σ H fun c H1 => Q (!c) H1
theorem pw_and1 (ha : PT X a tA) : PW X (.BoolOp .And [a] pos) tA := by
  intro wh pins s σ H Q I h
  refine isTrue_and (thn (ha pins s σ H Q I h) fun c s1 e => ?_)
  cases c with
  | true => exact isTrue_and_nil e
  | false => exact e
theorem pw_or1 (ha : PT X a tA) : PW X (.BoolOp .Or [a] pos) tA := by
  intro wh pins s σ H Q I h
  refine isTrue_or (thn (ha pins s σ H Q I h) fun c s1 e => ?_)
  cases c with
  | false => exact isTrue_or_nil e
  | true => exact e
theorem pw_and (ha : PT X a tA) (hb : PW X (.BoolOp .And (b :: rest) pos) tB') : PW X (.BoolOp .And (a :: b :: rest) pos) (tAnd tA tB') := by
  intro wh pins s σ H Q I h
  refine isTrue_and (thn (ha pins s σ H _ I h) fun c s1 ⟨H1, I1, q1⟩ => ?_)
  cases c with
  | true => exact hb wh pins s1 σ H1 Q I1 q1
  | false => exact ⟨H1, I1, q1⟩
theorem pw_or (ha : PT X a tA) (hb : PW X (.BoolOp .Or (b :: rest) pos) tB') : PW X (.BoolOp .Or (a :: b :: rest) pos) (tOr tA tB') := by
  intro wh pins s σ H Q I h
  refine isTrue_or (thn (ha pins s σ H _ I h) fun c s1 ⟨H1, I1, q1⟩ => ?_)
  cases c with
  | true => exact ⟨H1, I1, q1⟩
  | false => exact hb wh pins s1 σ H1 Q I1 q1
theorem pt_not (ha : PT X a tA) : PT X (.UnaryOp .Not a pos) (tNot tA) := by
  intro pins s σ H Q I h
  exact isTrue_not (ha pins s σ H (fun c H1 => Q (!c) H1) I h)
/-- .. as values (bools) -/
def tAndV (ta tb : TE) : TE := fun σ H Q => ta σ H fun x H1 => ∃ c, x = .bl c ∧ if c = true then tb σ H1 Q else Q (.bl false) H1
def tOrV (ta tb : TE) : TE := fun σ H Q => ta σ H fun x H1 => ∃ c, x = .bl c ∧ if c = true then Q (.bl true) H1 else tb σ H1 Q
theorem pe_one {op} {t : TE} (h : PE X a t) : PE X (.BoolOp op [a] pos) t := fun pins s σ H Q I hw => BoolOp_one (h pins s σ H Q I hw)
theorem pe_and (ha : PE X a ta) (hb : PE X (.BoolOp .And (b :: rest) pos) tb) : PE X (.BoolOp .And (a :: b :: rest) pos) (tAndV ta tb) := by
  intro pins s σ H Q I h
  refine BoolOp_and (thn (ha pins s σ H _ I h) fun v s1 ⟨x, H1, I1, r1, q1⟩ => ?_)
  obtain ⟨c, rfl, q1⟩ := q1
  cases r1
  refine wpAny_truthy_bool ?_
  cases c with
  | true => exact hb pins s1 σ H1 Q I1 q1
  | false => exact ⟨.bl false, H1, I1, rfl, q1⟩
theorem pe_or (ha : PE X a ta) (hb : PE X (.BoolOp .Or (b :: rest) pos) tb) : PE X (.BoolOp .Or (a :: b :: rest) pos) (tOrV ta tb) := by
  intro pins s σ H Q I h
  refine BoolOp_or (thn (ha pins s σ H _ I h) fun v s1 ⟨x, H1, I1, r1, q1⟩ => ?_)
  obtain ⟨c, rfl, q1⟩ := q1
  cases r1
  refine wpAny_truthy_bool ?_
  cases c with
  | false => exact hb pins s1 σ H1 Q I1 q1
  | true => exact ⟨.bl true, H1, I1, rfl, q1⟩
end
end L2

namespace L2
open PySem PySem.Spec PyProof.Rows

/-! ### a list, a tuple that is read: tracked, frozen, or an object of the module -/
def SqL (K : PySem.W.Frag) (H : Hp) (a : Addr) (xs : List V) : Prop :=
  Rd H a (.lst xs) ∨
    ∃ (o : Obj) (its : Array Value) (n : Nat), K.lookup a = some o ∧ o.cls = .type "list" ∧ o.dict = none ∧ o.data = .seq its n ∧ its.size ≤ sizeLine ∧ Vals xs its.toList
def SqT (K : PySem.W.Frag) (H : Hp) (a : Addr) (xs : List V) : Prop :=
  Rd H a (.tup xs) ∨
    ∃ (o : Obj) (its : Array Value) (n : Nat), K.lookup a = some o ∧ o.cls = .type "tuple" ∧ o.data = .seq its n ∧ its.size ≤ sizeLine ∧ Vals xs its.toList
def absV : Value → Option V
  | .none => some .non
  | .bool b => some (.bl b)
  | .int i _ => some (.int i)
  | .str x _ => some (.str x)
  | .bytes b _ => some (.byt b)
  | .float b _ => some (.flt b)
  | .ref a => some (.ref a)
  | .type n => some (.ty n)
  | _ => none
theorem RelV.abs {x : V} {u : Value} (r : RelV x u) : absV u = some x := by
  cases x with
  | non => cases r; rfl
  | bl _ => cases r; rfl
  | int _ => obtain ⟨t, rfl⟩ := r; rfl
  | str _ => obtain ⟨t, rfl⟩ := r; rfl
  | byt _ => obtain ⟨t, rfl⟩ := r; rfl
  | flt _ => obtain ⟨t, rfl⟩ := r; rfl
  | ref _ => cases r; rfl
  | ty _ => cases r; rfl
theorem RelV.inj {x y : V} {u : Value} (r : RelV x u) (q : RelV y u) : x = y := Option.some.inj (r.abs.symm.trans q.abs)
theorem Vals.inj : ∀ {xs ys : List V} {us : List Value}, Vals xs us → Vals ys us → xs = ys
  | _, _, _, .nil, .nil => rfl
  | _, _, _, .cons r t, .cons r' t' => by rw [r.inj r', Vals.inj t t']
section
variable {X : Cx} {pins : List (Addr × Obj)} {σ : St} {H : Hp} {s : Shared} {a : Addr} {xs ys : List V}
theorem SqL.of {K : PySem.W.Frag} (h : H a = some (.lst xs)) : SqL K H a xs := .inl (.inl h)
theorem SqT.of {K : PySem.W.Frag} (h : H a = some (.tup xs)) : SqT K H a xs := .inl (.inl h)
theorem Inv.list (I : Inv X pins σ H s) (h : SqL X.K H a xs) : ∃ its : List Value, Vals xs its ∧ PlainL s.heap a its.toArray ∧ xs.length ≤ sizeLine := by
  rcases h with h | ⟨o, its, n, hk, hc, hd, hs, hz, r⟩
  · obtain ⟨z, its, n, r, e⟩ := h.ok I.hok
    exact ⟨its, r, ⟨_, n, e, rfl, rfl, rfl⟩, z⟩
  · refine ⟨its.toList, r, ⟨o, n, I.kIn a o hk, hc, hd, by simpa using hs⟩, ?_⟩
    have e := r.length
    simp only [Array.length_toList] at e
    omega
theorem Inv.tuple (I : Inv X pins σ H s) (h : SqT X.K H a xs) : ∃ its : List Value, Vals xs its ∧ IsTup s.heap a its.toArray ∧ xs.length ≤ sizeLine := by
  rcases h with h | ⟨o, its, n, hk, hc, hs, hz, r⟩
  · obtain ⟨z, its, r, p⟩ := h.ok I.hok
    exact ⟨its, r, p, z⟩
  · refine ⟨its.toList, r, ⟨o, I.kIn a o hk, hc, n, by simpa using hs⟩, ?_⟩
    have e := r.length
    simp only [Array.length_toList] at e
    omega
theorem Inv.list_inj (I : Inv X pins σ H s) (h : SqL X.K H a xs) (h' : SqL X.K H a ys) : xs = ys := by
  obtain ⟨its, r, ⟨o, n, e, _, _, d⟩, _⟩ := I.list h
  obtain ⟨its', r', ⟨o', n', e', _, _, d'⟩, _⟩ := I.list h'
  rw [e] at e'; cases e'
  rw [d] at d'
  injection d' with d1 _
  have : its = its' := by simpa using congrArg Array.toList d1
  subst this
  exact r.inj r'
end

/-! ### another wish about exceptions -/
abbrev Cx.wish (X : Cx) (E : Value → Shared → Prop) : Cx := { X with xe := E }
/-- no exception leaves -/
abbrev Cx.nox (X : Cx) : Cx := X.wish fun _ _ => False
theorem Cx.Ok.wish {X : Cx} (ok : X.Ok) (E : Value → Shared → Prop) : (X.wish E).Ok :=
  ⟨ok.mod, ok.kind, ok.glob, ok.blt, ok.above, ok.inj, ok.has, ok.cab, ok.hd, ok.frames, ok.stk, ok.exf, ok.bs, ok.bsz, ok.noex, ok.exfs, ok.funs, ok.frf⟩
theorem Cx.Ok.unwish {X : Cx} {E : Value → Shared → Prop} (ok : (X.wish E).Ok) : X.Ok :=
  ⟨ok.mod, ok.kind, ok.glob, ok.blt, ok.above, ok.inj, ok.has, ok.cab, ok.hd, ok.frames, ok.stk, ok.exf, ok.bs, ok.bsz, ok.noex, ok.exfs, ok.funs, ok.frf⟩
section
variable {X : Cx} {pins : List (Addr × Obj)} {σ : St} {H : Hp} {s : Shared} {E : Value → Shared → Prop}
theorem Inv.wish (I : Inv X pins σ H s) (E : Value → Shared → Prop) : Inv (X.wish E) pins σ H s := ⟨I.ok.wish E, I.os, I.bare, I.base, I.loc, I.cell, I.free, I.freeC, I.pin, I.hok, I.len⟩
theorem Inv.unwish (I : Inv (X.wish E) pins σ H s) : Inv X pins σ H s := ⟨I.ok.unwish, I.os, I.bare, I.base, I.loc, I.cell, I.free, I.freeC, I.pin, I.hok, I.len⟩
theorem SP.unwish {D : Ends} {f : Flow} {s' : Shared} (h : SP (X.wish E) pins D f s') : SP X pins D f s' := by
  cases f with
  | next => obtain ⟨σ', H', I, q⟩ := h; exact ⟨σ', H', I.unwish, q⟩
  | brk => obtain ⟨σ', H', I, q⟩ := h; exact ⟨σ', H', I.unwish, q⟩
  | cont => obtain ⟨σ', H', I, q⟩ := h; exact ⟨σ', H', I.unwish, q⟩
  | ret u => obtain ⟨v, σ', H', I, r, q⟩ := h; exact ⟨v, σ', H', I.unwish, r, q⟩
theorem PSs.nox {st : List Stmt} {t : TS} (h : PSs X.nox st t) : PSs X st t := fun pins s σ H D I hw =>
  wpAny_mono (h pins s σ H D (I.wish _) hw) (fun _ _ q => q.unwish) fun _ _ z => False.elim z
end

/-! ### blocks and small statements -/
section
variable {X : Cx} {st : Stmt} {rest : List Stmt} {t u : TS} {e : Expr} {te : TE} {pos : Pos}
def tNext : TS := fun D σ H => D.nx σ H
def tSeq (t u : TS) : TS := fun D σ H => t { D with nx := u D } σ H
theorem pss_nil : PSs X [] tNext := fun _ _ σ H _ I h => wpAny_execs_nil ⟨σ, H, I, h⟩
theorem pss_cons (h1 : PS X st t) (h2 : PSs X rest u) : PSs X (st :: rest) (tSeq t u) := by
  intro pins s σ H D I h
  refine wpAny_execs_cons (thn (h1 pins s σ H { D with nx := u D } I h) fun f s1 q => ?_)
  cases f with
  | next =>
    obtain ⟨σ', H', I', q⟩ := q
    exact h2 pins s1 σ' H' D I' q
  | ret v => exact q
  | brk => exact q
  | cont => exact q
theorem pss_one (h1 : PS X st t) : PSs X [st] t := by
  intro pins s σ H D I h
  refine wpAny_execs_cons (thn (h1 pins s σ H D I h) fun f s1 q => ?_)
  cases f with
  | next => exact wpAny_execs_nil q
  | ret v => exact q
  | brk => exact q
  | cont => exact q
/-- in a def's body nothing is shown -/
theorem Inv.quiet {pins : List (Addr × Obj)} {σ : St} {H : Hp} {s : Shared} (I : Inv X pins σ H s) : interactive X.env = false := by simp [interactive, I.ok.kind]
/-- an expression whose value is dropped -/
def tDrop (te : TE) : TS := fun D σ H => te σ H fun _ H1 => D.nx σ H1
theorem ps_expr (he : PE X e te) (hs : swapsWith e none pos.line X.env = pure false := by rfl) : PS X (.Expr e pos) (tDrop te) := by
  intro pins s σ H D I h
  exact wpAny_Expr_any (thn (he pins s σ H _ I h) fun v s1 ⟨x, H1, I1, r1, q1⟩ => ⟨σ, H1, I1, q1⟩) I.quiet hs
def tRet (te : TE) : TS := fun D σ H => te σ H D.rt
theorem ps_ret (he : PE X e te) : PS X (.Return (some e) pos) (tRet te) := by
  intro pins s σ H D I h
  exact wpAny_Return_some (thn (he pins s σ H _ I h) fun v s1 ⟨x, H1, I1, r1, q1⟩ => ⟨x, σ, H1, I1, r1, q1⟩)
def tIfS (c : TT) (t u : TS) : TS := fun D σ H => c σ H fun b H1 => if b = true then t D σ H1 else u D σ H1
theorem ps_if {c : Expr} {a b : List Stmt} {tc : TT} (hc : PT X c tc) (ha : PSs X a t) (hb : PSs X b u) : PS X (.If c a b pos) (tIfS tc t u) := by
  intro pins s σ H D I h
  refine wpAny_If (thn (hc pins s σ H _ I h) fun d s1 ⟨H1, I1, q1⟩ => ?_)
  cases d with
  | true => exact ha pins s1 σ H1 D I1 q1
  | false => exact hb pins s1 σ H1 D I1 q1
end

/-! ### targets -/
abbrev TG := V → St → Hp → (St → Hp → Prop) → Prop
abbrev TGs := List V → St → Hp → (St → Hp → Prop) → Prop
def PG (X : Cx) (target : Expr) (t : TG) : Prop :=
  ∀ (pins : List (Addr × Obj)) (s : Shared) (σ : St) (H : Hp) (v : V) (u : Value) (Q : St → Hp → Prop), Inv X pins σ H s → RelV v u → t v σ H Q →
    wpAny (model X.prog X.w) X.A (assign target X.env u) (fun _ s' => ∃ σ' H', Inv X pins σ' H' s' ∧ Q σ' H') X.xe s
/-- several targets, one after another -/
def PGs (X : Cx) (ts : List Expr) (t : TGs) : Prop :=
  ∀ (pins : List (Addr × Obj)) (s : Shared) (σ : St) (H : Hp) (vs : List V) (us : List Value) (Q : St → Hp → Prop), Inv X pins σ H s → Vals vs us → t vs σ H Q →
    wpAny (model X.prog X.w) X.A (assignInOrder ((assignEach ts X.env).map (·.2)) us) (fun _ s' => ∃ σ' H', Inv X pins σ' H' s' ∧ Q σ' H') X.xe s
/-- a op= b, by values -/
abbrev TIp := V → V → Hp → VK → Prop
def PIp (X : Cx) (op : Operator) (t : TIp) : Prop :=
  ∀ (pins : List (Addr × Obj)) (s : Shared) (σ : St) (H : Hp) (x y : V) (v u : Value) (Q : VK), Inv X pins σ H s → RelV x v → RelV y u → t x y H Q →
    wpAny (model X.prog X.w) X.A (inplaceOp op v u) (EP X pins σ Q) X.xe s
section
variable {X : Cx} {pos : Pos}
def gName (i : Nat) : TG := fun v σ H Q => Q (σ.set i (some v)) H
theorem pg_name {i : Nat} {x : Str} (hN : X.N.Nodup) (hi : X.N[i]? = some x) (hx : Loc X.env.scope x) (hf : X.fn x = true ∨ X.env.scope.names.lookup x = some .local := by first | exact .inl rfl | exact .inr rfl | assumption) : PG X (.Name x pos) (gName i) := by
  intro pins s σ H v u Q I r h
  exact wpAny_assign_Name (store_ok I hN hi hx r (fun s' I' => ⟨_, H, I', h⟩) hf)
def gNil : TGs := fun vs σ H Q => vs = [] ∧ Q σ H
def gCons (t : TG) (u : TGs) : TGs := fun vs σ H Q => ∃ v r, vs = v :: r ∧ t v σ H fun σ' H' => u r σ' H' Q
theorem pgs_nil : PGs X [] gNil := by
  intro pins s σ H vs us Q I r h
  obtain ⟨e, h⟩ := h
  subst e
  cases r
  exact assignInOrder_nil ⟨σ, H, I, h⟩
theorem pgs_cons {e : Expr} {es : List Expr} {t : TG} {u : TGs} (h1 : PG X e t) (h2 : PGs X es u)
    (hs : (assignEach (e :: es) X.env).map (·.2) = assign e X.env :: (assignEach es X.env).map (·.2) := by rfl) : PGs X (e :: es) (gCons t u) := by
  intro pins s σ H vs us Q I r h
  obtain ⟨v, vr, e1, h⟩ := h
  subst e1
  cases r with
  | cons r rr =>
    rw [hs]
    refine assignInOrder_cons (thn (h1 pins s σ H _ _ _ I r h) fun _ s1 ⟨σ1, H1, I1, q1⟩ => ?_)
    exact h2 pins s1 σ1 H1 _ _ Q I1 rr q1
/-- (a, b, ..) = a tuple of that length -/
def gTup (K : PySem.W.Frag) (n : Nat) (t : TGs) : TG := fun v σ H Q => ∃ a xs, v = .ref a ∧ SqT K H a xs ∧ xs.length = n ∧ t xs σ H Q
theorem pg_tup {es : List Expr} {k : Nat} {t : TGs} {n : Nat} (hc : X.calm = true) (h : PGs X es t)
    (hn : (assignEach es X.env).length = n := by rfl) (hst : (assignEach es X.env).findIdx? (·.1) = none := by rfl) : PG X (.Tuple es k pos) (gTup X.K n t) := by
  intro pins s σ H v u Q I r hw
  obtain ⟨a, xs, e1, hq, hl, hw⟩ := hw
  subst e1
  cases r
  obtain ⟨its, rv, ht, hz⟩ := I.tuple hq
  refine assign_Tuple_tuple (I.ok.hd hc) ht (by simp [hn, ← hl, rv.length]) hst fun h' hx => ?_
  have I1 : Inv X pins σ H { s with heap := h' } := I.kept (t' := s.toks) fun b o e => hx b o (Nat.ne_of_lt (Heap.lt_size e)) e
  exact h pins _ σ H xs _ Q I1 (by simpa using rv) hw
/-- target = value -/
def tAsg (te : TE) (g : TG) : TS := fun D σ H => te σ H fun x H1 => g x σ H1 D.nx
theorem ps_asg {tg e : Expr} {te : TE} {g : TG} (he : PE X e te) (hg : PG X tg g) (hs : swapsWithSole [tg] e pos.line X.env = pure false := by rfl) (hw : swappedStores [tg] e X.env = pure none := by rfl)
    (h1 : (assignEach [tg] X.env).map (·.2) = [assign tg X.env] := by rfl) : PS X (.Assign [tg] e pos) (tAsg te g) := by
  intro pins s σ H D I h
  refine wpAny_Assign_stores (thn (he pins s σ H _ I h) fun v s1 ⟨x, H1, I1, r1, q1⟩ => ?_) hs hw
  rw [h1]
  exact thn (hg pins s1 σ H1 x v _ I1 r1 q1) fun _ s2 q => q
/-- name = value -/
theorem ps_set {i : Nat} {x : Str} {e : Expr} {te : TE} {pos' : Pos} (hN : X.N.Nodup) (hi : X.N[i]? = some x) (hx : Loc X.env.scope x) (he : PE X e te) (hs : swapsWith e (some (.Name x pos')) pos.line X.env = pure false := by rfl) (hf : X.fn x = true ∨ X.env.scope.names.lookup x = some .local := by first | exact .inl rfl | exact .inr rfl | assumption) :
    PS X (.Assign [.Name x pos'] e pos) (tAsg te (gName i)) := by
  intro pins s σ H D I h
  refine wpAny_Assign_Name (thn (he pins s σ H _ I h) fun v s1 ⟨y, H1, I1, r1, q1⟩ => ?_) hs
  exact store_ok I1 hN hi hx r1 (fun s2 I2 => ⟨_, H1, I2, q1⟩) hf
/-- name op= e -/
def tAug (i : Nat) (te : TE) (ti : TIp) : TS := fun D σ H => ∃ x, σ[i]? = some (some x) ∧ te σ H fun y H1 => ti x y H1 fun z H2 => D.nx (σ.set i (some z)) H2
theorem ps_aug {i : Nat} {x : Str} {e : Expr} {te : TE} {op : Operator} {ti : TIp} {pos' : Pos} (hN : X.N.Nodup) (hi : X.N[i]? = some x) (hx : Loc X.env.scope x) (he : PE X e te) (ho : PIp X op ti) (hf : X.fn x = true ∨ X.env.scope.names.lookup x = some .local := by first | exact .inl rfl | exact .inr rfl | assumption) :
    PS X (.AugAssign (.Name x pos') op e pos) (tAug i te ti) := by
  intro pins s σ H D I h
  obtain ⟨v, e1, h⟩ := h
  obtain ⟨m, hn, hl⟩ := I.loc
  have vis : Vis X.env.scope x := by rcases hx with k | k; exact .inl k; exact .inr (.inl k)
  obtain ⟨u, r, l⟩ := hl i x v hi e1 vis
  refine wpAny_AugAssign_Name ?_
  have go : wpAny (model X.prog X.w) X.A (eval e X.env) (fun w s₂ => wpAny (model X.prog X.w) X.A (inplaceOp op u w) (fun r s₃ => wpAny (model X.prog X.w) X.A (storeName X.env x r) (fun _ => SP X pins D .next) X.xe s₃) X.xe s₂) X.xe s := by
    refine thn (he pins s σ H _ I h) fun w s1 ⟨y, H1, I1, r1, q1⟩ => ?_
    refine thn (ho pins s1 σ H1 v y u w _ I1 r r1 q1) fun z s2 ⟨zv, H2, I2, r2, q2⟩ => ?_
    exact store_ok I2 hN hi hx r2 (fun s3 I3 => ⟨_, H2, I3, q2⟩) hf
  rcases l with ⟨hk, hm⟩ | ⟨hk, c, hc, hcell⟩
  · exact wpAny_loadName_local I.ok.kind hk hn hm go
  · rcases hk with hk | hk
    · exact wpAny_loadName_cell I.ok.kind hk hc hcell go
    · rcases hx with k | k
      · have : X.env.scope.names.lookup x = some .free := hk
        rw [k] at this; cases this
      · have : X.env.scope.names.lookup x = some .free := hk
        rw [k] at this; cases this
/-- ints -/
def ipI (f : Int → Int → Int) : TIp := fun x y H Q => ∃ i j, x = .int i ∧ y = .int j ∧ Q (.int (f i j)) H
theorem ip_add : PIp X .Add (ipI fun i j => i + j) := by
  intro pins s σ H x y v u Q I r1 r2 h
  obtain ⟨i, j, e1, e2, q⟩ := h
  subst e1; subst e2
  obtain ⟨t, rfl⟩ := r1
  obtain ⟨t', rfl⟩ := r2
  exact iadd_int ⟨.int _, H, I.tok _, ⟨_, rfl⟩, q⟩
end

/-! ### while -/
section
variable {X : Cx} {pos : Pos}
/-- the invariant W with its measure -/
def tWhile (c : TT) (tb : TS) : TS := fun D σ H => ∃ W : Nat → St → Hp → Prop, (∃ m, W m σ H) ∧ ∀ m σ H, W m σ H →
  c σ H fun b H1 => if b = true then ∃ N : St → Hp → Prop, (∀ σ' H', N σ' H' → ∃ m', m' < m ∧ W m' σ' H') ∧ tb { D with nx := N, ct := N, bk := D.nx } σ H1 else D.nx σ H1
theorem ps_while {c : Expr} {body : List Stmt} {tc : TT} {tb : TS} (hp : PassesOwn (model X.prog X.w) X.A X.env X.xe) (hc : PT X c tc) (hb : PSs X body tb) : PS X (.While c body [] pos) (tWhile tc tb) := by
  intro pins s σ H D I h
  obtain ⟨W, ⟨m0, w0⟩, turn⟩ := h
  refine wpAny_While (codeAny_whileLoop (fun n s' => ∃ σ' H', Inv X pins σ' H' s' ∧ W n σ' H') ?_ m0 ⟨σ, H, I, w0⟩)
  rintro n s1 ⟨σ1, H1, I1, w1⟩
  refine wpAny_passesOwn hp (thn (hc pins s1 σ1 H1 _ I1 (turn n σ1 H1 w1)) fun b s2 ⟨H2, I2, q2⟩ => ?_)
  cases b with
  | true =>
    obtain ⟨N, hN, q2⟩ := q2
    rw [if_pos rfl]
    refine wpAny_passesOwn hp (thn (hb pins s2 σ1 H2 _ I2 q2) fun f s3 q3 => ?_)
    cases f with
    | next =>
      obtain ⟨σ3, H3, I3, n3⟩ := q3
      obtain ⟨m', hm, w3⟩ := hN σ3 H3 n3
      exact ⟨m', hm, σ3, H3, I3, w3⟩
    | cont =>
      obtain ⟨σ3, H3, I3, n3⟩ := q3
      obtain ⟨m', hm, w3⟩ := hN σ3 H3 n3
      exact ⟨m', hm, σ3, H3, I3, w3⟩
    | brk => exact q3
    | ret v => exact q3
  | false =>
    rw [if_neg Bool.false_ne_true]
    exact wpAny_execs_nil ⟨σ1, H2, I2, q2⟩
end

/-! ### what a loop or a comprehension walks -/
/-- at turn i: it yields x (the heap may grow), or it stops -/
structure It where
  go : Nat → Hp → Prop
  yld : Nat → Hp → V → Hp → Prop
  stop : Nat → Hp → Prop
/-- the iterator's own objects may turn: they are not the frame's, not pinned, younger than the entry (or a comprehension's own) -/
def FpOk (X : Cx) (pins : List (Addr × Obj)) (H : Hp) (b : Addr) : Prop :=
  H b = none ∧ b ≠ X.env.locals ∧ b ∉ X.fs ∧ (b ∈ X.ex ∨ X.s₀.heap.objs.size ≤ b) ∧ (∀ x c, X.env.cells.lookup x = some c → c ≠ b) ∧ ∀ p ∈ X.pn ++ pins, p.1 ≠ b
theorem Inv.fpOk {X : Cx} {pins : List (Addr × Obj)} {σ : St} {H H' : Hp} {s : Shared} {b : Addr} (I : Inv X pins σ H s) (hb : s.heap.objs.size ≤ b) (hn : H' b = none) : FpOk X pins H' b := by
  refine ⟨hn, Nat.ne_of_gt (Nat.lt_of_lt_of_le I.lt hb), I.nofs hb, .inr (Nat.le_trans I.sz hb), fun x c e z => ?_, fun p hp z => ?_⟩
  · obtain ⟨v, q⟩ := I.cell x c e
    exact absurd (Nat.lt_of_lt_of_le q.lt (by rw [z]; exact hb)) (Nat.lt_irrefl _)
  · exact absurd (Nat.lt_of_lt_of_le (Heap.lt_size (I.pin p hp).1) (by rw [z]; exact hb)) (Nat.lt_irrefl _)
structure Turn (P : Program) (w : World) (K : PySem.W.Frag) (tg : Expr) (J : It) (fp : List Addr) (it : Addr) (tn : Nat → Heap → Prop) : Prop where
  mem : it ∈ fp
  obj : ∀ i h, tn i h → ∀ b ∈ fp, ∃ o, h.get? b = some o ∧ ∀ v, o.data ≠ .cell v
  keep : ∀ i h h', tn i h → (∀ b ∈ fp, ∀ o, h.get? b = some o → h'.get? b = some o) → tn i h'
  item : ∀ (X : Cx), X.prog = P → X.w = w → X.K = K → X.calm = true → ∀ (i : Nat) (pins : List (Addr × Obj)) (s : Shared) (σ : St) (H : Hp) (E : Value → Shared → Prop), Inv X pins σ H s → (∀ b ∈ fp, FpOk X pins H b) → tn i s.heap → J.go i H →
    wpAny (model P w) X.A (pyNext (.ref it)) (fun r s1 => ∃ u, r = some u ∧
      wpAny (model P w) X.A (letOwnedTupleGo tg (.ref it) u) (fun _ s2 => ∃ x H', Inv X pins σ H' s2 ∧ RelV x u ∧ J.yld i H x H' ∧ tn (i + 1) s2.heap ∧ ∀ b ∈ fp, H' b = none) E s1) E s
  done : ∀ (X : Cx), X.prog = P → X.w = w → X.K = K → X.calm = true → ∀ (i : Nat) (pins : List (Addr × Obj)) (s : Shared) (σ : St) (H : Hp) (E : Value → Shared → Prop), Inv X pins σ H s → (∀ b ∈ fp, FpOk X pins H b) → tn i s.heap → J.stop i H →
    wpAny (model P w) X.A (pyNext (.ref it)) (fun r s1 => r = none ∧ Inv X pins σ H s1) E s
  self : ∀ (A : Around) (i : Nat) (s : Shared) (Q : Value → Shared → Prop) (E : Value → Shared → Prop), tn i s.heap → Q (.ref it) s → wpAny (model P w) A (pyIter (.ref it)) Q E s
abbrev TI := St → Hp → (It → Hp → Prop) → Prop
/-- an iterator has come -/
def PIE (X : Cx) (pins : List (Addr × Obj)) (σ : St) (tg : Expr) (R : It → Hp → Prop) (itv : Value) (s2 : Shared) : Prop :=
  ∃ (it : Addr) (fp : List Addr) (tn : Nat → Heap → Prop) (J : It) (H' : Hp), itv = .ref it ∧ Inv X pins σ H' s2 ∧ Turn X.prog X.w X.K tg J fp it tn ∧ tn 0 s2.heap ∧ (∀ b ∈ fp, FpOk X pins H' b) ∧ R J H'
def PI (X : Cx) (tg iter : Expr) (wi : TI) : Prop :=
  ∀ (pins : List (Addr × Obj)) (s : Shared) (σ : St) (H : Hp) (R : It → Hp → Prop), Inv X pins σ H s → wi σ H R →
    wpAny (model X.prog X.w) X.A (eval iter X.env) (fun v s1 => wpAny (model X.prog X.w) X.A (pyIter v) (PIE X pins σ tg R) X.xe s1) X.xe s

/-- the step ahead of the store is nothing for an iterator that keeps no tuple -/
theorem go_of {M : Model} {A : Around} {E : Value → Shared → Prop} {s : Shared} {tg : Expr} {it : Addr} {u : Value} {o : Obj} {n : String} {vs : Array Value} {Q : Unit → Shared → Prop} (ho : s.heap.get? it = some o) (hc : o.cls = .type n) (hd : o.data = .fields vs)
    (hn : ["enumerate", "zip", "dict_itemiterator", "dict_reverseitemiterator", "odict_iterator", "itertools.zip_longest", "itertools.pairwise"].contains n = false) (hQ : Q () s) : wpAny M A (letOwnedTupleGo tg (.ref it) u) Q E s := by
  unfold letOwnedTupleGo
  cases tg <;> first
    | exact wpAny_pure hQ
    | (cases u <;> first
        | exact wpAny_pure hQ
        | (refine wpAny_bind (wpAny_load ho ?_)
           rw [hc, hd]
           show wpAny M A (if (["enumerate", "zip", "dict_itemiterator", "dict_reverseitemiterator", "odict_iterator", "itertools.zip_longest", "itertools.pairwise"].contains n && vs[0]? == some (rawInt _)) = true then _ else _) Q E s
           rw [if_neg (by intro h; rw [hn, Bool.false_and] at h; cases h)]
           exact wpAny_pure hQ))

/-- the list at a, as it stands at each turn (a loop may append to it) -/
def Itl (K : PySem.W.Frag) (a : Addr) : It :=
  ⟨fun i H => ∃ xs x, SqL K H a xs ∧ xs[i]? = some x, fun i H x H' => H' = H ∧ ∀ xs, SqL K H a xs → xs[i]? = some x, fun i H => ∃ xs, SqL K H a xs ∧ xs.length ≤ i⟩
/-- lo, lo + 1, .. (n of them) -/
def Itr (lo : Int) (n : Nat) : It := ⟨fun i _ => i < n, fun i H x H' => H' = H ∧ x = .int (lo + i), fun i _ => n ≤ i⟩
theorem turn_list {P : Program} {w : World} {K : PySem.W.Frag} {tg : Expr} (a it : Addr) : Turn P w K tg (Itl K a) [it] it (fun i h => h.IsListIter it a i) where
  mem := by simp
  obj := fun i h st b hb => by
    have e : b = it := by simpa using hb
    subst e
    obtain ⟨o, e, c, d⟩ := st
    exact ⟨o, e, fun v z => by rw [d] at z; cases z⟩
  keep := fun i h h' st k => st.at fun o e => k it (by simp) o e
  item := by
    intro X hP hw hK hc i pins s σ H E I hf st hg
    subst hP hw hK
    obtain ⟨xs, x, hq, hx⟩ := hg
    obtain ⟨its, rv, p, hz⟩ := I.list hq
    obtain ⟨u, hu, ru⟩ := rv.get hx
    obtain ⟨f0, f1, f2, f3, f4, f5⟩ := hf it (by simp)
    refine wpAny_pyNext_list_item st p.isList (x := u) (by simpa using hu) fun h' st' sb => ?_
    have I1 : Inv X pins σ H { s with heap := h' } := I.turned (t' := s.toks) (fun b o hb e => (sb.2 b hb).trans e) f0 f1 f3 f4 f5
    obtain ⟨o, e, c, d⟩ := id st'
    exact ⟨u, rfl, go_of (s := { s with heap := h' }) e c d (by decide) ⟨x, H, I1, ru, ⟨rfl, fun ys hy => by rw [I.list_inj hy hq]; exact hx⟩, st', fun b hb => (hf b hb).1⟩⟩
  done := by
    intro X hP hw hK hc i pins s σ H E I hf st hg
    subst hP hw hK
    obtain ⟨xs, hq, hx⟩ := hg
    obtain ⟨its, rv, p, hz⟩ := I.list hq
    obtain ⟨f0, f1, f2, f3, f4, f5⟩ := hf it (by simp)
    have hl := rv.length
    exact wpAny_pyNext_list_end (I.ok.hd hc) st p.isList (by simp; omega) fun h' eb => ⟨rfl, I.turned (t' := s.toks) (fun b o hb e => eb b o hb e) f0 f1 f3 f4 f5⟩
  self := fun _ _ _ _ _ st h => wpAny_pyIter_listiter st h
theorem turn_range {P : Program} {w : World} {K : PySem.W.Frag} {tg : Expr} (it : Addr) (lo : Int) (n : Nat) : Turn P w K tg (Itr lo n) [it] it (fun i h => IsRangeIter h it (lo + (i : Nat) * 1) ((n : Int) - (i : Nat)) 1) where
  mem := by simp
  obj := fun i h st b hb => by
    have e : b = it := by simpa using hb
    subst e
    exact ⟨_, st, fun v z => by
      have z' : Data.fields _ = Data.cell v := z
      cases z'⟩
  keep := fun i h h' st k => k it (by simp) _ st
  item := by
    intro X hP hw hK hc i pins s σ H E I hf st hg
    subst hP hw hK
    obtain ⟨f0, f1, f2, f3, f4, f5⟩ := hf it (by simp)
    have W := Walks.range (prog := X.prog) (w := X.w) (I.ok.hd hc) it lo 1 n
    refine W.item i s _ _ hg st fun v h' tk hv st' kk => ?_
    obtain ⟨t, rfl⟩ := hv
    have I1 : Inv X pins σ H { s with heap := h', toks := tk } := I.turned (fun b o hb e => kk b o (by simpa using hb) e) f0 f1 f3 f4 f5
    refine ⟨_, rfl, go_of (s := { s with heap := h', toks := tk }) (n := "range_iterator") st' rfl rfl (by decide) ⟨.int (lo + i), H, I1, ⟨t, ?_⟩, ⟨rfl, rfl⟩, st', fun b hb => (hf b hb).1⟩⟩
    rw [Int.mul_one]
  done := by
    intro X hP hw hK hc i pins s σ H E I hf st hg
    subst hP hw hK
    obtain ⟨f0, f1, f2, f3, f4, f5⟩ := hf it (by simp)
    exact wpAny_pyNext_range_end (I.ok.hd hc) st (by have : n ≤ i := hg; omega) fun h' eb => ⟨rfl, I.turned (t' := s.toks) (fun b o hb e => eb b o hb e) f0 f1 f3 f4 f5⟩
  self := fun _ _ _ _ _ st h => wpAny_pyIter_rangeiter st h
end L2

namespace L2
open PySem PySem.Spec PyProof.Rows
section
variable {X : Cx} {tg : Expr}
def iList (K : PySem.W.Frag) (tl : TE) : TI := fun σ H R => tl σ H fun x H1 => ∃ a, x = .ref a ∧ (∃ xs, SqL K H1 a xs) ∧ R (Itl K a) H1
theorem pi_list {l : Expr} {tl : TE} (hl : PE X l tl) : PI X tg l (iList X.K tl) := by
  intro pins s σ H R I h
  refine thn (hl pins s σ H _ I h) fun v s1 ⟨x, H1, I1, r1, q1⟩ => ?_
  obtain ⟨a, e, ⟨xs, hq⟩, q⟩ := q1
  subst e
  cases r1
  obtain ⟨its, rv, p, hz⟩ := I1.list hq
  refine wpAny_pyIter_list p.isList ?_
  refine ⟨s1.heap.objs.size, [s1.heap.objs.size], _, _, H1, rfl, I1.kept (t' := s1.toks) fun b o e => Heap.get?_push_of_some _ e, turn_list a _, ⟨_, Heap.get?_push_size _ rfl, rfl, rfl⟩, fun b hb => ?_, q⟩
  have e : b = s1.heap.objs.size := by simpa using hb
  subst e
  exact I1.fpOk (Nat.le_refl _) (I1.hok.fresh (Nat.le_refl _))
/-- a range object just made, walked -/
theorem range_it {pins : List (Addr × Obj)} {σ : St} {H : Hp} {s : Shared} {R : It → Hp → Prop} {E : Value → Shared → Prop} {lo hi : Int} {t u v : Tok} {tk : Nat} (I : Inv X pins σ H s) (h1 : -(2 ^ 62) ≤ lo) (h2 : lo < 2 ^ 62) (h3 : -(2 ^ 62) ≤ hi) (h4 : hi < 2 ^ 62)
    (q : R (Itr lo (hi - lo).toNat) H) : wpAny (model X.prog X.w) X.A (pyIter (.ref s.heap.objs.size)) (PIE X pins σ tg R) E { s with heap := s.heap.push { cls := .type "range", data := .fields #[.int lo t, .int hi u, .int 1 v] }, toks := tk } := by
  refine wpAny_pyIter_range (IsRange.new ..) (small_one h1 h2 h3 h4) ?_
  have I1 : Inv X pins σ H { s with heap := s.heap.push { cls := .type "range", data := .fields #[.int lo t, .int hi u, .int 1 v] }, toks := tk } := I.kept fun b o e => Heap.get?_push_of_some _ e
  refine ⟨(s.heap.push { cls := .type "range", data := .fields #[.int lo t, .int hi u, .int 1 v] }).objs.size, [(s.heap.push { cls := .type "range", data := .fields #[.int lo t, .int hi u, .int 1 v] }).objs.size], _, _, H, rfl,
    I1.kept (t' := tk) fun b o e => Heap.get?_push_of_some _ e, turn_range _ lo (hi - lo).toNat, ?_, fun b hb => ?_, q⟩
  · have e1 : lo + ((0 : Nat) : Int) * 1 = lo := by simp
    have e2 : (((hi - lo).toNat : Nat) : Int) - ((0 : Nat) : Int) = Builtin.Range.rangeSize lo hi 1 := by rw [rangeSize_one]; split <;> omega
    show IsRangeIter _ _ (lo + ((0 : Nat) : Int) * 1) ((((hi - lo).toNat : Nat) : Int) - ((0 : Nat) : Int)) 1
    rw [e1, e2]
    exact Heap.get?_push_size _ rfl
  · have e : b = (s.heap.push { cls := .type "range", data := .fields #[.int lo t, .int hi u, .int 1 v] }).objs.size := by simpa using hb
    subst e
    exact I1.fpOk (Nat.le_refl _) (I1.hok.fresh (Nat.le_refl _))
def iRng1 (ta : TA) : TI := fun σ H R => ta σ H fun vs H1 => ∃ j : Int, vs = [.int j] ∧ -(2 ^ 62) ≤ j ∧ j < 2 ^ 62 ∧ R (Itr 0 j.toNat) H1
theorem pi_range1 {a : Expr} {ta : TA} {p pos : Pos} (hg : Gl X "range") (hm : X.mg "range" = none) (ha : PA X [a] ta) (hs : starEach [a] X.env = [(false, eval a X.env)] := by rfl) : PI X tg (.Call (.Name "range" p) [a] [] pos) (iRng1 ta) := by
  intro pins s σ H R I h
  refine Call_ (ld_blt I hg hm boot_range (PyProof.Rows.callWith_type1 (thn (ha pos pins s σ H _ I h) fun us s1 ⟨vs, H1, I1, r1, q1⟩ => ?_) hs rfl))
  obtain ⟨j, e, q1, q2, q⟩ := q1
  subst e
  cases r1 with
  | cons r rr =>
    cases rr
    obtain ⟨t, rfl⟩ := r
    exact call_range_1 (range_it I1 (by omega) (by omega) q1 q2 (by simpa using q))

/-! ### for -/
/-- W: the invariant by the turn and a measure; N: what the body is to reach -/
def tFor (wi : TI) (g : TG) (tb : TS) : TS := fun D σ H => wi σ H fun J H1 => ∃ W : Nat → Nat → St → Hp → Prop, (∃ m, W 0 m σ H1) ∧ ∀ i m σ H, W i m σ H →
  (J.stop i H ∧ D.nx σ H) ∨ (J.go i H ∧ ∃ N : St → Hp → Prop, (∀ σ' H', N σ' H' → ∃ m', m' < m ∧ W (i + 1) m' σ' H') ∧ ∀ x H', J.yld i H x H' → g x σ H' fun σ2 H2 => tb { D with nx := N, ct := N, bk := D.nx } σ2 H2)
/-- the records at fp as they stand -/
def pinsAt (fp : List Addr) (h : Heap) : List (Addr × Obj) := fp.filterMap fun b => (h.get? b).map fun o => (b, o)
theorem mem_pinsAt {fp : List Addr} {h : Heap} {b : Addr} {o : Obj} (hb : b ∈ fp) (e : h.get? b = some o) : (b, o) ∈ pinsAt fp h := List.mem_filterMap.mpr ⟨b, hb, by rw [e]; rfl⟩
theorem of_pinsAt {fp : List Addr} {h : Heap} {p : Addr × Obj} (hp : p ∈ pinsAt fp h) : p.1 ∈ fp ∧ h.get? p.1 = some p.2 := by
  obtain ⟨b, hb, e⟩ := List.mem_filterMap.mp hp
  cases q : h.get? b with
  | none => rw [q] at e; cases e
  | some o =>
    rw [q] at e
    have e' : (b, o) = p := Option.some.inj e
    subst e'
    exact ⟨hb, q⟩
theorem Inv.pinned {pins : List (Addr × Obj)} {σ : St} {H : Hp} {s : Shared} {fp : List Addr} (I : Inv X pins σ H s) (hf : ∀ b ∈ fp, FpOk X pins H b) (ho : ∀ b ∈ fp, ∃ o, s.heap.get? b = some o ∧ ∀ v, o.data ≠ .cell v) : Inv X (pins ++ pinsAt fp s.heap) σ H s :=
  I.pins_of fun p hp => (List.mem_append.mp hp).elim (fun z => I.pin p (List.mem_append_right _ z)) fun z => by
    obtain ⟨hb, e⟩ := of_pinsAt z
    obtain ⟨f0, f1, f2, _⟩ := hf p.1 hb
    obtain ⟨o, e', d⟩ := ho p.1 hb
    rw [e] at e'; cases e'
    exact ⟨e, f0, f1, f2, d⟩
theorem Inv.unpinned {pins pl : List (Addr × Obj)} {σ : St} {H : Hp} {s : Shared} (I : Inv X (pins ++ pl) σ H s) : Inv X pins σ H s := I.pins_of fun p hp => I.pin p (List.mem_append_right _ (List.mem_append_left _ hp))
theorem ps_for {iter : Expr} {body : List Stmt} {wi : TI} {g : TG} {tb : TS} {pos : Pos} (hp : PassesOwn (model X.prog X.w) X.A X.env X.xe) (hc : X.calm = true) (hi : PI X tg iter wi) (hg : PG X tg g) (hb : PSs X body tb)
    (hs : ∀ x, foldedSetIterable iter X.env x = pure x := by intro _; rfl) : PS X (.For tg iter body [] pos) (tFor wi g tb) := by
  intro pins s σ H D I h
  refine wpAny_For (thn (hi pins s σ H _ I h) fun v s1 h1 => thn h1 fun itv s2 h2 => ?_) hs
  obtain ⟨it, fp, tn, J, H2, e, I2, T, st2, f2, W, ⟨m0, w0⟩, turn⟩ := h2
  subst e
  -- what stays true of the iterator's objects through the loop
  have stat : ∀ {H' : Hp}, (∀ b ∈ fp, H' b = none) → ∀ b ∈ fp, FpOk X pins H' b := fun hn b hb => ⟨hn b hb, (f2 b hb).2⟩
  refine codeAny_forLoop_any (fun n s' => ∃ i σ' H', Inv X pins σ' H' s' ∧ tn i s'.heap ∧ (∀ b ∈ fp, H' b = none) ∧ W i n σ' H') ?_ m0 ⟨0, σ, H2, I2, st2, fun b hb => (f2 b hb).1, w0⟩
  rintro n s3 ⟨i, σ3, H3, I3, st3, fr3, w3⟩
  rcases turn i n σ3 H3 w3 with ⟨stop, qn⟩ | ⟨go, N, hN, step⟩
  · refine wpAny_passesOwn hp (thn (T.done X rfl rfl rfl hc i pins s3 σ3 H3 X.xe I3 (stat fr3) st3 stop) fun r s4 ⟨hr, I4⟩ => ?_)
    subst hr
    exact wpAny_execs_nil ⟨σ3, H3, I4, qn⟩
  · refine wpAny_passesOwn hp (thn (T.item X rfl rfl rfl hc i pins s3 σ3 H3 X.xe I3 (stat fr3) st3 go) fun r s4 ⟨u, hr, h4⟩ => ?_)
    subst hr
    refine wpAny_passesOwn hp (thn h4 fun _ s5 ⟨x, H5, I5, r5, y5, st5, fr5⟩ => ?_)
    have I5' := I5.pinned (stat fr5) (T.obj _ _ st5)
    refine wpAny_passesOwn hp (thn (hg _ s5 σ3 H5 x u _ I5' r5 (step x H5 y5)) fun _ s6 ⟨σ6, H6, I6, q6⟩ => ?_)
    refine wpAny_passesOwn hp (thn (hb _ s6 σ6 H6 _ I6 q6) fun f s7 q7 => ?_)
    have again : ∀ {σ7 : St} {H7 : Hp}, Inv X (pins ++ pinsAt fp s5.heap) σ7 H7 s7 → N σ7 H7 → ∃ m, m < n ∧ ∃ i σ' H', Inv X pins σ' H' s7 ∧ tn i s7.heap ∧ (∀ b ∈ fp, H' b = none) ∧ W i m σ' H' := fun {σ7 H7} I7 n7 => by
      obtain ⟨m', hm, w7⟩ := hN σ7 H7 n7
      refine ⟨m', hm, i + 1, σ7, H7, I7.unpinned, T.keep _ _ _ st5 fun b hb o e => (I7.pin (b, o) (List.mem_append_right _ (List.mem_append_right _ (mem_pinsAt hb e)))).1, fun b hb => ?_, w7⟩
      obtain ⟨o, e, d⟩ := T.obj _ _ st5 b hb
      exact (I7.pin (b, o) (List.mem_append_right _ (List.mem_append_right _ (mem_pinsAt hb e)))).2.1
    cases f with
    | next => obtain ⟨σ7, H7, I7, n7⟩ := q7; exact again I7 n7
    | cont => obtain ⟨σ7, H7, I7, n7⟩ := q7; exact again I7 n7
    | brk => obtain ⟨σ7, H7, I7, q7⟩ := q7; exact ⟨σ7, H7, I7.unpinned, q7⟩
    | ret v => obtain ⟨x7, σ7, H7, I7, r7, q7⟩ := q7; exact ⟨x7, σ7, H7, I7.unpinned, r7, q7⟩
end

/-! ### the forms one uses -/
/-- over a list that the body leaves as it is -/
theorem for_list {K : PySem.W.Frag} {a : Addr} {xs : List V} {g : TG} {tb : TS} {D : Ends} {σ : St} {H : Hp} (Pv : Nat → St → Hp → Prop) (h0 : Pv 0 σ H) (hl : ∀ i σ H, i ≤ xs.length → Pv i σ H → SqL K H a xs)
    (hs : ∀ i x σ H, xs[i]? = some x → Pv i σ H → g x σ H fun σ2 H2 => tb { D with nx := Pv (i + 1), ct := Pv (i + 1), bk := D.nx } σ2 H2) (hd : ∀ σ H, Pv xs.length σ H → D.nx σ H) :
    ∃ W : Nat → Nat → St → Hp → Prop, (∃ m, W 0 m σ H) ∧ ∀ i m σ H, W i m σ H →
      ((Itl K a).stop i H ∧ D.nx σ H) ∨ ((Itl K a).go i H ∧ ∃ N : St → Hp → Prop, (∀ σ' H', N σ' H' → ∃ m', m' < m ∧ W (i + 1) m' σ' H') ∧ ∀ x H', (Itl K a).yld i H x H' → g x σ H' fun σ2 H2 => tb { D with nx := N, ct := N, bk := D.nx } σ2 H2) := by
  refine ⟨fun i m σ H => m = xs.length - i ∧ i ≤ xs.length ∧ Pv i σ H, ⟨xs.length, by simp, Nat.zero_le _, h0⟩, ?_⟩
  rintro i m σ H ⟨rfl, hi, p⟩
  have q := hl i σ H hi p
  by_cases hlt : i < xs.length
  · refine .inr ⟨⟨xs, xs[i], q, by simp [hlt]⟩, Pv (i + 1), fun σ' H' p' => ⟨xs.length - (i + 1), by omega, rfl, hlt, p'⟩, fun x H' y => ?_⟩
    obtain ⟨e, y⟩ := y
    subst e
    exact hs i x σ _ (y xs q) p
  · have e : i = xs.length := by omega
    subst e
    exact .inl ⟨⟨xs, q, Nat.le_refl _⟩, hd σ H p⟩
theorem for_range {lo : Int} {n : Nat} {g : TG} {tb : TS} {D : Ends} {σ : St} {H : Hp} (Pv : Nat → St → Hp → Prop) (h0 : Pv 0 σ H)
    (hs : ∀ i σ H, i < n → Pv i σ H → g (.int (lo + i)) σ H fun σ2 H2 => tb { D with nx := Pv (i + 1), ct := Pv (i + 1), bk := D.nx } σ2 H2) (hd : ∀ σ H, Pv n σ H → D.nx σ H) :
    ∃ W : Nat → Nat → St → Hp → Prop, (∃ m, W 0 m σ H) ∧ ∀ i m σ H, W i m σ H →
      ((Itr lo n).stop i H ∧ D.nx σ H) ∨ ((Itr lo n).go i H ∧ ∃ N : St → Hp → Prop, (∀ σ' H', N σ' H' → ∃ m', m' < m ∧ W (i + 1) m' σ' H') ∧ ∀ x H', (Itr lo n).yld i H x H' → g x σ H' fun σ2 H2 => tb { D with nx := N, ct := N, bk := D.nx } σ2 H2) := by
  refine ⟨fun i m σ H => m = n - i ∧ i ≤ n ∧ Pv i σ H, ⟨n, by simp, Nat.zero_le _, h0⟩, ?_⟩
  rintro i m σ H ⟨rfl, hi, p⟩
  by_cases hlt : i < n
  · refine .inr ⟨hlt, Pv (i + 1), fun σ' H' p' => ⟨n - (i + 1), by omega, rfl, hlt, p'⟩, fun x H' y => ?_⟩
    obtain ⟨e, y⟩ := y
    subst e y
    exact hs i σ _ hlt p
  · have e : i = n := by omega
    subst e
    exact .inl ⟨Nat.le_refl _, hd σ H p⟩
end L2

namespace L2
open PySem PySem.Spec PyProof.Rows

abbrev R2 := V → V → Hp → VK → Prop
/-- a two-place operation on values: f is binaryOp op, inplaceOp op or compareOp op -/
def OpR (X : Cx) (f : Value → Value → Sem Value) (r : R2) : Prop :=
  ∀ (pins : List (Addr × Obj)) (s : Shared) (σ : St) (H : Hp) (x y : V) (v u : Value) (Q : VK), Inv X pins σ H s → RelV x v → RelV y u → r x y H Q →
    wpAny (model X.prog X.w) X.A (f v u) (EP X pins σ Q) X.xe s
/-- a call of a value that is known (a builtin, a type) with values -/
def CallR (X : Cx) (f : Value) (r : List V → Hp → VK → Prop) : Prop :=
  ∀ (pins : List (Addr × Obj)) (s : Shared) (σ : St) (H : Hp) (xs : List V) (us : List Value) (Q : VK), Inv X pins σ H s → Vals xs us → r xs H Q →
    wpAny (model X.prog X.w) X.A (call f us) (EP X pins σ Q) X.xe s

def tOp (r : R2) (ta tb : TE) : TE := fun σ H Q => ta σ H fun x H1 => tb σ H1 fun y H2 => r x y H2 Q
/-- ints in, under C, and a value out -/
def rI (C : Int → Int → Prop) (g : Int → Int → V) : R2 := fun x y H Q => ∃ i j, x = .int i ∧ y = .int j ∧ C i j ∧ Q (g i j) H
def rI0 (g : Int → Int → V) : R2 := fun x y H Q => ∃ i j, x = .int i ∧ y = .int j ∧ Q (g i j) H

section
variable {X : Cx} {a b c : Expr} {ta tb tc : TE} {pos : Pos}

theorem binT (ha : PE X a ta) (hb : PE X b tb) {pins : List (Addr × Obj)} {s : Shared} {σ : St} {H : Hp} {R : V → V → Hp → Prop} (I : Inv X pins σ H s)
    (h : ta σ H fun x H1 => tb σ H1 fun y H2 => R x y H2) {Q : Value → Shared → Prop} {f : Value → Value → Sem Value}
    (hf : ∀ v u s2 x y H2, Inv X pins σ H2 s2 → RelV x v → RelV y u → R x y H2 → wpAny (model X.prog X.w) X.A (f v u) Q X.xe s2) :
    wpAny (model X.prog X.w) X.A (eval a X.env) (fun v s₁ => wpAny (model X.prog X.w) X.A (eval b X.env) (fun u s₂ => wpAny (model X.prog X.w) X.A (f v u) Q X.xe s₂) X.xe s₁) X.xe s := by
  refine thn (ha pins s σ H _ I h) fun v s1 ⟨x, H1, I1, r1, q1⟩ => ?_
  refine thn (hb pins s1 σ H1 _ I1 q1) fun u s2 ⟨y, H2, I2, r2, q2⟩ => ?_
  exact hf v u s2 x y H2 I2 r1 r2 q2

theorem pe_op {op : Operator} {r : R2} (ho : OpR X (binaryOp op) r) (ha : PE X a ta) (hb : PE X b tb) : PE X (.BinOp a op b pos) (tOp r ta tb) := by
  intro pins s σ H Q I h
  exact wpAny_BinOp (binT ha hb I h fun v u s2 x y H2 I2 rx ry q => ho pins s2 σ H2 x y v u Q I2 rx ry q)

/-! ### ints -/
theorem opI {f : Value → Value → Sem Value} {C : Int → Int → Prop} {g : Int → Int → Int}
    (rule : ∀ (i j : Int) (t u : Tok) (s : Shared) (Q : Value → Shared → Prop) (E : Value → Shared → Prop), C i j → Q (.int (g i j) s.toks) { s with toks := s.toks + 1 } → wpAny (model X.prog X.w) X.A (f (.int i t) (.int j u)) Q E s) :
    OpR X f (rI C fun i j => .int (g i j)) := by
  intro pins s σ H x y v u Q I rx ry h
  obtain ⟨i, j, rfl, rfl, hc, q⟩ := h
  obtain ⟨t, rfl⟩ := rx
  obtain ⟨t', rfl⟩ := ry
  exact rule i j t t' s _ _ hc ⟨.int (g i j), H, I.tok _, ⟨_, rfl⟩, q⟩
theorem opI0 {f : Value → Value → Sem Value} {g : Int → Int → Int}
    (rule : ∀ (i j : Int) (t u : Tok) (s : Shared) (Q : Value → Shared → Prop) (E : Value → Shared → Prop), Q (.int (g i j) s.toks) { s with toks := s.toks + 1 } → wpAny (model X.prog X.w) X.A (f (.int i t) (.int j u)) Q E s) :
    OpR X f (rI0 fun i j => .int (g i j)) := by
  intro pins s σ H x y v u Q I rx ry h
  obtain ⟨i, j, rfl, rfl, q⟩ := h
  obtain ⟨t, rfl⟩ := rx
  obtain ⟨t', rfl⟩ := ry
  exact rule i j t t' s _ _ ⟨.int (g i j), H, I.tok _, ⟨_, rfl⟩, q⟩
theorem opB0 {f : Value → Value → Sem Value} {g : Int → Int → Bool}
    (rule : ∀ (i j : Int) (t u : Tok) (s : Shared) (Q : Value → Shared → Prop) (E : Value → Shared → Prop), Q (.bool (g i j)) s → wpAny (model X.prog X.w) X.A (f (.int i t) (.int j u)) Q E s) :
    OpR X f (rI0 fun i j => .bl (g i j)) := by
  intro pins s σ H x y v u Q I rx ry h
  obtain ⟨i, j, rfl, rfl, q⟩ := h
  obtain ⟨t, rfl⟩ := rx
  obtain ⟨t', rfl⟩ := ry
  exact rule i j t t' s _ _ ⟨.bl (g i j), H, I, rfl, q⟩

def CDiv (i j : Int) : Prop := 0 < j ∧ j < 1073741824
def CPow (i j : Int) : Prop := 0 ≤ j ∧ j ≤ 1000000 ∧ i.natAbs < 2 ^ 64
def CMul (i j : Int) : Prop := (-(2 ^ 64) < i ∧ i < 2 ^ 64) ∨ (-(2 ^ 64) < j ∧ j < 2 ^ 64)
theorem CMul.ok {i j : Int} (h : CMul i j) : IntMulOk i j := by
  rcases h with ⟨h1, h2⟩ | ⟨h1, h2⟩
  · exact .of_left (intBits_le_64 h1 h2)
  · exact .of_right (intBits_le_64 h1 h2)

theorem op_add : OpR X (binaryOp .Add) (rI0 fun i j => .int (i + j)) := opI0 fun _ _ _ _ _ _ _ q => add_int q
theorem op_mul : OpR X (binaryOp .Mult) (rI CMul fun i j => .int (i * j)) := opI fun _ _ _ _ _ _ _ hc q => mul_int q hc.ok
/-- // by a positive divisor -/
theorem op_fdiv : OpR X (binaryOp .FloorDiv) (rI CDiv fun i j => .int (i / j)) := opI fun i j _ _ _ _ _ hc q => by
  have h1 : (0 : Int) < j := hc.1
  have h2 : j < 1073741824 := hc.2
  exact floordiv_int (by omega) (by rw [Int.fdiv_eq_ediv_of_nonneg i (by omega)]; exact q) (.inl (PyProof.noPylong_small (by omega)))
/-- % by a positive divisor of any size -/
theorem op_mod : OpR X (binaryOp .Mod) (rI (fun _ j => 0 < j) fun i j => .int (i % j)) := opI fun i j _ _ _ _ _ hc q => by
  have h1 : (0 : Int) < j := hc
  exact mod_int' (by omega) (by rw [Int.fmod_eq_emod_of_nonneg i (by omega)]; exact q)
theorem op_pow : OpR X (binaryOp .Pow) (rI CPow fun i j => .int (i ^ j.toNat)) := opI fun _ _ _ _ _ _ _ hc q => pow_int_small hc.1 hc.2.1 hc.2.2 q



/-! ### bools among ints: n += (a < b) -/
end

/-! ### comparisons -/
/-- the scalars that == tells apart as data does -/
def scal : V → V → Bool
  | .non, .non => true | .non, .int _ => true | .int _, .non => true | .non, .bl _ => true | .bl _, .non => true | .non, .str _ => true | .str _, .non => true
  | .int _, .int _ => true | .bl _, .bl _ => true | .str _, .str _ => true | .byt _, .byt _ => true
  | .int _, .str _ => true | .str _, .int _ => true | .bl _, .str _ => true | .str _, .bl _ => true
  | _, _ => false
def rEq : R2 := fun x y H Q => scal x y = true ∧ Q (.bl (decide (x = y))) H
def rNe : R2 := fun x y H Q => scal x y = true ∧ Q (.bl (!decide (x = y))) H

theorem dec_int {i j : Int} : decide (V.int i = V.int j) = (i == j) := by
  rw [Bool.eq_iff_iff]
  simp
theorem dec_bl {i j : Bool} : decide (V.bl i = V.bl j) = (i == j) := by
  rw [Bool.eq_iff_iff]
  simp
theorem dec_str {i j : Str} : decide (V.str i = V.str j) = (i == j) := by
  rw [Bool.eq_iff_iff]
  simp
theorem dec_byt {i j : Array UInt8} : decide (V.byt i = V.byt j) = (i.toList == j.toList) := by
  rw [Bool.eq_iff_iff]
  cases i
  cases j
  simp

section
variable {X : Cx} {a b c : Expr} {ta tb tc : TE} {pos : Pos}
theorem fin_bl {pins : List (Addr × Obj)} {σ : St} {H : Hp} {s : Shared} {Q : VK} {k k' : Bool} (I : Inv X pins σ H s) (q : Q (.bl k) H) (e : k = k') : EP X pins σ Q (.bool k') s := by
  subst e
  exact ⟨.bl k, H, I, rfl, q⟩
theorem op_eq : OpR X (compareOp .Eq) rEq := by
  intro pins s σ H x y v u Q I rx ry h
  obtain ⟨hs, q⟩ := h
  cases x with
  | non =>
    cases rx
    cases y with
    | non => cases ry; exact PySem.EqNone.eq_none_none (fin_bl I q (by simp))
    | bl j => cases ry; exact PySem.EqNone.eq_none_bool (fin_bl I q (by simp))
    | int j => obtain ⟨t', rfl⟩ := ry; exact PySem.EqNone.eq_none_int (fin_bl I q (by simp))
    | str j => obtain ⟨t', rfl⟩ := ry; exact PySem.EqNone.eq_none_str (fin_bl I q (by simp))
    | _ => exact absurd (show false = true from hs) Bool.false_ne_true
  | bl i =>
    cases rx
    cases y with
    | non => cases ry; exact PySem.EqNone.eq_bool_none (fin_bl I q (by simp))
    | bl j => cases ry; exact eq_bool (fin_bl I q dec_bl)
    | str j => obtain ⟨t', rfl⟩ := ry; exact PySem.EqMixed.eq_bool_str (fin_bl I q (by simp))
    | _ => exact absurd (show false = true from hs) Bool.false_ne_true
  | int i =>
    obtain ⟨t, rfl⟩ := rx
    cases y with
    | non => cases ry; exact PySem.EqNone.eq_int_none (fin_bl I q (by simp))
    | int j => obtain ⟨t', rfl⟩ := ry; exact eq_int (fin_bl I q dec_int)
    | str j => obtain ⟨t', rfl⟩ := ry; exact PySem.EqMixed.eq_int_str (fin_bl I q (by simp))
    | _ => exact absurd (show false = true from hs) Bool.false_ne_true
  | str i =>
    obtain ⟨t, rfl⟩ := rx
    cases y with
    | non => cases ry; exact PySem.EqNone.eq_str_none (fin_bl I q (by simp))
    | bl j => cases ry; exact PySem.EqMixed.eq_str_bool (fin_bl I q (by simp))
    | int j => obtain ⟨t', rfl⟩ := ry; exact PySem.EqMixed.eq_str_int (fin_bl I q (by simp))
    | str j => obtain ⟨t', rfl⟩ := ry; exact eq_str (fin_bl I q dec_str)
    | _ => exact absurd (show false = true from hs) Bool.false_ne_true
  | byt i =>
    obtain ⟨t, rfl⟩ := rx
    cases y with
    | byt j => obtain ⟨t', rfl⟩ := ry; exact PySem.W.eq_bytes (fin_bl I q dec_byt)
    | _ => exact absurd (show false = true from hs) Bool.false_ne_true
  | _ => cases y <;> exact absurd (show false = true from hs) Bool.false_ne_true
theorem op_ne : OpR X (compareOp .NotEq) rNe := by
  intro pins s σ H x y v u Q I rx ry h
  obtain ⟨hs, q⟩ := h
  cases x with
  | non =>
    cases rx
    cases y with
    | non => cases ry; exact PySem.EqNone.ne_none_none (fin_bl I q (by simp))
    | bl j => cases ry; exact PySem.EqNone.ne_none_bool (fin_bl I q (by simp))
    | int j => obtain ⟨t', rfl⟩ := ry; exact PySem.EqNone.ne_none_int (fin_bl I q (by simp))
    | str j => obtain ⟨t', rfl⟩ := ry; exact PySem.EqNone.ne_none_str (fin_bl I q (by simp))
    | _ => exact absurd (show false = true from hs) Bool.false_ne_true
  | bl i =>
    cases rx
    cases y with
    | non => cases ry; exact PySem.EqNone.ne_bool_none (fin_bl I q (by simp))
    | bl j => cases ry; exact ne_bool (fin_bl I q (congrArg not dec_bl))
    | str j => obtain ⟨t', rfl⟩ := ry; exact PySem.EqMixed.ne_bool_str (fin_bl I q (by simp))
    | _ => exact absurd (show false = true from hs) Bool.false_ne_true
  | int i =>
    obtain ⟨t, rfl⟩ := rx
    cases y with
    | non => cases ry; exact PySem.EqNone.ne_int_none (fin_bl I q (by simp))
    | int j => obtain ⟨t', rfl⟩ := ry; exact ne_int (fin_bl I q (congrArg not dec_int))
    | str j => obtain ⟨t', rfl⟩ := ry; exact PySem.EqMixed.ne_int_str (fin_bl I q (by simp))
    | _ => exact absurd (show false = true from hs) Bool.false_ne_true
  | str i =>
    obtain ⟨t, rfl⟩ := rx
    cases y with
    | non => cases ry; exact PySem.EqNone.ne_str_none (fin_bl I q (by simp))
    | bl j => cases ry; exact PySem.EqMixed.ne_str_bool (fin_bl I q (by simp))
    | int j => obtain ⟨t', rfl⟩ := ry; exact PySem.EqMixed.ne_str_int (fin_bl I q (by simp))
    | str j => obtain ⟨t', rfl⟩ := ry; exact ne_str (fin_bl I q (congrArg not dec_str))
    | _ => exact absurd (show false = true from hs) Bool.false_ne_true
  | byt i =>
    obtain ⟨t, rfl⟩ := rx
    cases y with
    | byt j => obtain ⟨t', rfl⟩ := ry; exact PySem.W.ne_bytes (fin_bl I q (congrArg not dec_byt))
    | _ => exact absurd (show false = true from hs) Bool.false_ne_true
  | _ => cases y <;> exact absurd (show false = true from hs) Bool.false_ne_true

theorem op_lt : OpR X (compareOp .Lt) (rI0 fun i j => .bl (decide (i < j))) := opB0 fun _ _ _ _ _ _ _ q => lt_int q
theorem op_le : OpR X (compareOp .LtE) (rI0 fun i j => .bl (decide (i ≤ j))) := opB0 fun _ _ _ _ _ _ _ q => le_int q
theorem op_gt : OpR X (compareOp .Gt) (rI0 fun i j => .bl (decide (j < i))) := opB0 fun _ _ _ _ _ _ _ q => gt_int q

/-- is None, is not None: the right side a value none -/
theorem op_isN : OpR X (compareOp .Is) (fun x y H Q => y = .non ∧ Q (.bl (decide (x = .non))) H) := by
  intro pins s σ H x y v u Q I rx ry h
  obtain ⟨rfl, q⟩ := h
  cases ry
  refine is_none_gen (fin_bl I q ?_)
  cases x <;> first
    | (cases rx; rfl)
    | (obtain ⟨t, rfl⟩ := rx; rfl)
theorem op_notN : OpR X (compareOp .IsNot) (fun x y H Q => y = .non ∧ Q (.bl (!decide (x = .non))) H) := by
  intro pins s σ H x y v u Q I rx ry h
  obtain ⟨rfl, q⟩ := h
  cases ry
  refine isnot_none_gen (fin_bl I q ?_)
  cases x <;> first
    | (cases rx; rfl)
    | (obtain ⟨t, rfl⟩ := rx; rfl)



theorem nomark (b : Expr) {op : CmpOp} (h : op ≠ .In := by decide) (h2 : op ≠ .NotIn := by decide) : behindInMarks op b = false := by
  have e1 : (op == CmpOp.In) = false := by cases op <;> first | rfl | exact absurd rfl h
  have e2 : (op == CmpOp.NotIn) = false := by cases op <;> first | rfl | exact absurd rfl h2
  cases b <;> simp [behindInMarks, e1, e2]
/-- a comparison as a value; hm: nomark b, or (for in, not in) by with_unfolding_all rfl -/
theorem pe_cmpR {op : CmpOp} {r : R2} (ho : OpR X (compareOp op) r) (ha : PE X a ta) (hb : PE X b tb) (hm : behindInMarks op b = false) : PE X (.Compare a [op] [b] pos) (tOp r ta tb) := by
  intro pins s σ H Q I h
  exact wpAny_Compare1 (binT ha hb I h fun v u s2 x y H2 I2 rx ry q => ho pins s2 σ H2 x y v u Q I2 rx ry q) hm
/-- a reading of a value as a test -/
def tTest (t : TE) : TT := fun σ H Q => t σ H fun x H' => ∃ k, x = .bl k ∧ Q k H'
theorem pt_cmpR {op : CmpOp} {r : R2} (ho : OpR X (compareOp op) r) (ha : PE X a ta) (hb : PE X b tb) (hm : behindInMarks op b = false) : PT X (.Compare a [op] [b] pos) (tTest (tOp r ta tb)) := by
  intro pins s σ H Q I h
  refine wpAny_isTrue_Compare1 (thn (ha pins s σ H _ I h) fun v s1 ⟨x, H1, I1, r1, q1⟩ => thn (hb pins s1 σ H1 _ I1 q1) fun u s2 ⟨y, H2, I2, r2, q2⟩ =>
    thn (ho pins s2 σ H2 x y v u _ I2 r1 r2 q2) fun c s3 ⟨z, H3, I3, r3, k, e, q3⟩ => ?_) hm
  subst e
  cases r3
  exact wpAny_truthy_bool ⟨H3, I3, q3⟩
/-- a op1 b op2 c -/
def tChain (r r' : R2) (ta tb tc : TE) : TE := fun σ H Q => ta σ H fun x H1 => tb σ H1 fun y H2 => r x y H2 fun z H3 => ∃ k, z = .bl k ∧
  (if k = true then tc σ H3 fun w' H4 => r' y w' H4 Q else Q (.bl false) H3)
theorem pe_chain {op op' : CmpOp} {r r' : R2} (ho : OpR X (compareOp op) r) (ho' : OpR X (compareOp op') r') (ha : PE X a ta) (hb : PE X b tb) (hc : PE X c tc)
    (hm : lastMarks [op, op'] [b, c] = false := by with_unfolding_all rfl) : PE X (.Compare a [op, op'] [b, c] pos) (tChain r r' ta tb tc) := by
  intro pins s σ H Q I h
  refine Compare_chain (thn (ha pins s σ H _ I h) fun v s1 ⟨x, H1, I1, r1, q1⟩ => chain_link (thn (hb pins s1 σ H1 _ I1 q1) fun u s2 ⟨y, H2, I2, r2, q2⟩ =>
    thn (ho pins s2 σ H2 x y v u _ I2 r1 r2 q2) fun d s3 ⟨z, H3, I3, r3, k, e, q3⟩ => ?_)) hm
  subst e
  cases r3
  refine wpAny_truthy_bool ?_
  cases k with
  | false => exact ite_ff ⟨.bl false, H3, I3, rfl, q3⟩
  | true => exact ite_tt (chain_last (thn (hc pins s3 σ H3 _ I3 q3) fun w' s4 ⟨z', H4, I4, r4, q4⟩ => ho' pins s4 σ H4 y z' u w' Q I4 r2 r4 q4))
theorem pt_chain {op op' : CmpOp} {r r' : R2} (ho : OpR X (compareOp op) r) (ho' : OpR X (compareOp op') r') (ha : PE X a ta) (hb : PE X b tb) (hc : PE X c tc)
    (hm : lastMarks [op, op'] [b, c] = false := by with_unfolding_all rfl) : PT X (.Compare a [op, op'] [b, c] pos) (tTest (tChain r r' ta tb tc)) := by
  intro pins s σ H Q I h
  refine isTrue_chain (thn (ha pins s σ H _ I h) fun v s1 ⟨x, H1, I1, r1, q1⟩ => test_link (thn (hb pins s1 σ H1 _ I1 q1) fun u s2 ⟨y, H2, I2, r2, q2⟩ =>
    thn (ho pins s2 σ H2 x y v u _ I2 r1 r2 q2) fun d s3 ⟨z, H3, I3, r3, k, e, q3⟩ => ?_)) hm
  subst e
  cases r3
  refine wpAny_truthy_bool ?_
  cases k with
  | false =>
    obtain ⟨k', e', q'⟩ := q3
    cases e'
    exact ite_ff ⟨H3, I3, q'⟩
  | true =>
    refine ite_tt (test_last (thn (hc pins s3 σ H3 _ I3 q3) fun w' s4 ⟨z', H4, I4, r4, q4⟩ => thn (ho' pins s4 σ H4 y z' u w' _ I4 r2 r4 q4) fun d' s5 ⟨z2, H5, I5, r5, k2, e2, q5⟩ => ?_))
    subst e2
    cases r5
    exact wpAny_truthy_bool ⟨H5, I5, q5⟩

/-! ### truth -/
theorem line63 : (sizeLine : Nat) < 2 ^ 63 := by rw [sizeLine_eq]; decide

/-! ### strs and bytes -/


/-! ### scalar builtins, by CallR -/
theorem vals1 {x : V} {us : List Value} (r : Vals [x] us) : ∃ u, us = [u] ∧ RelV x u := by
  cases r with
  | cons r1 r2 => cases r2; exact ⟨_, rfl, r1⟩
theorem vals2 {x y : V} {us : List Value} (r : Vals [x, y] us) : ∃ u w', us = [u, w'] ∧ RelV x u ∧ RelV y w' := by
  cases r with
  | cons r1 r2 =>
    cases r2 with
    | cons r3 r4 => cases r4; exact ⟨_, _, rfl, r1, r3⟩
theorem call_int1 : CallR X (.type "int") (fun xs H Q => (∃ i, xs = [.int i] ∧ Q (.int i) H) ∨ ∃ k, xs = [.bl k] ∧ Q (.int (if k then 1 else 0)) H) := by
  intro pins s σ H xs us Q I r h
  rcases h with ⟨i, rfl, q⟩ | ⟨k, rfl, q⟩
  · obtain ⟨u, rfl, t, rfl⟩ := vals1 r
    exact call_int_int ⟨.int i, H, I, ⟨_, rfl⟩, q⟩
  · obtain ⟨u, rfl, r1⟩ := vals1 r
    cases r1
    exact call_int_bool ⟨.int (if k then 1 else 0), H, I.tok _, ⟨_, rfl⟩, q⟩
end
end L2

namespace L2
open PySem PySem.Spec PyProof.Rows

/-! ### an instance, its attributes a map -/
structure ObjM (h : Heap) (x dx C : Addr) (mA : Str → Option Value) : Prop where
  obj : h.get? x = some (PySem.W.instObj C dx)
  ns : h.Ns1 dx mA
  ne : dx ≠ x

theorem lookIn_ns {h : Heap} {dx : Addr} {mA : Str → Option Value} (n : h.Ns1 dx mA) : ∃ od, h.get? dx = some od ∧ ∀ name, PySem.W.lookIn name od = some (mA name) := by
  obtain ⟨o, es, ep, ho, hd, hk, _, hm⟩ := n
  refine ⟨o, ho, fun name => ?_⟩
  have e := hm name
  unfold nsFind findBy at e
  rw [← Array.find?_toList] at e
  unfold PySem.W.lookIn
  rw [hd]
  dsimp only
  split
  · rename_i y q
    rw [q] at e
    exact congrArg some e
  · rename_i q
    rw [q] at e
    have a : es.toList.any (·.refKey) = false := by
      rw [List.any_eq_false]
      intro y hy
      obtain ⟨z, t, hkey⟩ := hk y (Array.mem_toList_iff.mp hy)
      simp [DictEntry.refKey, hkey]
    have a' : ¬ es.toList.any (·.refKey) = true := by rw [a]; exact Bool.false_ne_true
    rw [if_neg a']
    exact congrArg some e

theorem ObjM.look {h : Heap} {x dx C : Addr} {mA : Str → Option Value} (I : ObjM h x dx C mA) : ∃ od, PySem.W.InstAt h x (PySem.W.instObj C dx) C (some od) ∧ ∀ name, PySem.W.lookIn name od = some (mA name) :=
  let ⟨od, ho, hl⟩ := lookIn_ns I.ns
  ⟨od, ⟨I.obj, rfl, rfl, ho⟩, hl⟩

section
variable {prog : Program} {w : World} {A : Around} {E : Value → Shared → Prop} {s : Shared} {K : PySem.W.Frag} {x dx C f : Addr} {mA : Str → Option Value} {name : Str} {v : Value}





end

/-! ### the attributes as a list of pairs -/

theorem RelO.some_of {v : V} {o : Option Value} (r : RelO (some v) o) : ∃ u, o = some u ∧ RelV v u := by
  cases o with
  | none => exact (show False from r).elim
  | some u => exact ⟨u, rfl, r⟩

section
variable {P : Program} {w : World} {H H' : Hp} {h h' : Heap} {a C dx : Addr} {fs fs' : List (Str × V)}
theorem ins_get (hok : HOk P w H h) (e : H a = some (.ins C dx fs)) : ∃ mA, ObjM h a dx C mA ∧ (∀ f, RelO (fs.lookup f) (mA f)) ∧ PySem.Within mA (fs.map (·.1)) ∧ fs.length ≤ 1000 ∧ H dx = some (.own a) := by
  obtain ⟨d, z, ne, ob, mA, n, r, q⟩ := (show ObjOk P w H h a (.ins C dx fs) from hok a _ e)
  exact ⟨mA, ⟨ob, n, ne⟩, r, q, z, d⟩
end

/-! ### what of the text a class must have -/
structure Cls (K : PySem.W.Frag) (C : Addr) : Prop where
  pg : PySem.W.plainGet K C Str.empty = true
  hd : PySem.W.hasDictIn K C = true
  po : PySem.W.plainOver K C = true
  sa : PySem.W.findIn K (.ref C) "__setattr__" = some (some (.builtin "object.__setattr__"))
theorem Cls.get {K : PySem.W.Frag} {C : Addr} (c : Cls K C) (f : Str) : PySem.W.plainGet K C f = true := c.pg

section
variable {X : Cx} {pins : List (Addr × Obj)} {σ : St} {H : Hp} {s : Shared} {a C dx : Addr} {fs : List (Str × V)} {f : Str} {v : V} {A : Around} {E : Value → Shared → Prop}






end

/-! ### readings and rules -/

section
variable {X : Cx} {o e value : Expr} {f : Str} {pos pos' tpos : Pos} {ta tv : TE}

end

/-! ### isinstance -/
section
variable {X : Cx} {pins : List (Addr × Obj)} {σ : St} {H : Hp} {s : Shared} {A : Around} {E : Value → Shared → Prop} {Q : Value → Shared → Prop} {c : Value} {b : Bool}
/-- the type of a value, as the fragment's deciders take it; for an instance its class -/
inductive TyOf (K : PySem.W.Frag) (H : Hp) : V → Value → Prop where
  | non : TyOf K H .non (.type "NoneType")
  | bl (x : Bool) : TyOf K H (.bl x) (.type "bool")
  | int (i : Int) : TyOf K H (.int i) (.type "int")
  | str (x : Str) : TyOf K H (.str x) (.type "str")
  | flt (x : UInt64) : TyOf K H (.flt x) (.type "float")
  | lst {a : Addr} {xs : List V} (e : H a = some (.lst xs)) : TyOf K H (.ref a) (.type "list")
  | frz {a : Addr} {o : Obj} {xs : List V} (e : H a = some (.frz o (.lst xs))) : TyOf K H (.ref a) (.type "list")
  | tup {a : Addr} {xs : List V} (e : H a = some (.tup xs)) : TyOf K H (.ref a) (.type "tuple")
  | dK {a : Addr} {kvs : List (Key × V)} (e : H a = some (.dK kvs)) : TyOf K H (.ref a) (.type "dict")
  | dT {a : Addr} {kvs : List (List Key × V)} (e : H a = some (.dT kvs)) : TyOf K H (.ref a) (.type "dict")
  | ins {a C dx : Addr} {fs : List (Str × V)} (e : H a = some (.ins C dx fs)) (cl : Cls K C) (ha : PySem.W.findIn K (.ref C) "__class__" = some (some (.builtin "object.__class__")))
      (hn : PySem.W.specialIn K (.builtin "object.__class__") "__get__" = some (some (.builtin "getset_descriptor.__get__"))) (htk : PySem.W.takesIn K (.builtin "object.__class__") = some true)
      (hm : PySem.W.mroIn K C (.type "object") = some true) : TyOf K H (.ref a) (.ref C)
/-- isinstance(x, c) for one class c, a built-in or an own one: kitOne's answer -/
theorem isinst_ok {x : V} {u t : Value} (I : Inv X pins σ H s) (rx : RelV x u) (ty : TyOf X.K H x t) (e : PySem.W.kitOne X.K t c = some b) (h : ∀ tk, Q (.bool b) { s with toks := tk }) :
    wpAny (model X.prog X.w) A (call (.builtin "isinstance") [u, c]) Q E s := by
  cases ty with
  | non => cases (show u = Value.none from rx); exact PySem.W.kia_one PySem.W.kitx_none I.kIn True.intro e (fun z => nomatch z) h
  | bl y => cases (show u = Value.bool y from rx); exact PySem.W.kia_one PySem.W.kitx_bool I.kIn True.intro e (fun z => nomatch z) h
  | int i => obtain ⟨t, q⟩ := (show ∃ t, u = Value.int i t from rx); cases q; exact PySem.W.kia_one PySem.W.kitx_int I.kIn True.intro e (fun z => nomatch z) h
  | str y => obtain ⟨t, q⟩ := (show ∃ t, u = Value.str y t from rx); cases q; exact PySem.W.kia_one PySem.W.kitx_str I.kIn True.intro e (fun z => nomatch z) h
  | flt y => obtain ⟨t, q⟩ := (show ∃ t, u = Value.float y t from rx); cases q; exact PySem.W.kia_one PySem.W.kitx_float I.kIn True.intro e (fun z => nomatch z) h
  | @lst a xs ea =>
    cases (show u = Value.ref a from rx)
    obtain ⟨_, _, n, _, h1⟩ := (show ObjOk X.prog X.w H s.heap a (.lst xs) from I.hok a _ ea)
    exact PySem.W.kia_one PySem.W.kitx_list I.kIn ⟨_, h1, rfl⟩ e (fun z => nomatch z) h
  | @frz a ob xs ea =>
    cases (show u = Value.ref a from rx)
    obtain ⟨_, _, _, n, _, h1⟩ := (show ObjOk X.prog X.w H s.heap a (.frz ob (.lst xs)) from I.hok a _ ea)
    exact PySem.W.kia_one PySem.W.kitx_list I.kIn ⟨_, h1, rfl⟩ e (fun z => nomatch z) h
  | @tup a xs ea =>
    cases (show u = Value.ref a from rx)
    obtain ⟨_, _, _, p⟩ := (show ObjOk X.prog X.w H s.heap a (.tup xs) from I.hok a _ ea)
    obtain ⟨o, h1, h2, _⟩ := p
    exact PySem.W.kia_one PySem.W.kitx_tuple I.kIn ⟨o, h1, h2⟩ e (fun z => nomatch z) h
  | @dK a kvs ea =>
    cases (show u = Value.ref a from rx)
    obtain ⟨_, _, vs, _, p⟩ := (show ObjOk X.prog X.w H s.heap a (.dK kvs) from I.hok a _ ea)
    obtain ⟨o, es, ep, h1, h2, _⟩ := p
    exact PySem.W.kia_one PySem.W.kitx_dict I.kIn ⟨o, h1, h2.1⟩ e (fun z => nomatch z) h
  | @dT a kvs ea =>
    cases (show u = Value.ref a from rx)
    obtain ⟨_, _, xs, _, o, es, ep, h1, h2, _⟩ := (show ObjOk X.prog X.w H s.heap a (.dT kvs) from I.hok a _ ea)
    exact PySem.W.kia_one PySem.W.kitx_dict I.kIn ⟨o, h1, h2.1⟩ e (fun z => nomatch z) h
  | @ins a C dx fs ea cl ha hn htk hm =>
    cases (show u = Value.ref a from rx)
    obtain ⟨mA, O, _⟩ := ins_get I.hok ea
    obtain ⟨od, J, _⟩ := O.look
    exact PySem.W.kia_one (PySem.W.kitx_own (cl.get _) cl.hd ha hn htk hm) I.kIn J e (fun z => nomatch z) h
end
end L2

namespace L2
open PySem PySem.Spec PyProof.Rows

/-! ### room -/
structure Room (k : Nat) (A : Around) : Prop where
  hd : A.handled = none
  dp : A.depth + 3 * k + 5 < recursionLimit
  un : A.units + 16 * k + 200 < cLine
theorem Room.mono {j k : Nat} {A : Around} (r : Room k A) (h : j ≤ k) : Room j A := ⟨r.hd, by have := r.dp; omega, by have := r.un; omega⟩
theorem Room.deeper {k : Nat} {A : Around} (r : Room (k + 1) A) (env : Env) : Room k (A.deeper env) :=
  ⟨r.hd, by have := r.dp; show A.depth + 1 + 3 * k + 5 < _; omega, by have := r.un; show A.units + 3 + 16 * k + 200 < _; omega⟩
theorem make_depth {A : Around} {C : Addr} {us : List Value} {kw : List (Str × Value)} : (A.under (.builtin "type.__call__" ⟨.ref C :: us, kw⟩)).depth = A.depth + 1 := by
  first | rfl | simp [Around.under, Code.weight, Code.isCreation, Code.isGuard, Code.isCaller, Code.frames, Code.isFrame, guardIds]
theorem make_units {A : Around} {C : Addr} {us : List Value} {kw : List (Str × Value)} : (A.under (.builtin "type.__call__" ⟨.ref C :: us, kw⟩)).units = A.units + 1 := by
  first | rfl | simp [Around.under, Code.cUnits, Code.frames, Code.isFrame]
theorem Room.make {k : Nat} {A : Around} (r : Room (k + 1) A) (C : Addr) (us : List Value) (kw : List (Str × Value)) : Room k (A.under (.builtin "type.__call__" ⟨.ref C :: us, kw⟩)) :=
  ⟨r.hd, by have := r.dp; rw [make_depth]; omega, by have := r.un; rw [make_units]; omega⟩
theorem Room.depth {k : Nat} {A : Around} (r : Room k A) : A.depth < recursionLimit := by have := r.dp; omega
theorem Room.units {k : Nat} {A : Around} (r : Room k A) : A.units + 64 < cLine := by have := r.un; omega

/-! ### argument lists and displays -/
def tNil : TA := fun _ H Q => Q [] H
def tCons (ta : TE) (tr : TA) : TA := fun σ H Q => ta σ H fun x H1 => tr σ H1 fun xs H2 => Q (x :: xs) H2
section
variable {X : Cx} {e : Expr} {es : List Expr} {te : TE} {t : TA} {pos : Pos}
theorem pa_nil : PA X [] tNil := fun _ _ _ _ H Q I h => Calls.spliced_nil ⟨[], H, I, .nil, h⟩
theorem pa_cons (ha : PE X e te) (hr : PA X es t) (hs : starEach (e :: es) X.env = (false, eval e X.env) :: starEach es X.env := by rfl) : PA X (e :: es) (tCons te t) := by
  intro pos pins s σ H Q I h
  rw [hs]
  show wpAny _ _ (spliced ((false, eval e X.env) :: backTo pos (starEach es X.env))) _ _ s
  refine Calls.spliced_cons (thn (ha pins s σ H _ I h) fun u s1 ⟨x, H1, I1, r1, q1⟩ => ?_)
  exact thn (hr pos pins s1 σ H1 _ I1 q1) fun us s2 ⟨xs, H2, I2, r2, q2⟩ => ⟨x :: xs, H2, I2, .cons r1 r2, q2⟩

/-- a tuple, a list of written items -/
def tTup (t : TA) : TE := fun σ H Q => t σ H fun xs H1 => xs.length ≤ sizeLine ∧ ∀ p, H1 p = none → Q (.ref p) (upd H1 p (.tup xs))
def tLst (t : TA) : TE := fun σ H Q => t σ H fun xs H1 => xs.length ≤ sizeLine ∧ ∀ p, H1 p = none → Q (.ref p) (upd H1 p (.lst xs))
theorem pe_tup {x1} (h : PA X es t) : PE X (.Tuple es x1 pos) (tTup t) := by
  intro pins s σ H Q I hq
  refine wpAny_Tuple_spliced (thn (h pos pins s σ H _ I hq) fun us s1 ⟨xs, H1, I1, r, z, q⟩ => ⟨by rw [← r.length]; exact z, ?_⟩)
  have hf : H1 s1.heap.objs.size = none := I1.hok.fresh (Nat.le_refl _)
  refine ⟨.ref s1.heap.objs.size, upd H1 s1.heap.objs.size (.tup xs), I1.laid (t' := s1.toks) (fun b u e => Heap.get?_push_of_some _ e) (Nat.le_refl _) ?_, rfl, q _ hf⟩
  exact ⟨z, us, r, ⟨_, Heap.get?_push_size _ rfl, rfl, _, rfl⟩⟩
theorem pe_lst (h : PA X es t) : PE X (.List es pos) (tLst t) := by
  intro pins s σ H Q I hq
  refine wpAny_List_spliced (thn (h pos pins s σ H _ I hq) fun us s1 ⟨xs, H1, I1, r, z, q⟩ => ⟨by rw [← r.length]; exact z, ?_⟩)
  have hf : H1 s1.heap.objs.size = none := I1.hok.fresh (Nat.le_refl _)
  refine ⟨.ref s1.heap.objs.size, upd H1 s1.heap.objs.size (.lst xs), I1.laid (t' := s1.toks) (fun b u e => Heap.get?_push_of_some _ e) (Nat.le_refl _) ?_, rfl, q _ hf⟩
  exact ⟨z, us, 0, r, Heap.get?_push_size _ rfl⟩
end

/-! ### what a def promises -/
/-- a def's promise: the bound arguments in the parameters' order, the heap, the wanted end, the wanted exception -/
abbrev Sp := List V → Hp → VK → XK → Prop
/-- how an exception lies behind a call (file 08 gives it): the callers' frames, abstract heap and state ahead of the call, the wish, the exception, the state -/
abbrev CXT := List Env → Hp → Shared → XK → Value → Shared → Prop

/-- the state at a call -/
structure Env0 (P : Program) (w : World) (K : PySem.W.Frag) (mg : Str → Option Value) (base : Heap) (A : Around) (outer : List Env) (s : Shared) (H : Hp) : Prop where
  frames : A.frames = some outer
  mod : Mod K mg base
  bs : ∀ b o, base.get? b = some o → s.heap.get? b = some o ∧ H b = none
  bsz : base.objs.size ≤ s.heap.objs.size
  funs : s.heap.FunFrames base outer
  frf : ∀ b ∈ frs outer, H b = none
  hok : HOk P w H s.heap
  bare : AllBare s.gens
/-- a call's end -/
def CE (outer : List Env) (P : Program) (w : World) (H : Hp) (s : Shared) (Q : VK) (u : Value) (s' : Shared) : Prop :=
  ∃ v H', s'.os = s.os ∧ AllBare s'.gens ∧ Un (frs outer) [] H H' s.heap s'.heap ∧ HOk P w H' s'.heap ∧ RelV v u ∧ Q v H'
def CR (CX : CXT) (outer : List Env) (P : Program) (w : World) (H : Hp) (s : Shared) (Q : VK) (E : XK) (r : Result) (s' : Shared) : Prop :=
  match r with
  | .ok (.ret u) => CE outer P w H s Q u s'
  | .ok _ => False
  | .error e => CX outer H s E e s'
structure FnOk (P : Program) (w : World) (K : PySem.W.Frag) (mg : Str → Option Value) (base : Heap) (CX : CXT) (k : Nat) (f : Addr) (fd : FuncData) (ps : List Str) (sp : Sp) : Prop where
  len : ∀ vs H Q E, sp vs H Q E → vs.length = ps.length
  run : ∀ (A : Around) (outer : List Env) (s : Shared) (H : Hp) (args : Args) (us : List Value) (vs : List V) (Q : VK) (E : XK), Room k A → Env0 P w K mg base A outer s H → BindsTo s fd args (ps.zip us) → Vals vs us → sp vs H Q E →
    codeAny (model P w) A (.call (.ref f) args) (CR CX outer P w H s Q E) s

theorem Env0.make {P : Program} {w : World} {K : PySem.W.Frag} {mg : Str → Option Value} {base : Heap} {A : Around} {outer : List Env} {s : Shared} {H : Hp} (e : Env0 P w K mg base A outer s H) (C : Addr) (us : List Value) (kw : List (Str × Value)) :
    Env0 P w K mg base (A.under (.builtin "type.__call__" ⟨.ref C :: us, kw⟩)) outer s H := ⟨by first | exact e.frames | (simpa [Around.under, Code.envs, Code.isFrame, pushEnvs] using e.frames), e.mod, e.bs, e.bsz, e.funs, e.frf, e.hok, e.bare⟩

section
variable {X : Cx} {pins : List (Addr × Obj)} {σ : St} {H : Hp} {s s' : Shared}
/-- from a body: what a callee wants -/
theorem Inv.env0 (I : Inv X pins σ H s) : Env0 X.prog X.w X.K X.mg X.base X.A X.stack s H :=
  ⟨I.ok.frames, I.ok.mod, I.bs, Nat.le_trans I.ok.bsz I.sz, I.stack, I.stkFree, I.hok, I.bare⟩
/-- behind a call -/
theorem Inv.after {Q : VK} {u : Value} (I : Inv X pins σ H s) (h : CE X.stack X.prog X.w H s Q u s') : EP X pins σ Q u s' := by
  obtain ⟨v, H', os, bare, un, hok, r, q⟩ := h
  obtain ⟨hh, g, d, t, os'⟩ := s'
  obtain rfl : os' = s.os := os
  exact ⟨v, H', I.call (h' := hh) (g' := g) (d' := d) (t' := t) (ch := []) un hok bare (fun b z => absurd z (by simp)), r, q⟩
end

/-! ### calls -/

/-- how the parameters are bound: us the positional arguments, kw the keywords' values by name, ds the defaults that fill up -/
def Binds (K : PySem.W.Frag) (fd : FuncData) (ps : List Str) (ds : List Value) : Prop :=
  ∀ (s : Shared) (us : List Value), K.In s.heap → (us ++ ds).length = ps.length → BindsTo s fd ⟨us, []⟩ (ps.zip (us ++ ds))
/-- every parameter is given -/
theorem Binds.all {K : PySem.W.Frag} {fd : FuncData} {ps : List Str} (h : ∀ us : List Value, us.length = ps.length → bindArgs fd ⟨us, []⟩ = pure (ps.zip us)) : Binds K fd ps [] := fun s us _ hl => by
  rw [List.append_nil] at hl ⊢
  exact .of_eq (h us hl)

/-- an exception of a callee reaches what this body wants of exceptions -/
def Passes (CX : CXT) (X : Cx) (E : XK) : Prop := ∀ (pins : List (Addr × Obj)) (σ : St) (H : Hp) (s : Shared) (e : Value) (s' : Shared), Inv X pins σ H s → CX X.stack H s E e s' → X.xe e s'

section
variable {X : Cx} {CX : CXT} {k : Nat} {f C : Addr} {fd : FuncData} {ps : List Str} {sp : Sp} {dvs : List V} {ds : List Value} {E : XK} {x m : Str} {p pos apos : Pos} {e o : Expr} {es : List Expr} {ta : TE} {t : TA}





end

/-! ### keywords -/
section
variable {X : Cx} {CX : CXT} {k : Nat} {f C : Addr} {fd : FuncData} {ps ks : List Str} {sp : Sp} {E : XK} {x m : Str} {p pos apos kpos : Pos} {e o : Expr} {es : List Expr} {kws : List Keyword} {te ta : TE} {t tk : TA} {nm : Option Str}

variable {g : List Value → List Value → List Value} {gV : List V → List V → List V}
end

/-! ### a def's body keeps its promise -/
/-- names: the parameters first -/
structure FnScope (N P : List Str) (sc : Scope) : Prop where
  kind : sc.kind = .function
  co : sc.isCoroutine = false
  gen : sc.isGenerator = false
  nd : N.Nodup
  pre : N.take P.length = P
  par : ∀ x ∈ P, sc.names.lookup x = some .local ∨ sc.names.lookup x = some .cell
  nofree : ∀ y ∈ sc.names, y.2 ≠ .free

theorem bindL_out {kindOf : Str → Option NameKind} {x : Str} : ∀ {binds : List (Str × Value)} {m : Str → Option Value}, (∀ v, (x, v) ∉ binds) → bindL kindOf binds m x = m x
  | [], _, _ => rfl
  | (n, v) :: r, m, h => by
    unfold bindL
    rw [bindL_out fun w hw => h w (List.mem_cons_of_mem _ hw)]
    split
    · have : x ≠ n := by rintro rfl; exact h v List.mem_cons_self
      simp [this]
    · rfl
theorem bindC_out {kindOf : Str → Option NameKind} {x : Str} : ∀ {binds : List (Str × Value)} {m : Str → Option Value}, (∀ v, (x, v) ∉ binds) → bindC kindOf binds m x = m x
  | [], _, _ => rfl
  | (n, v) :: r, m, h => by
    unfold bindC
    rw [bindC_out fun w hw => h w (List.mem_cons_of_mem _ hw)]
    split
    · rfl
    · have : x ≠ n := by rintro rfl; exact h v List.mem_cons_self
      simp [this]
theorem bindL_get {kindOf : Str → Option NameKind} {x : Str} {v : Value} : ∀ {P : List Str} {vs : List Value} {i : Nat} {m : Str → Option Value}, P.Nodup → P[i]? = some x → vs[i]? = some v → kindOf x = some .local →
    bindL kindOf (P.zip vs) m x = some v
  | [], _, _, _, _, h, _, _ => by simp at h
  | _ :: _, [], _, _, _, _, h, _ => by simp at h
  | p :: P, w :: vs, 0, m, nd, h1, h2, hk => by
    simp at h1 h2; subst h1; subst h2
    show bindL kindOf ((p, w) :: P.zip vs) m p = _
    unfold bindL
    rw [bindL_out fun v hv => (List.nodup_cons.mp nd).1 (List.of_mem_zip hv).1, if_pos hk]
    simp
  | p :: P, w :: vs, i + 1, m, nd, h1, h2, hk => by
    show bindL kindOf ((p, w) :: P.zip vs) m x = _
    unfold bindL
    exact bindL_get (i := i) (List.nodup_cons.mp nd).2 (by simpa using h1) (by simpa using h2) hk
theorem bindC_get {kindOf : Str → Option NameKind} {x : Str} {v : Value} : ∀ {P : List Str} {vs : List Value} {i : Nat} {m : Str → Option Value}, P.Nodup → P[i]? = some x → vs[i]? = some v → kindOf x ≠ some .local →
    bindC kindOf (P.zip vs) m x = some v
  | [], _, _, _, _, h, _, _ => by simp at h
  | _ :: _, [], _, _, _, _, h, _ => by simp at h
  | p :: P, w :: vs, 0, m, nd, h1, h2, hk => by
    simp at h1 h2; subst h1; subst h2
    show bindC kindOf ((p, w) :: P.zip vs) m p = _
    unfold bindC
    rw [bindC_out fun v hv => (List.nodup_cons.mp nd).1 (List.of_mem_zip hv).1, if_neg hk]
    simp
  | p :: P, w :: vs, i + 1, m, nd, h1, h2, hk => by
    show bindC kindOf ((p, w) :: P.zip vs) m x = _
    unfold bindC
    exact bindC_get (i := i) (List.nodup_cons.mp nd).2 (by simpa using h1) (by simpa using h2) hk

/-- the names' values at the entry -/
def start (N : List Str) (vs : List V) : St := vs.map some ++ List.replicate (N.length - vs.length) none

/-- the context of a def's body, at its entry; an exception leaves the frame, then lies as CX says -/
def cxOf (CX : CXT) (P : Program) (w : World) (K : PySem.W.Frag) (mg : Str → Option Value) (base : Heap) (N : List Str) (qual : Str) (scope : Scope) (f : Addr) (cd : Value) (A : Around) (outer : List Env) (s : Shared) (H : Hp) (E : XK) : Cx where
  prog := P
  w := w
  K := K
  mg := mg
  base := base
  A := A.deeper (envOfC qual scope s.heap.objs.size f cd)
  N := N
  s₀ := s
  H₀ := H
  env := envOfC qual scope s.heap.objs.size f cd
  outer := outer
  stack := envOfC qual scope s.heap.objs.size f cd :: outer
  ex := []
  calm := true
  fn := fun _ => true
  pn := []
  xe := fun e s' => wpAny (model P w) (A.deeper (envOfC qual scope s.heap.objs.size f cd)) (leaving (envOfC qual scope s.heap.objs.size f cd) e) (fun _ s'' => CX outer H s E e s'') (fun e' s'' => CX outer H s E e' s'') s'

theorem cell_has {sc : Scope} {n : Nat} {x : Str} (h : sc.names.lookup x = some .cell) : ∃ c, (cellsFrom n sc.names []).lookup x = some c := by
  have q := PySem.W.cellsFrom_some sc.names n [] (.inl h)
  exact Option.isSome_iff_exists.mp q

theorem inv_start {CX : CXT} {P : Program} {w : World} {K : PySem.W.Frag} {mg : Str → Option Value} {base : Heap} {N ps : List Str} {qual : Str} {scope : Scope} {f : Addr} {cd : Value} {A : Around} {outer : List Env} {s s1 : Shared} {H : Hp} {E : XK} {us : List Value} {vs : List V}
    (S : FnScope N ps scope) (hd : A.handled = none) (e0 : Env0 P w K mg base A outer s H) (hl : vs.length = ps.length) (r : Vals vs us)
    (x : InCallC s s.heap.objs.size (bindL (envOfC qual scope s.heap.objs.size f cd).kindOf (ps.zip us) fun _ => none) (cellsFrom (s.heap.objs.size + 1) scope.names []) (bindC (envOfC qual scope s.heap.objs.size f cd).kindOf (ps.zip us) fun _ => none) s1) :
    Inv (cxOf CX P w K mg base N qual scope f cd A outer s H E) [] (start N vs) H s1 := by
  have hpl : ps.length ≤ N.length := by have := congrArg List.length S.pre; rw [List.length_take] at this; omega
  obtain ⟨h1, tk, rfl, hk⟩ := x.done
  have noA : ∀ b : Addr, b ∉ (cxOf CX P w K mg base N qual scope f cd A outer s H E).ex := fun b z => absurd (show b ∈ ([] : List Addr) from z) (by simp)
  refine ⟨⟨e0.mod, S.kind, rfl, rfl, Nat.le_refl _, fun y z c h1 h2 => ?_, fun y hy => ?_, fun y c _ h => ?_, fun _ => hd, Around.frames_deeper e0.frames, .inr ⟨rfl, rfl⟩, fun b z => absurd z (noA b), e0.bs, e0.bsz, fun b _ _ => noA b, fun b z => absurd z (noA b), e0.funs, e0.frf⟩,
    rfl, e0.bare, Un.kept hk, ⟨_, x.toInCall.ns, fun i y v h1 h2 h3 => ?_⟩, fun y c h => ⟨_, x.cell y c h⟩, e0.hok.fresh (Nat.le_refl _), fun y c h => ?_, fun p hp => absurd (show p ∈ ([] : List (Addr × Obj)) from hp) (by simp), e0.hok.kept hk, ?_⟩
  · exact name_of_addr x.apart (PySem.mem_of_lookup h1) (PySem.mem_of_lookup h2)
  · have hy : scope.names.lookup y = some .cell ∨ scope.names.lookup y = some .free := hy
    rcases hy with hy | hy
    · exact cell_has hy
    · exact absurd rfl (S.nofree _ (PySem.mem_of_lookup hy))
  · exact Nat.le_of_lt (x.above y c (PySem.mem_of_lookup h))
  · have hi : i < vs.length := by
      unfold start at h2
      by_cases hi : i < vs.length
      · exact hi
      · rw [List.getElem?_append_right (by simpa using hi)] at h2
        rw [List.getElem?_replicate] at h2
        split at h2 <;> cases h2
    have ha : vs[i]? = some v := by
      unfold start at h2
      rw [List.getElem?_append_left (by simpa using hi), List.getElem?_map] at h2
      cases e : vs[i]? with
      | none => rw [e] at h2; cases h2
      | some a => rw [e] at h2; cases h2; rfl
    obtain ⟨u, hu, rv⟩ := r.get ha
    have hp : ps[i]? = some y := by
      rw [← S.pre, List.getElem?_take_of_lt (by omega)]; exact h1
    have ndP : ps.Nodup := by rw [← S.pre]; exact S.nd.sublist (List.take_sublist _ _)
    refine ⟨u, rv, ?_⟩
    rcases S.par y (List.mem_of_getElem? hp) with k | k
    · exact .inl ⟨k, bindL_get ndP hp hu k⟩
    · obtain ⟨c, e⟩ := cell_has (n := s.heap.objs.size + 1) k
      refine .inr ⟨.inl k, c, e, ?_⟩
      have q := x.cell y c e
      rw [bindC_get ndP hp hu (by show scope.names.lookup y ≠ _; rw [k]; decide)] at q
      exact q
  · exact e0.hok.fresh (Nat.le_of_lt (x.above y c (PySem.mem_of_lookup h)))
  · unfold start
    show _ = N.length
    rw [List.length_append, List.length_map, List.length_replicate]
    omega

/-- THE RULE: a def (or a method) of the text, by its body. The body's reading t is chosen for each entry; it is run at the parameters' values -/
theorem fn_of {CX : CXT} {P : Program} {w : World} {K : PySem.W.Frag} {mg : Str → Option Value} {base : Heap} {k : Nat} {f : Addr} {name qual : Str} {params : Arguments} {body : List Stmt} {scope : Scope} {dV kV doc pm cdv ct oc : Value} {an od : Option Addr}
    {osl : Array (Option Value)} {N ps : List Str} {sp : Sp} (lk : K.lookup f = some ⟨oc, od, .func (PySem.W.fnOf name qual params body scope dV kV doc pm an cdv ct), osl⟩) (hcd : PySem.W.codeIn K cdv qual = true) (S : FnScope N ps scope)
    (len : ∀ vs H Q E, sp vs H Q E → vs.length = ps.length)
    (hbody : ∀ (A : Around) (outer : List Env) (s : Shared) (H : Hp) (vs : List V) (Q : VK) (E : XK), Room k (A.deeper (envOfC qual scope s.heap.objs.size f cdv)) → sp vs H Q E →
      ∃ t, PSs (cxOf CX P w K mg base N qual scope f cdv A outer s H E) body t ∧ t { nx := fun _ H' => Q .non H', rt := Q } (start N vs) H) :
    FnOk P w K mg base CX (k + 1) f (PySem.W.fnOf name qual params body scope dV kV doc pm an cdv ct) ps sp := by
  refine ⟨len, fun A outer s H args us vs Q E hr e0 hb r hsp => ?_⟩
  have hl := len _ _ _ _ hsp
  have KX : K.In s.heap := e0.mod.kin.keeps fun b o e => (e0.bs b o e).1
  have lim : s.heap.NoLimit := e0.mod.nolimit.keeps fun b o e => (e0.bs b o e).1
  have hkind : ∀ y ∈ ps.zip us, scope.names.lookup y.1 = some .local ∨ (scope.names.lookup y.1 = some .cell ∧ ((cellsFrom (s.heap.objs.size + 1) scope.names []).lookup y.1).isSome = true) := fun ⟨n, v⟩ hy => by
    rcases S.par n (List.of_mem_zip hy).1 with q | q
    · exact .inl q
    · exact .inr ⟨q, PySem.W.cellsFrom_some _ _ _ (.inl q)⟩
  refine codeAny_call_function hr.depth (KX _ _ lk) rfl S.co S.gen rfl (PySem.W.codeRec_of KX hcd) (hb _ _ _ _ ?_)
  refine wpAny_newFunctionEnv_cells S.kind hkind fun env he s1 x => ?_
  subst he
  refine ⟨lim.keeps x.toInCall.keep, codeAny_func ?_⟩
  obtain ⟨t, ht, hq⟩ := hbody A outer s H vs Q E (hr.deeper _) hsp
  have I : Inv (cxOf CX P w K mg base N qual scope f cdv A outer s H E) [] (start N vs) H s1 := inv_start S hr.hd e0 hl r x
  refine wpAny_mono (ht [] s1 (start N vs) H _ I hq) (fun fl s' hs => ?_) fun e s' hs => hs
  have fin : ∀ {σ' : St} {H' : Hp} {v : V} {u : Value}, Inv (cxOf CX P w K mg base N qual scope f cdv A outer s H E) [] σ' H' s' → RelV v u → Q v H' → CE outer P w H s Q u s' :=
    fun {σ' H' v u} J rv q => ⟨v, H', J.os, J.bare, J.base, J.hok, rv, q⟩
  cases fl with
  | ret u =>
    obtain ⟨v, σ', H', J, rv, q⟩ := hs
    exact fin J rv q
  | next =>
    obtain ⟨σ', H', J, q⟩ := hs
    exact fin (v := V.non) (u := Value.none) J rfl q
  | brk =>
    obtain ⟨_, _, _, q⟩ := hs
    exact False.elim q
  | cont =>
    obtain ⟨_, _, _, q⟩ := hs
    exact False.elim q
end L2

namespace L2
open PySem PySem.Spec PyProof.Rows
section
variable {X : Cx} {x : Str} {p pos : Pos} {e : Expr} {es : List Expr} {t : TA} {id T : String} {r : List V → Hp → VK → Prop}

def tCB (r : List V → Hp → VK → Prop) (t : TA) : TE := fun σ H Q => t σ H fun vs H1 => r vs H1 Q
/-- f(e, ..), f a built-in function -/
theorem pe_callB (hc : CallR X (.builtin id) r) (hg : Gl X x) (hm : X.mg x = none) (hv : bootBuiltins x = some (.builtin id)) (ha : PA X (e :: es) t) (hn : x ≠ "__name__" := by decide) (hdb : (x == ("__debug__" : Str)) = false := by decide)
    (he : starEach (e :: es) X.env = (false, eval e X.env) :: starEach es X.env := by rfl) (hpl : (backTo pos (starEach es X.env)).any (·.1) = false := by rfl) : PE X (.Call (.Name x p) (e :: es) [] pos) (tCB r t) := by
  intro pins s σ H Q I h
  refine wpAny_Call_Name_kw (ld_blt I hg hm hv ?_ hn hdb)
  exact PyProof.Rows.callWith_builtin1 (thn (ha pos pins s σ H _ I h) fun us s1 ⟨vs, H1, I1, r1, q1⟩ => hc pins s1 σ H1 vs us Q I1 r1 q1) he hpl
/-- T(e, ..), T a built-in type -/
theorem pe_callTy (hc : CallR X (.type T) r) (hg : Gl X x) (hm : X.mg x = none) (hv : bootBuiltins x = some (.type T)) (ha : PA X (e :: es) t) (hn : x ≠ "__name__" := by decide) (hdb : (x == ("__debug__" : Str)) = false := by decide)
    (he : starEach (e :: es) X.env = (false, eval e X.env) :: starEach es X.env := by rfl) (hpl : (backTo pos (starEach es X.env)).any (·.1) = false := by rfl) : PE X (.Call (.Name x p) (e :: es) [] pos) (tCB r t) := by
  intro pins s σ H Q I h
  refine wpAny_Call_Name_kw (ld_blt I hg hm hv ?_ hn hdb)
  exact PyProof.Rows.callWith_type1 (thn (ha pos pins s σ H _ I h) fun us s1 ⟨vs, H1, I1, r1, q1⟩ => hc pins s1 σ H1 vs us Q I1 r1 q1) he hpl
end
end L2

namespace HT
open PySem PyProof.Rows



section
open PySem.SeqAt
open PySem.AutoSeq1 (wpAny_loadPart')
open PySem.MeetsSeq PySem.MeetsSeq2 PySem.MeetsSeq3

end

section
variable {prog : Program} {w : World} {A : Around} {E : Value → Shared → Prop} {s : Shared}



/-! ### t[a:b], not the whole -/
/-- a slice's bound as a place among n (d where it is left out) -/
def sIx (n d : Nat) : Option Int → Nat
  | none => d
  | some v => if v < 0 then (v + (n : Int)).toNat else min v.toNat n

end
end HT

namespace L2
open PySem PySem.Spec PyProof.Rows

/-! ### the parts of a slice -/
abbrev TO := St → Hp → (Option Int → Hp → Prop) → Prop
/-- a slice's part (left out, or an int) -/
def PO (X : Cx) (e : Option Expr) (t : TO) : Prop :=
  ∀ (pins : List (Addr × Obj)) (s : Shared) (σ : St) (H : Hp) (Q : Option Int → Hp → Prop), Inv X pins σ H s → t σ H Q →
    wpAny (model X.prog X.w) X.A (evalPart e X.env) (fun u s' => ∃ o H', Inv X pins σ H' s' ∧ IsPart u o ∧ Q o H') X.xe s
def tNoPart : TO := fun _ H Q => Q none H
def tPart (t : TE) : TO := fun σ H Q => t σ H fun x H1 => ∃ i, x = .int i ∧ Q (some i) H1

theorem intsAre_of {ns : List Int} : ∀ {us : List Value}, Vals (ns.map V.int) us → IntsAre us ns := by
  induction ns with
  | nil => intro us r; rw [List.map_nil] at r; cases r; exact .nil
  | cons n ns ih =>
    intro us r
    rw [List.map_cons] at r
    cases r with
    | cons r1 r2 =>
      obtain ⟨t, e⟩ := r1
      subst e
      exact .cons n t (ih r2)

section
variable {X : Cx} {e : Expr} {te : TE} {lo hi : Option Expr} {tl th : TO} {pos p2 : Pos}

theorem po_none : PO X none tNoPart := by
  intro pins s σ H Q I h
  rw [evalPart_none]
  exact wpAny_pure ⟨none, H, I, .none, h⟩
theorem po_some (h : PE X e te) : PO X (some e) (tPart te) := by
  intro pins s σ H Q I hw
  rw [evalPart_some]
  refine thn (h pins s σ H _ I hw) fun u s1 ⟨x, H1, I1, r1, q1⟩ => ?_
  obtain ⟨i, rfl, q⟩ := q1
  obtain ⟨t, rfl⟩ := r1
  exact ⟨some i, H1, I1, .int i t, q⟩

/-- what a slice of a value is, by values: the slice object stands at sl -/
def SlR (X : Cx) (r : V → Option Int → Option Int → Hp → VK → Prop) : Prop :=
  ∀ (pins : List (Addr × Obj)) (s : Shared) (σ : St) (H : Hp) (x : V) (v vl vu : Value) (lo hi : Option Int) (sl : Addr) (Q : VK), Inv X pins σ H s → RelV x v → s.heap.IsSliceOf sl vl vu .none → IsPart vl lo → IsPart vu hi → r x lo hi H Q →
    ∃ T id, typeLookup (.type T) "__getitem__" = pure (some (.builtin id)) ∧ s.TypeIs v T ∧ wpAny (model X.prog X.w) X.A (getItem v (.ref sl)) (EP X pins σ Q) X.xe s
def tSl (r : V → Option Int → Option Int → Hp → VK → Prop) (te : TE) (tl th : TO) : TE := fun σ H Q => te σ H fun x H1 => tl σ H1 fun l H2 => th σ H2 fun u H3 => r x l u H3 Q
/-- a[lo:hi], any a -/
theorem pe_slice {r : V → Option Int → Option Int → Hp → VK → Prop} (hr : SlR X r) (he : PE X e te) (hl : PO X lo tl) (hu : PO X hi th) : PE X (.Subscript e (.Slice lo hi none p2) pos) (tSl r te tl th) := by
  intro pins s σ H Q I h
  refine Subscript_ (thn (he pins s σ H _ I h) fun v s1 ⟨x, H1, I1, r1, q1⟩ => ?_)
  refine wpAny_Slice (thn (hl pins s1 σ H1 _ I1 q1) fun vl s2 ⟨l, H2, I2, pl, q2⟩ => thn (hu pins s2 σ H2 _ I2 q2) fun vu s3 ⟨u, H3, I3, pu, q3⟩ => ?_)
  rw [evalPart_none]
  refine wpAny_pure ?_
  have I4 : Inv X pins σ H3 { s3 with heap := s3.heap.push { cls := .type "slice", data := .fields #[vl, vu, .none] } } := I3.kept (t' := s3.toks) fun b ob q => Heap.get?_push_of_some _ q
  obtain ⟨T, id, hT, ht, hg⟩ := hr pins { s3 with heap := s3.heap.push { cls := .type "slice", data := .fields #[vl, vu, .none] } } σ H3 x v vl vu l u s3.heap.objs.size Q I4 r1 (Heap.IsSliceOf.new ..) pl pu q3
  show wpAny (model X.prog X.w) X.A (subscriptTail e (.Slice lo hi none p2) v (.ref s3.heap.objs.size)) (EP X pins σ Q) X.xe { s3 with heap := s3.heap.push { cls := .type "slice", data := .fields #[vl, vu, .none] } }
  exact tail_any (ops := [.ref s3.heap.objs.size, v]) ht hT hg (by with_unfolding_all rfl)

/-- the items of xs[lo:hi] -/
def cutV (xs : List V) (lo hi : Option Int) : List V := (xs.drop (HT.sIx xs.length 0 lo)).take (HT.sIx xs.length xs.length hi - HT.sIx xs.length 0 lo)
theorem cutV_length (xs : List V) (lo hi : Option Int) : (cutV xs lo hi).length ≤ xs.length := by
  unfold cutV
  rw [List.length_take, List.length_drop]
  omega

/-! ### t < u, t + u -/
end
end L2

namespace L2
open PySem PySem.Spec PyProof.Rows

/-! ### places -/
/-- the place that an index of any sign means -/
def ixN (n : Nat) (i : Int) : Option Nat := if 0 ≤ i then (if i < n then some i.toNat else none) else if -(n : Int) ≤ i then some (i + n).toNat else none
def atI {α : Type} (xs : List α) (i : Int) : Option α := (ixN xs.length i).bind fun j => xs[j]?
theorem ixN_seq {n : Nat} {i : Int} {j : Nat} (h : ixN n i = some j) : seqIndex? i n = some j ∧ j < n ∧ -(n : Int) ≤ i ∧ i < n := by
  unfold ixN at h
  by_cases h0 : 0 ≤ i
  · rw [if_pos h0] at h
    by_cases h1 : i < n
    · rw [if_pos h1] at h
      have e : i.toNat = j := Option.some.inj h
      exact ⟨by rw [seqIndex_of h0 h1, e], by omega, by omega, h1⟩
    · rw [if_neg h1] at h; cases h
  · rw [if_neg h0] at h
    by_cases h1 : -(n : Int) ≤ i
    · rw [if_pos h1] at h
      have e : (i + n).toNat = j := Option.some.inj h
      exact ⟨by rw [seqIndex_neg (by omega) h1, e], by omega, h1, by omega⟩
    · rw [if_neg h1] at h; cases h
theorem atI_get {α : Type} {xs : List α} {i : Int} {v : α} (h : atI xs i = some v) : ∃ j, seqIndex? i xs.length = some j ∧ xs[j]? = some v ∧ j < xs.length ∧ -(xs.length : Int) ≤ i ∧ i < xs.length := by
  unfold atI at h
  cases e : ixN xs.length i with
  | none => rw [e] at h; cases h
  | some j =>
    rw [e] at h
    obtain ⟨h1, h2, h3, h4⟩ := ixN_seq e
    exact ⟨j, h1, h, h2, h3, h4⟩
theorem atI_nat {α : Type} {xs : List α} {j : Nat} {v : α} (h : xs[j]? = some v) : atI xs (j : Int) = some v := by
  have hj : j < xs.length := (List.getElem?_eq_some_iff.mp h).1
  have e : ixN xs.length (j : Int) = some j := by
    unfold ixN
    rw [if_pos (by omega), if_pos (by omega)]; simp
  unfold atI; rw [e]; exact h

/-! ### what may be subscripted -/
/-- what stands as an index of a plain subscript -/
def PlainIx (b : Expr) : Prop := ∀ o i, subscripted b false o i = operate [o, i] (getItem o i)
/-- a subscript by values -/
def IxR (X : Cx) (r : R2) : Prop :=
  ∀ (value slice : Expr) (pins : List (Addr × Obj)) (s : Shared) (σ : St) (H : Hp) (x y : V) (v u : Value) (Q : VK), Inv X pins σ H s → RelV x v → RelV y u → r x y H Q →
    subscripted slice false v u = operate [v, u] (getItem v u) → wpAny (model X.prog X.w) X.A (subscriptTail value slice v u) (EP X pins σ Q) X.xe s
/-- a call of a builtin's method by values: the receiver, the arguments -/
def MtR (X : Cx) (id : String) (r : V → List V → Hp → VK → Prop) : Prop :=
  ∀ (pins : List (Addr × Obj)) (s : Shared) (σ : St) (H : Hp) (x : V) (xs : List V) (v : Value) (us : List Value) (Q : VK), Inv X pins σ H s → RelV x v → Vals xs us → r x xs H Q →
    wpAny (model X.prog X.w) X.A (call (.builtin id) (v :: us)) (EP X pins σ Q) X.xe s
section
variable {X : Cx} {a b : Expr} {ta tb : TE} {pos : Pos}
/-- a[b] -/
theorem pe_ix {r : R2} (hr : IxR X r) (ha : PE X a ta) (hb : PE X b tb) (hs : PlainIx b) : PE X (.Subscript a b pos) (tOp r ta tb) := by
  intro pins s σ H Q I h
  exact Subscript_ (binT ha hb I h fun v u s2 x y H2 I2 rx ry q => hr a b pins s2 σ H2 x y v u Q I2 rx ry q (hs _ _))

def rIxL (K : PySem.W.Frag) : R2 := fun x y H Q => ∃ p xs i v, x = .ref p ∧ y = .int i ∧ SqL K H p xs ∧ atI xs i = some v ∧ Q v H
def rIxT (K : PySem.W.Frag) : R2 := fun x y H Q => ∃ p xs i v, x = .ref p ∧ y = .int i ∧ SqT K H p xs ∧ atI xs i = some v ∧ Q v H
theorem ix_list : IxR X (rIxL X.K) := by
  intro value slice pins s σ H x y v u Q I rx ry h hs
  obtain ⟨p, xs, i, z, rfl, rfl, hq, he, q⟩ := h
  cases rx
  obtain ⟨t, rfl⟩ := ry
  obtain ⟨its, r, pl, hz⟩ := I.list hq
  obtain ⟨j, h1, h2, h3, h4, h5⟩ := atI_get he
  obtain ⟨w, ew, rw'⟩ := r.get h2
  have hl := r.length
  have hn := line63
  have fin : EP X pins σ Q w s := ⟨z, H, I, rw', q⟩
  by_cases h0 : 0 ≤ i
  · have hj : i.toNat = j := by
      rw [seqIndex_of h0 h5] at h1
      exact Option.some.inj h1
    exact item_listR pl.isList h0 (by omega) (by rw [hj]; simpa using ew) fin hs
  · have hj : (i + (its.toArray.size : Int)).toNat = j := by
      rw [seqIndex_neg (by omega) h4] at h1
      rw [List.size_toArray, ← hl]
      exact Option.some.inj h1
    exact subscriptTail_builtinR (x := w) pl.isList.typeIs slot_list_getitem.lookup
      (wpAny_getItem_list_neg (Q := fun r s' => r = w ∧ EP X pins σ Q r s') pl.isList (by omega) (by rw [List.size_toArray] <;> omega) (by omega) (by rw [hj]; simpa using ew) ⟨rfl, fin⟩) hs
theorem ix_tup : IxR X (rIxT X.K) := by
  intro value slice pins s σ H x y v u Q I rx ry h hs
  obtain ⟨p, xs, i, z, rfl, rfl, hq, he, q⟩ := h
  cases rx
  obtain ⟨t, rfl⟩ := ry
  obtain ⟨its, r, pl, hz⟩ := I.tuple hq
  obtain ⟨j, h1, h2, h3, h4, h5⟩ := atI_get he
  obtain ⟨w, ew, rw'⟩ := r.get h2
  have hl := r.length
  have hn := line63
  have fin : EP X pins σ Q w s := ⟨z, H, I, rw', q⟩
  exact subscriptTail_builtinR (x := w) pl.typeIs slot_tuple_getitem.lookup
    (getItem_tuple (j := j) (Q := fun r s' => r = w ∧ EP X pins σ Q r s') pl (by omega) (by omega) (by rw [List.size_toArray, ← hl]; exact h1) (by simpa using ew) ⟨rfl, fin⟩) hs

/-! ### xs[i] = v, any sign -/
theorem Inv.lst {pins : List (Addr × Obj)} {σ : St} {H : Hp} {s : Shared} {p : Addr} {xs : List V} (I : Inv X pins σ H s) (h : H p = some (.lst xs)) :
    ∃ (its : List Value) (n : Nat), Vals xs its ∧ s.heap.get? p = some { cls := .type "list", data := .seq its.toArray n } ∧ xs.length ≤ sizeLine := by
  obtain ⟨z, its, n, r, e⟩ := I.hok p _ h
  exact ⟨its, n, r, e, z⟩

/-! ### slices -/
theorem slice_bounds (lo hi : Option Int) (n : Nat) : (sliceBounds lo hi none n).1 = ((HT.sIx n 0 lo : Nat) : Int) ∧ (sliceBounds lo hi none n).2.1 = ((HT.sIx n n hi : Nat) : Int) ∧ (sliceBounds lo hi none n).2.2 = 1 := by
  refine ⟨?_, ?_, rfl⟩
  · cases lo with
    | none => simp [sliceBounds, HT.sIx]
    | some i =>
      simp only [sliceBounds, HT.sIx, Option.getD_none, show (1 : Int) > 0 by decide, if_true]
      by_cases h : i < 0
      · simp only [h, if_true] <;> omega
      · simp only [h, if_false] <;> omega
  · cases hi with
    | none => simp [sliceBounds, HT.sIx]
    | some i =>
      simp only [sliceBounds, HT.sIx, Option.getD_none, show (1 : Int) > 0 by decide, if_true]
      by_cases h : i < 0
      · simp only [h, if_true] <;> omega
      · simp only [h, if_false] <;> omega
theorem slicePick_cut (its : List Value) (lo hi : Option Int) : slicePick its.toArray lo hi none = ((its.drop (HT.sIx its.length 0 lo)).take (HT.sIx its.length its.length hi - HT.sIx its.length 0 lo)).toArray := by
  obtain ⟨h1, h2, h3⟩ := slice_bounds lo hi its.toArray.size
  unfold slicePick
  rw [h1, h2, h3]
  simp only [sliceRange_one, pick_run, List.size_toArray] <;> rfl
/-- xs[lo:hi] of a list: a new list -/
def rSlL (K : PySem.W.Frag) : V → Option Int → Option Int → Hp → VK → Prop := fun x lo hi H Q => ∃ a xs, x = .ref a ∧ SqL K H a xs ∧ ∀ p, H p = none → Q (.ref p) (upd H p (.lst (cutV xs lo hi)))
theorem sl_list : SlR X (rSlL X.K) := by
  intro pins s σ H x v vl vu lo hi sl Q I rx hs pl pu h
  obtain ⟨a, xs, rfl, hx, q⟩ := h
  cases rx
  obtain ⟨its, r, ht, hz⟩ := I.list hx
  have hlen := r.length
  refine ⟨"list", _, slot_list_getitem.lookup, ht.isList.typeIs, ?_⟩
  refine wpAny_getItem_list_slice ht.isList hs pl pu .none (by simp) ?_ (by rw [List.size_toArray] <;> omega)
  rw [slicePick_cut, ← hlen]
  refine ⟨.ref s.heap.objs.size, _, I.laid (t' := s.toks) (o := .lst (cutV xs lo hi)) (fun b ob q => Heap.get?_push_of_some _ q) (Nat.le_refl _) ?_, rfl, q _ (I.hok.fresh (Nat.le_refl _))⟩
  exact ⟨Nat.le_trans (cutV_length xs lo hi) hz, _, 0, (r.drop (HT.sIx xs.length 0 lo)).take (HT.sIx xs.length xs.length hi - HT.sIx xs.length 0 lo), Heap.get?_push_size _ rfl⟩

/-! ### in, not in: flat items -/
def flatV : V → Bool
  | .non => true
  | .bl _ => true
  | .int _ => true
  | .str _ => true
  | _ => false
/-- == of flat values -/
def eqV : V → V → Bool
  | .non, .non => true
  | .bl a, .bl b => a == b
  | .bl a, .int b => (if a then 1 else 0) == b
  | .int a, .bl b => a == (if b then 1 else 0)
  | .int a, .int b => a == b
  | .str a, .str b => a == b
  | _, _ => false
theorem eqAt_V {A : Around} {s : Shared} {y x : V} {u v : Value} (ry : RelV y u) (rx : RelV x v) (fy : flatV y = true) (fx : flatV x = true) : SeqAt.EqAt A s u v (eqV y x) := by
  cases y with
  | non =>
    cases ry
    cases x with
    | non => cases rx; exact SeqAt.EqAt.same _
    | bl b => cases rx; exact SeqAt.EqAt.none_bool b
    | int b => obtain ⟨t, rfl⟩ := rx; exact SeqAt.EqAt.none_int b t
    | str b => obtain ⟨t, rfl⟩ := rx; exact SeqAt.EqAt.none_str b t
    | _ => exact absurd (show false = true from fx) Bool.false_ne_true
  | bl a =>
    cases ry
    cases x with
    | non => cases rx; exact SeqAt.EqAt.bool_none a
    | bl b => cases rx; exact SeqAt.EqAt.bool_bool a b
    | int b => obtain ⟨t, rfl⟩ := rx; exact SeqAt.EqAt.bool_int a b t
    | str b => obtain ⟨t, rfl⟩ := rx; exact SeqAt.EqAt.bool_str a b t
    | _ => exact absurd (show false = true from fx) Bool.false_ne_true
  | int a =>
    obtain ⟨t', rfl⟩ := ry
    cases x with
    | non => cases rx; exact SeqAt.EqAt.int_none a t'
    | bl b => cases rx; exact SeqAt.EqAt.int_bool a t' b
    | int b => obtain ⟨t, rfl⟩ := rx; exact SeqAt.EqAt.int_int a t' b t
    | str b => obtain ⟨t, rfl⟩ := rx; exact SeqAt.EqAt.int_str a t' b t
    | _ => exact absurd (show false = true from fx) Bool.false_ne_true
  | str a =>
    obtain ⟨t', rfl⟩ := ry
    cases x with
    | non => cases rx; exact SeqAt.EqAt.str_none a t'
    | bl b => cases rx; exact SeqAt.EqAt.str_bool a t' b
    | int b => obtain ⟨t, rfl⟩ := rx; exact SeqAt.EqAt.str_int a t' b t
    | str b => obtain ⟨t, rfl⟩ := rx; exact SeqAt.EqAt.str_str a t' b t
    | _ => exact absurd (show false = true from fx) Bool.false_ne_true
  | _ => exact absurd (show false = true from fy) Bool.false_ne_true
/-- the items' answers, read off the values (a value's own answer does not lean on its token) -/
def eqU (x : V) (u : Value) : Bool := match u with
  | .none => eqV .non x
  | .bool b => eqV (.bl b) x
  | .int i _ => eqV (.int i) x
  | .str z _ => eqV (.str z) x
  | _ => false
theorem eqU_of {x y : V} {u : Value} (r : RelV y u) (f : flatV y = true) : eqU x u = eqV y x := by
  cases y with
  | non => cases r; rfl
  | bl b => cases r; rfl
  | int i => obtain ⟨t, rfl⟩ := r; rfl
  | str z => obtain ⟨t, rfl⟩ := r; rfl
  | _ => exact absurd (show false = true from f) Bool.false_ne_true
theorem any_eqU {x : V} : ∀ {xs : List V} {us : List Value}, Vals xs us → xs.all flatV = true → us.any (eqU x) = xs.any fun y => eqV y x
  | _, _, .nil, _ => rfl
  | y :: xs, u :: us, .cons r t, f => by
    rw [List.all_cons, Bool.and_eq_true] at f
    rw [List.any_cons, List.any_cons, eqU_of r f.1, any_eqU t f.2]
theorem mem_eqAt {A : Around} {s : Shared} {x : V} {v : Value} (rx : RelV x v) (fx : flatV x = true) : ∀ {xs : List V} {us : List Value}, Vals xs us → xs.all flatV = true → ∀ u ∈ us, SeqAt.EqAt A s u v (eqU x u)
  | _, _, .nil, _ => fun u hu => by cases hu
  | y :: xs, u :: us, .cons r t, f => fun u' hu => by
    rw [List.all_cons, Bool.and_eq_true] at f
    rcases List.mem_cons.mp hu with rfl | hu
    · rw [eqU_of r f.1]; exact eqAt_V r rx f.1 fx
    · exact mem_eqAt rx fx t f.2 u' hu
def inV (x : V) (xs : List V) : Bool := xs.any fun y => eqV y x
/-- x in a list or tuple of flat items -/
def rIn (K : PySem.W.Frag) (neg : Bool) : R2 := fun x y H Q => ∃ p xs, y = .ref p ∧ (SqL K H p xs ∨ SqT K H p xs) ∧ flatV x = true ∧ xs.all flatV = true ∧ Q (.bl (if neg then !inV x xs else inV x xs)) H
theorem op_notIn_seq : OpR X (compareOp .NotIn) (rIn X.K true) := by
  intro pins s σ H x y v u Q I rx ry h
  obtain ⟨p, xs, rfl, hq, fx, fs, q⟩ := h
  cases ry
  rcases hq with hq | hq
  · obtain ⟨its, r, pl, hz⟩ := I.list hq
    refine SeqAt.notIn_listAt (eqU x) pl.isList (fun w hw => mem_eqAt rx fx r fs w (by simpa using hw)) ⟨.bl _, H, I, rfl, ?_⟩
    rw [show its.toArray.any (eqU x) = its.any (eqU x) by simp, any_eqU r fs]
    exact q
  · obtain ⟨its, r, pl, hz⟩ := I.tuple hq
    refine SeqAt.notIn_tupleAt (eqU x) pl (fun w hw => mem_eqAt rx fx r fs w (by simpa using hw)) ⟨.bl _, H, I, rfl, ?_⟩
    rw [show its.toArray.any (eqU x) = its.any (eqU x) by simp, any_eqU r fs]
    exact q

/-! ### len, list(x), tuple(x) of any list or tuple that is read -/
theorem call_len_seq : CallR X (.builtin "len") (fun xs H Q => ∃ p ys, xs = [.ref p] ∧ (SqL X.K H p ys ∨ SqT X.K H p ys) ∧ Q (.int ys.length) H) := by
  intro pins s σ H xs us Q I r h
  obtain ⟨p, ys, rfl, hq, q⟩ := h
  obtain ⟨u, rfl, rx⟩ := vals1 r
  cases rx
  have hn := line63
  rcases hq with hq | hq
  · obtain ⟨its, r', pl, hz⟩ := I.list hq
    have hlen := r'.length
    exact Calls.call_len_list pl.isList (by simp only [List.size_toArray] <;> omega) ⟨.int ys.length, H, I.tok _, ⟨s.toks + 1, by rw [List.size_toArray, hlen]⟩, q⟩
  · obtain ⟨its, r', pl, hz⟩ := I.tuple hq
    have hlen := r'.length
    exact len_tuple pl (by simp only [List.size_toArray] <;> omega) ⟨.int ys.length, H, I.tok _, ⟨s.toks + 1, by rw [List.size_toArray, hlen]⟩, q⟩
theorem call_list_of : CallR X (.type "list") (fun xs H Q => ∃ p ys, xs = [.ref p] ∧ (SqL X.K H p ys ∨ SqT X.K H p ys) ∧ ∀ l, H l = none → Q (.ref l) (upd H l (.lst ys))) := by
  intro pins s σ H xs us Q I r h
  obtain ⟨p, ys, rfl, hq, q⟩ := h
  obtain ⟨u, rfl, rx⟩ := vals1 r
  cases rx
  have fin : ∀ (its : List Value), Vals ys its → ys.length ≤ sizeLine → ∀ (h' : Heap) (c' : Nat), (∀ b o', s.heap.get? b = some o' → h'.get? b = some o') →
      h'.get? s.heap.objs.size = some { cls := .type "list", dict := none, data := .seq its.toArray c', slots := #[] } → EP X pins σ Q (.ref s.heap.objs.size) { s with heap := h' } := fun its r' hz h' c' kp e =>
    ⟨.ref s.heap.objs.size, _, I.laid (t' := s.toks) kp (Nat.le_refl _) (show ObjOk X.prog X.w _ h' _ (.lst ys) from ⟨hz, its, c', r', e⟩), rfl, q _ (I.hok.fresh (Nat.le_refl _))⟩
  rcases hq with hq | hq
  · obtain ⟨its, r', pl, hz⟩ := I.list hq
    have hlen := r'.length
    obtain ⟨o, ho, hc, n, hd⟩ := pl.isList
    exact call_list_seq p (.inl rfl) ho hc hd (fun h' c' kp e => fin its r' hz h' c' kp e) (by simp only [List.size_toArray] <;> omega)
  · obtain ⟨its, r', pl, hz⟩ := I.tuple hq
    have hlen := r'.length
    obtain ⟨o, ho, hc, n, hd⟩ := pl
    exact call_list_seq p (.inr rfl) ho hc hd (fun h' c' kp e => fin its r' hz h' c' kp e) (by simp only [List.size_toArray] <;> omega)

/-! ### the call of a builtin's method: o.m(..) -/
/-- the value is of that builtin type -/
def tyV (K : PySem.W.Frag) (T : String) (x : V) (H : Hp) : Prop := match x with
  | .str _ => T = "str"
  | .int _ => T = "int"
  | .ref p => (T = "list" ∧ ∃ xs, SqL K H p xs) ∨ (T = "tuple" ∧ ∃ o, K.lookup p = some o ∧ o.cls = .type "tuple" ∧ o.dict = none) ∨
      (T = "dict" ∧ ((∃ kvs, H p = some (.dK kvs)) ∨ ∃ kvs, H p = some (.dT kvs))) ∨ (T = "set" ∧ ∃ S n, H p = some (.set S n))
  | _ => False
theorem tyV_is {pins : List (Addr × Obj)} {σ : St} {H : Hp} {s : Shared} {T : String} {x : V} {v : Value} (I : Inv X pins σ H s) (r : RelV x v) (ty : tyV X.K T x H) :
    s.TypeIs v T ∧ ∀ a, v = .ref a → ∃ ob, s.heap.get? a = some ob ∧ ob.dict = none := by
  cases x with
  | str z =>
    obtain ⟨t, rfl⟩ := r
    cases (show T = "str" from ty)
    exact ⟨typeIs_str s z t, fun _ e => nomatch e⟩
  | int i =>
    obtain ⟨t, rfl⟩ := r
    cases (show T = "int" from ty)
    exact ⟨typeIs_int s i t, fun _ e => nomatch e⟩
  | ref p =>
    cases r
    rcases ty with ⟨rfl, xs, hq⟩ | ⟨rfl, o, hk, hc, hd⟩ | ⟨rfl, hk⟩ | ⟨rfl, S, n, hk⟩
    · obtain ⟨its, _, pl, _⟩ := I.list hq
      refine ⟨pl.isList.typeIs, fun a e => ?_⟩
      cases e
      obtain ⟨o, n, e, c, hd, _⟩ := pl
      exact ⟨o, e, hd⟩
    · refine ⟨⟨o, I.kIn p o hk, hc⟩, fun a e => ?_⟩
      cases e
      exact ⟨o, I.kIn _ o hk, hd⟩
    · have z : ∃ o, s.heap.get? p = some o ∧ o.ExactDict := by
        rcases hk with ⟨kvs, hk⟩ | ⟨kvs, hk⟩
        · obtain ⟨_, _, _, _, o, _, _, e, ex, _⟩ := I.hok p _ hk
          exact ⟨o, e, ex⟩
        · obtain ⟨_, _, _, _, o, _, _, e, ex, _⟩ := I.hok p _ hk
          exact ⟨o, e, ex⟩
      obtain ⟨o, e, ex⟩ := z
      refine ⟨⟨o, e, ex.1⟩, fun a e2 => ?_⟩
      cases e2
      exact ⟨o, e, ex.2.1⟩
    · obtain ⟨o, _, _, _, e, ex, _⟩ := I.hok p _ hk
      refine ⟨⟨o, e, ex.1⟩, fun a e2 => ?_⟩
      cases e2
      exact ⟨o, e, ex.2.1⟩
  | _ => exact False.elim ty
def tBM0 (K : PySem.W.Frag) (T : String) (r : V → List V → Hp → VK → Prop) (to : TE) : TE := fun σ H Q => to σ H fun x H1 => tyV K T x H1 ∧ r x [] H1 Q
def tBM (K : PySem.W.Frag) (T : String) (r : V → List V → Hp → VK → Prop) (to : TE) (t : TA) : TE := fun σ H Q => to σ H fun x H1 => tyV K T x H1 ∧ t σ H1 fun xs H2 => r x xs H2 Q
variable {o e : Expr} {es : List Expr} {to : TE} {t : TA} {name : Str} {apos cpos : Pos} {T id : String} {r : V → List V → Hp → VK → Prop}
theorem pe_bm0 (pa : PlainAttrs T) (slot : Slot T name id) (hty : typeOf (.builtin id) = pure (.type "method_descriptor")) (hm : MtR X id r) (ho : PE X o to)
    (hbase : attributeBase o name X.env (eval o X.env) = eval o X.env := by rfl) (hline : (apos.endLine == cpos.line) = true := by rfl) : PE X (.Call (.Attribute o name apos) [] [] cpos) (tBM0 X.K T r to) := by
  intro pins s σ H Q I h
  refine wpAny_Call_method0_late hbase hline (thn (ho pins s σ H _ I h) fun v s1 ⟨x, H1, I1, r1, ty, q1⟩ => ?_)
  obtain ⟨h1, h2⟩ := tyV_is I1 r1 ty
  exact ⟨T, id, pa, slot, hty, h1, h2, Calls.callWith_builtin rfl (PySem.evalArgs_none (hm pins s1 σ H1 x [] v [] Q I1 r1 .nil q1))⟩
theorem pe_bm (pa : PlainAttrs T) (slot : Slot T name id) (hty : typeOf (.builtin id) = pure (.type "method_descriptor")) (hm : MtR X id r) (ho : PE X o to) (ha : PA X (e :: es) t)
    (hbase : attributeBase o name X.env (eval o X.env) = eval o X.env := by rfl)
    (hfew : ((backTo cpos (starEach (e :: es) X.env)).all (fun x => !x.1) && (backToKw cpos (keywordEach [] X.env)).all (fun x => x.1.isSome)
      && decide ((e :: es).length + ([] : List Keyword).length + (if ([] : List Keyword).isEmpty then 0 else 1) < 30)) = true := by rfl)
    (hline : (apos.endLine == cpos.line) = true := by rfl) (hs : starEach (e :: es) X.env = (false, eval e X.env) :: starEach es X.env := by rfl) (hplain : (backTo cpos (starEach es X.env)).any (·.1) = false := by rfl) :
    PE X (.Call (.Attribute o name apos) (e :: es) [] cpos) (tBM X.K T r to t) := by
  intro pins s σ H Q I h
  refine wpAny_Call_method_late hbase hfew hline rfl (thn (ho pins s σ H _ I h) fun v s1 ⟨x, H1, I1, r1, ty, q1⟩ => ?_)
  obtain ⟨h1, h2⟩ := tyV_is I1 r1 ty
  refine ⟨T, id, pa, slot, hty, h1, h2, ?_⟩
  have hA := ha cpos pins s1 σ H1 _ I1 q1
  rw [hs] at hA ⊢
  refine Calls.callWith_builtin (by show (false || (backTo cpos (starEach es X.env)).any (·.1)) = false; rw [hplain] <;> rfl) (Calls.evalArgs_plain ?_)
  exact thn hA fun us s2 ⟨vs, H2, I2, r2, q2⟩ => hm pins s2 σ H2 x vs v us Q I2 r1 r2 q2
/- xs.append(e), list.index on a module's tuple .. are MtR facts of 06m -/
end
end L2

namespace L2
open PySem PySem.Spec PyProof.Rows

def MtM (X : Cx) (id : String) (r : V → List V → Hp → VK → Prop) : Prop :=
  ∀ (pins : List (Addr × Obj)) (s : Shared) (σ : St) (H : Hp) (x : V) (xs : List V) (v : Value) (us : List Value) (Q : VK), Inv X pins σ H s → RelV x v → Vals xs us → r x xs H Q →
    wpAny (model X.prog X.w) X.A (call (.builtin id) (v :: us)) (EP X pins σ Q) X.xe s

/-! ### lists of values -/
theorem Vals.one : ∀ {x : V} {us : List Value}, Vals [x] us → ∃ u, us = [u] ∧ RelV x u
  | _, _, .cons r .nil => ⟨_, rfl, r⟩
theorem Vals.zero : ∀ {us : List Value}, Vals [] us → us = []
  | _, .nil => rfl
theorem Vals.dropLast {xs : List V} {us : List Value} (h : Vals xs us) : Vals xs.dropLast us.dropLast := by
  induction h with
  | nil => exact .nil
  | cons r t ih =>
    cases t with
    | nil => exact .nil
    | cons q t' => exact .cons r ih
theorem Vals.rep {xs : List V} {us : List Value} (h : Vals xs us) : ∀ k : Nat, Vals (List.replicate k xs).flatten (List.replicate k us).flatten
  | 0 => .nil
  | k + 1 => by
    rw [List.replicate_succ, List.replicate_succ, List.flatten_cons, List.flatten_cons]
    exact Vals.append h (Vals.rep h k)
theorem erase_last {α : Type} (l : List α) : l.eraseIdx (l.length - 1) = l.dropLast := by
  induction l with
  | nil => rfl
  | cons a r ih =>
    cases r with
    | nil => rfl
    | cons b r =>
      have e : (a :: b :: r).length - 1 = ((b :: r).length - 1) + 1 := by
        have h1 : (a :: b :: r).length = r.length + 2 := rfl
        have h2 : (b :: r).length = r.length + 1 := rfl
        omega
      rw [e, List.eraseIdx_cons_succ, ih]
      all_goals rfl
theorem foldl_rep (its : List Value) : ∀ (k : Nat) (acc : List Value),
    List.foldl (fun x1 x2 => x1 ++ x2) acc.toArray (List.replicate k its.toArray) = (acc ++ (List.replicate k its).flatten).toArray
  | 0, acc => by simp
  | k + 1, acc => by
    have e : acc.toArray ++ its.toArray = (acc ++ its).toArray := by simp
    have e2 : (acc ++ its) ++ (List.replicate k its).flatten = acc ++ (List.replicate (k + 1) its).flatten := by
      rw [List.replicate_succ, List.flatten_cons, List.append_assoc]
    rw [← e2, ← foldl_rep its k (acc ++ its), ← e, List.replicate_succ, List.foldl_cons]

section
variable {X : Cx} {pins : List (Addr × Obj)} {σ : St} {H : Hp} {s : Shared} {l b : Addr} {xs ys zs : List V}

/-! ### the two steps: a tracked list is rewritten, a new list is laid -/
theorem Inv.lset {its its' : List Value} {n : Nat} {f : Array Value → Array Value} {t' : Nat} (I : Inv X pins σ H s) (hH : H l = some (.lst xs))
    (e : s.heap.get? l = some { cls := .type "list", data := .seq its.toArray n }) (hf : f its.toArray = its'.toArray) (hv : Vals ys its') (hz : ys.length ≤ sizeLine) :
    Inv X pins σ (upd H l (.lst ys)) { s with heap := s.heap.update l (Obj.mapSeq f), toks := t' } := by
  have q := PySem.IsL.update e f
  rw [hf] at q
  refine I.write (x := l) (e := l) (by rw [hH]; exact trivial) (.inl rfl) (fun b' u hb hu => (Heap.get?_update_other s.heap (Obj.mapSeq f) (Ne.symm hb)).trans hu) ⟨_, q⟩ ?_
  exact ⟨hz, its', _, hv, q⟩
theorem Inv.lnew {its : List Value} {t' : Nat} (I : Inv X pins σ H s) (hv : Vals ys its) (hz : ys.length ≤ sizeLine) :
    Inv X pins σ (upd H s.heap.objs.size (.lst ys)) { s with heap := s.heap.push { cls := .type "list", data := .seq its.toArray }, toks := t' } :=
  I.laid (fun _ _ q => Heap.get?_push_of_some _ q) (Nat.le_refl _) ⟨hz, its, 0, hv, Heap.get?_push_size _ rfl⟩
theorem Inv.fresh (I : Inv X pins σ H s) : H s.heap.objs.size = none := I.hok.fresh (Nat.le_refl _)
theorem Inv.lstM (I : Inv X pins σ H s) (hH : H l = some (.lst xs)) : xs.length ≤ sizeLine ∧ ∃ (its : List Value) (n : Nat), Vals xs its ∧ xs.length = its.length ∧ s.heap.get? l = some { cls := .type "list", data := .seq its.toArray n } := by
  obtain ⟨z, its, n, r, e⟩ := I.hok l _ hH
  exact ⟨z, its, n, r, r.length, e⟩

theorem notLongL {n : Nat} (h : n ≤ sizeLine) : Builtin.List.listTooLong n = false := by
  unfold Builtin.List.listTooLong
  exact decide_eq_false (by omega)
end

section
variable {X : Cx}

/-! ### methods -/
def rAppend : V → List V → Hp → VK → Prop := fun x vs H Q => ∃ l xs y, x = .ref l ∧ vs = [y] ∧ H l = some (.lst xs) ∧ xs.length < sizeLine ∧ Q .non (upd H l (.lst (xs ++ [y])))
theorem mt_append : MtM X "list.append" rAppend := by
  intro pins s σ H x vs v us Q I rx rv h
  obtain ⟨l, xs, y, rfl, rfl, hH, hz, q⟩ := h
  cases rx
  obtain ⟨u, rfl, ru⟩ := rv.one
  obtain ⟨z, its, n, r, hl, e⟩ := I.lstM hH
  refine call_meets F.slot_list_append ⟨_, e, rfl⟩ F.entry_list_append (F.args_list_append_2 _ _) (PySem.list_append l its.toArray n u (by rw [List.size_toArray]; omega)) ⟨e, ?_⟩
  refine ⟨.non, _, I.lset (its' := its ++ [u]) hH e (by simp) (r.append (.cons ru .nil)) ?_, rfl, q⟩
  rw [List.length_append, List.length_singleton]
  omega

def rExtend : V → List V → Hp → VK → Prop := fun x vs H Q => ∃ l b xs zs, x = .ref l ∧ vs = [.ref b] ∧ H l = some (.lst xs) ∧ H b = some (.lst zs) ∧ xs.length + zs.length ≤ sizeLine ∧ Q .non (upd H l (.lst (xs ++ zs)))
theorem mt_extend : MtM X "list.extend" rExtend := by
  intro pins s σ H x vs v us Q I rx rv h
  obtain ⟨l, b, xs, zs, rfl, rfl, hH, hB, hz, q⟩ := h
  cases rx
  obtain ⟨u, rfl, ru⟩ := rv.one
  cases ru
  obtain ⟨z, its, n, r, hl, e⟩ := I.lstM hH
  obtain ⟨z2, its2, n2, r2, hl2, e2⟩ := I.lstM hB
  have hsz : its.toArray.size + its2.toArray.size ≤ sizeLine := by rw [List.size_toArray, List.size_toArray]; omega
  have hlong : ¬ (!its.toArray.isEmpty && Builtin.List.listTooLong (its.toArray.size + its2.toArray.size)) = true := by
    rw [notLongL hsz, Bool.and_false]
    exact Bool.false_ne_true
  refine call_meets F.slot_list_extend ⟨_, e, rfl⟩ F.entry_list_extend (F.args_list_extend_2 _ _)
    (AutoSeq1.list_extend_list_list_0 l its.toArray n b its2.toArray n2 hlong (by rw [List.size_toArray]; omega) (by omega)) ⟨e, e2, ?_⟩
  refine ⟨.non, _, I.lset (its' := its ++ its2) hH e (by simp) (r.append r2) ?_, rfl, q⟩
  rw [List.length_append]
  omega

def rPop : V → List V → Hp → VK → Prop := fun x vs H Q => ∃ l xs y, x = .ref l ∧ vs = [] ∧ H l = some (.lst xs) ∧ xs[xs.length - 1]? = some y ∧ Q y (upd H l (.lst xs.dropLast))
theorem mt_pop : MtM X "list.pop" rPop := by
  intro pins s σ H x vs v us Q I rx rv h
  obtain ⟨l, xs, y, rfl, rfl, hH, hy, q⟩ := h
  cases rx
  have hus := rv.zero
  subst hus
  obtain ⟨z, its, n, r, hl, e⟩ := I.lstM hH
  obtain ⟨u, hu, ru⟩ := r.get hy
  have hy' : its.toArray[its.toArray.size - 1]? = some u := by
    show its.toArray[its.length - 1]? = some u
    rw [← Array.getElem?_toList, ← hl]
    exact hu
  refine call_meets F.slot_list_pop ⟨_, e, rfl⟩ F.entry_list_pop (F.args_list_pop_1 _) (MeetsSeq.list_pop_last l its.toArray n u hy' (by rw [List.size_toArray]; omega)) ⟨e, ?_⟩
  refine ⟨y, _, I.lset (its' := its.dropLast) hH e ?_ r.dropLast ?_, ru, q⟩
  · show its.toArray.eraseIdxIfInBounds (its.toArray.size - 1) = its.dropLast.toArray
    rw [List.size_toArray, List.eraseIdxIfInBounds_toArray, erase_last]
  · rw [List.length_dropLast]
    omega




/-! ### list + list, list += list, list * int -/
def rCat : R2 := fun x y H Q => ∃ l b xs zs, x = .ref l ∧ y = .ref b ∧ H l = some (.lst xs) ∧ H b = some (.lst zs) ∧ xs.length + zs.length ≤ sizeLine ∧ ∀ p, H p = none → Q (.ref p) (upd H p (.lst (xs ++ zs)))
theorem op_cat : OpR X (binaryOp .Add) rCat := by
  intro pins s σ H x y v u Q I rx ry h
  obtain ⟨l, b, xs, zs, rfl, rfl, hH, hB, hz, q⟩ := h
  cases rx
  cases ry
  obtain ⟨z, its, n, r, hl, e⟩ := I.lstM hH
  obtain ⟨z2, its2, n2, r2, hl2, e2⟩ := I.lstM hB
  refine PySem.P.add_list e e2 ?_ (by rw [List.size_toArray, List.size_toArray]; omega)
  have ea : its.toArray ++ its2.toArray = (its ++ its2).toArray := by simp
  rw [ea]
  exact ⟨.ref _, _, I.lnew (t' := s.toks) (r.append r2) (by rw [List.length_append]; omega), rfl, q _ I.fresh⟩
/-- a list times an int (a negative one is nothing) -/
def rRep : R2 := fun x y H Q => ∃ l k xs, x = .ref l ∧ y = .int k ∧ H l = some (.lst xs) ∧ -(2 ^ 63) ≤ k ∧ k < 2 ^ 63 ∧ xs.length * k.toNat ≤ sizeLine ∧
  ∀ p, H p = none → Q (.ref p) (upd H p (.lst (List.replicate k.toNat xs).flatten))
theorem len_rep {α : Type} (xs : List α) (k : Nat) : (List.replicate k xs).flatten.length = k * xs.length := by
  induction k with
  | zero => simp
  | succ k ih => rw [List.replicate_succ, List.flatten_cons, List.length_append, ih, Nat.succ_mul, Nat.add_comm]
theorem op_rep : OpR X (binaryOp .Mult) rRep := by
  intro pins s σ H x y v u Q I rx ry h
  obtain ⟨l, k, xs, rfl, rfl, hH, h1, h2, hz, q⟩ := h
  cases rx
  obtain ⟨t, rfl⟩ := ry
  obtain ⟨z, its, n, r, hl, e⟩ := I.lstM hH
  have hlen : its.toArray.size * k.toNat ≤ sizeLine := by rw [List.size_toArray, ← hl]; exact hz
  have hcap : ¬ its.toArray.size * k.toNat > (2 ^ 63 - 1) / 8 := by
    have : (sizeLine : Nat) ≤ (2 ^ 63 - 1) / 8 := by decide
    omega
  have hfit : ¬ (!Builtin.List.listFitsIndex k) = true := by
    rw [fitsIndex_both h1 h2]
    exact Bool.false_ne_true
  have hlong : ¬ Builtin.List.listTooLong (its.toArray.size * k.toNat) = true := by
    rw [notLongL hlen]
    exact Bool.false_ne_true
  have hnew : List.foldl (fun x1 x2 => x1 ++ x2) #[] (List.replicate (if its.toArray.isEmpty = true then 0 else k.toNat) its.toArray) = (List.replicate k.toNat its).flatten.toArray := by
    have f0 : ∀ m : Nat, List.foldl (fun x1 x2 => x1 ++ x2) #[] (List.replicate m its.toArray) = (List.replicate m its).flatten.toArray := fun m => by
      have := foldl_rep its m []
      rw [List.nil_append] at this
      exact this
    rw [f0]
    cases its with
    | nil => simp
    | cons a r' => rw [if_neg (by simp)]
  refine wpAny_binaryOp_repeat_ref (T := "list") (U := "int") (by decide) ⟨_, e, rfl⟩ (fun s' => typeIs_int s' k t) noFill_list_mul F.fills_int_mul F.slot_int_rmul repeat_list F.slot_int_index.lookup
    (call_meets F.slot_int_rmul (typeIs_int s k t) F.entry_int_rmul (F.args_int_rmul_2 _ _) (int___rmul___int_list k t l its.toArray n)
      ⟨e, rfl, ⟨_, e, rfl⟩, call_meets F.slot_list_mul ⟨_, e, rfl⟩ F.entry_list_mul (F.args_list_mul_2 _ _) (AutoListH.list___mul___list_int_3 l its.toArray n k t hfit hcap hlong) ⟨e, ?_⟩⟩)
  rw [hnew]
  exact ⟨.ref _, _, I.lnew (t' := s.toks) (r.rep k.toNat) (by rw [len_rep, Nat.mul_comm]; exact hz), rfl, q _ I.fresh⟩

/-! ### del xs[i] -/
end

/-! ### xs[a:b] = ys -/
section
variable {prog : Program} {w : World} {A : Around} {E : Value → Shared → Prop} {s : Shared}
end

section
variable {X : Cx}
end
end L2

namespace Att
open PySem PySem.W PySem.Calls PyProof.Rows

/-! ### the script -/
theorem ints_of_wellAll {P : Params} {h : Heap} : ∀ (ns : List Int) (vs : List Value), WellAll P h vs (ns.map WData.int) → IntsAre vs ns := by
  intro ns
  induction ns with
  | nil =>
    intro vs w
    rw [List.map_nil] at w
    cases w
    exact .nil
  | cons n ns ih =>
    intro vs w
    rw [List.map_cons] at w
    cases w with
    | cons a b =>
      cases a
      exact .cons _ _ (ih _ b)

theorem script_of {l : OpenLaw} {n : Nat} (hn : l.most = some n) {P : Params} {h : Heap} {args : List WData} {vals : List Value}
    (hpre : l.row.toRowW.claim.pre args = true) (hwl : WellAll P h vals args) :
    ∃ a vs ns, vals = [Value.ref a] ∧ args = [WData.list (ns.map WData.int)] ∧ h.get? a = some { cls := .type "list", data := .seq vs.toArray } ∧ IntsAre vs ns ∧ ns.length ≤ n := by
  have hsh : WShape.hasAll [] args [.list .int] = true := (pre_splitW hpre).1
  have hc : l.pre.holds [] { args := args } = true := (pre_splitW hpre).2
  obtain ⟨d, r, rfl, h1, h2⟩ := hasAllW_cons hsh
  obtain rfl := hasAllW_nil h2
  obtain ⟨xs, rfl, h3⟩ := hasW_list h1
  obtain ⟨ns, rfl⟩ := items_int h3
  have hlen : ns.length ≤ n := by
    unfold OpenLaw.pre at hc
    have h4 : (WTm.not (.lt (.lit (.int (n : Int))) (.len (.arg 0)))).holds [] { args := [.list (ns.map .int)] } = true := by
      have h4 := (holds_andW hc).1
      rw [hn] at h4
      exact h4
    have h5 := condW_of h4 (w_not (w_lt w_lit (w_len_list (w_arg rfl))))
    rw [List.length_map] at h5
    refine Nat.le_of_not_lt fun q => ?_
    have q' : (n : Int) < ((ns.length : Nat) : Int) := by omega
    first
      | (rw [decide_eq_true q'] at h5; exact absurd h5 (by decide))
      | (simp at h5; omega)
  cases hwl with
  | cons w1 w2 =>
    cases w2
    cases w1 with
    | list ho hall => exact ⟨_, _, ns, rfl, rfl, ho, ints_of_wellAll ns _ hall, hlen⟩

theorem post_true (l : OpenLaw) (args : List WData) : l.row.toRowW.claim.post args (.bool true) args = true :=
  postW_of (r := l.row.toRowW) (X := (true == true))
    (show WShape.has [] (.bool true) .bool = true by first | rfl | decide | simp [WShape.has, WShape.arms, WShape.armsAll])
    (show (WTm.eq .res (.lit (.bool true))).value [] { args := args, res := some (.bool true), after := args } = some (.bool (true == true)) from w_eq_bool (w_res rfl) w_lit) rfl

/-! ### the attachment: holds_open's last premise (the goal 'hc' behind k_head) from a wpAny of the law's body -/

/-- the same from a codeAny of the CALL (for a layer whose function contracts speak of calls) -/
theorem attach_call {l : OpenLaw} {n : Nat} {q : Program} {loose : List Str} {XP : (Str → Option Value) → Heap → Prop} {YP : World → Heap → Prop} {d : DefRec}
    (hn : l.most = some n) (hdf : d.params.defaults = [])
    (call : ∀ (w : World) (s₀ s₁ : Shared) (mg mb : Str → Option Value) (fa : Addr) (o : Obj) (pm cd doc : Value) (a : Addr) (vs : List Value) (ns : List Int),
      Ground q loose [] XP w s₀ mg mb s₁.heap → YP w s₁.heap →
      s₁.heap.get? fa = some o → o.data = .func (docDef d.name d.params d.body d.scope pm cd doc) → s₁.heap.CodeRec cd d.name → mg d.name = some (.ref fa) →
      s₁.heap.get? a = some { cls := .type "list", data := .seq vs.toArray } → IntsAre vs ns → ns.length ≤ n → s₁.gens = #[] →
      codeAny (model l.prog w) callerA (.call (.ref fa) ⟨[.ref a], []⟩) (fun r s' => r = .ok (.ret (.bool true)) ∧ OldK s₁.heap s'.heap ∧ s'.os = s₁.os ∧ AllBare s'.gens) s₁) :
    WalkO q loose XP YP l.row.toRowW d [] (fun f vs => PySem.call f vs) := by
  intro w s₀ s₁ mg mb G Y fa o pm cd doc dV kV ho hd hcd hD hmg hg args vals as hpre hlay hrd hwl hlo
  obtain rfl : dV = .none := Dflts.none hD hdf
  obtain rfl : kV = .none := Dflts.noKw hD
  obtain ⟨a, vs, ns, rfl, rfl, hobj, hints, hlen⟩ := script_of hn hpre hwl
  refine enter_call (codeAny_mono (call w s₀ s₁ mg mb fa o pm cd doc a vs ns G Y ho (fd_plain hd) hcd hmg hobj hints hlen hg) fun r s' hq => ?_)
  obtain ⟨rfl, h2, h3, h4⟩ := hq
  exact ⟨.inl ⟨.bool true, .bool true, [], rfl, fun _ => rfl, .bool true, post_true l _, fun _ => ⟨List.Pairwise.nil, fun _ hm => (nomatch hm)⟩⟩, h2, h3, h4⟩


/-! ### rules over ANY heap (no ledger) from facts about the written part K: the library's own take a ledger (News) for what they write -/
section
variable {prog : Program} {w : World} {A : Around} {E : Value → Shared → Prop} {s : Shared} {K : Frag}





/-! the whole heap as the ledger: makes every rule that writes through a ledger a rule over any heap -/

end
end Att

namespace L2
open PySem PySem.Spec PyProof.Rows

theorem vals_ints : ∀ {vs : List Value} {ns : List Int}, IntsAre vs ns → Vals (ns.map V.int) vs
  | _, _, .nil => .nil
  | _, _, .cons n t h => .cons ⟨t, rfl⟩ (vals_ints h)

/-- nothing is tracked but the script, known to the object (or it is an object of the module) -/
def Only (H : Hp) : Prop := ∀ b, H b = none ∨ ∃ o xs, H b = some (.frz o (.lst xs))

/-- THE HEAD: the law's promise, at the heap behind the top. F, the promise of the law's def, may use that base is part of the heap (so K.In base, base.Ns mainGlobals mg stand in Mod) -/
theorem law_call {P : Program} {w : World} {K : PySem.W.Frag} {mg mb : Str → Option Value} {CX : CXT} {k : Nat} {fa a : Addr} {fd : FuncData} {x : Str} {sp : Sp} {s₁ : Shared} {vs : List Value} {ns : List Int}
    (KX : K.In s₁.heap) (hns : s₁.heap.Ns mainGlobals mg) (hb : s₁.heap.Ns builtinsNs mb) (hbb : ∀ x : Str, x ≠ "__name__" → mb x = bootBuiltins x) (hlim : s₁.heap.NoLimit) (hg : s₁.gens = #[])
    (ha : s₁.heap.get? a = some { cls := .type "list", data := .seq vs.toArray }) (hi : IntsAre vs ns) (hl : ns.length ≤ sizeLine) (hr : Room k callerA)
    (F : ∀ base : Heap, K.In base → base.Ns mainGlobals mg → FnOk P w K mg base CX k fa fd [x] sp) (hbind : ∀ (s : Shared) (u : Value), BindsTo s fd ⟨[u], []⟩ [(x, u)])
    (hsp : ∀ H : Hp, Only H → SqL K H a (ns.map V.int) → sp [.ref a] H (fun v _ => v = .bl true) fun _ _ _ => False)
    (hCX : ∀ H e s', CX [] H s₁ (fun _ _ _ => False) e s' → False) :
    codeAny (model P w) callerA (.call (.ref fa) ⟨[.ref a], []⟩) (fun r s' => r = .ok (.ret (.bool true)) ∧ OldK s₁.heap s'.heap ∧ s'.os = s₁.os ∧ AllBare s'.gens) s₁ := by
  have rv := vals_ints hi
  have lenV := hi.length
  -- from an abstract heap in which nothing but the script may be tracked
  have core : ∀ H : Hp, Only H → SqL K H a (ns.map V.int) → HOk P w H s₁.heap → (∀ b, H b ≠ none → b = a) → (H a ≠ none → K.lookup a = none) →
      codeAny (model P w) callerA (.call (.ref fa) ⟨[.ref a], []⟩) (fun r s' => r = .ok (.ret (.bool true)) ∧ OldK s₁.heap s'.heap ∧ s'.os = s₁.os ∧ AllBare s'.gens) s₁ := by
    intro H hO hS hok hA hK
    have base_of : ∀ {b : Addr} {o : Obj}, s₁.heap.get? b = some o → H b = none → (hidT s₁.heap H).get? b = some o := fun e n => hidT_get e n
    have noA : ∀ {b : Addr} {o : Obj} {es : Array DictEntry} {ep : Nat}, s₁.heap.get? b = some o → o.data = .dict es ep → H b = none := fun {b o es ep} e d => by
      cases q : H b with
      | none => rfl
      | some u =>
        have e' : b = a := hA b (by rw [q]; simp)
        subst e'
        rw [ha] at e; cases e
        have d' : Data.seq vs.toArray _ = Data.dict es ep := d
        cases d'
    have nsK : ∀ {b : Addr} {m : Str → Option Value}, s₁.heap.Ns b m → (hidT s₁.heap H).Ns b m := fun {b m} ⟨o, es, ep, e, d, r⟩ => ⟨o, es, ep, base_of e (noA e d), d, r⟩
    have hKb : K.In (hidT s₁.heap H) := fun b o e => base_of (KX b o e) (by
      cases q : H b with
      | none => rfl
      | some u =>
        have e' : b = a := hA b (by rw [q]; simp)
        subst e'
        rw [hK (by rw [q]; simp)] at e; cases e)
    have hM : Mod K mg (hidT s₁.heap H) := ⟨hKb, nsK hns, ⟨mb, nsK hb, hbb⟩, let ⟨mc, h1, h2⟩ := hlim; ⟨mc, nsK h1, h2⟩⟩
    have e0 : Env0 P w K mg (hidT s₁.heap H) callerA [] s₁ H := ⟨rfl, hM, fun b o e => of_hidT e, Nat.le_of_eq (hidT_size _ _), trivial, fun b hb => absurd (show b ∈ ([] : List Addr) from hb) (by simp), hok, .of_eq hg⟩
    refine codeAny_mono ((F _ hKb (nsK hns)).run callerA [] s₁ H ⟨[.ref a], []⟩ [.ref a] [.ref a] _ _ hr e0 (hbind s₁ (.ref a)) (.cons rfl .nil) (hsp H hO hS)) fun r s' h => ?_
    cases r with
    | error e => exact (hCX H e s' h).elim
    | ok fl =>
      cases fl with
      | next => exact False.elim h
      | brk => exact False.elim h
      | cont => exact False.elim h
      | ret u =>
        obtain ⟨v, H', os, bare, un, hok', r', q⟩ := h
        have q' : v = .bl true := q
        subst q'
        obtain rfl : u = Value.bool true := r'
        refine ⟨rfl, OldK.of_keep fun b o e => ?_, os, bare⟩
        cases q : H b with
        | none => exact un.keep b o e q (by intro z; exact absurd (show b ∈ ([] : List Addr) from z) (by simp)) (by simp)
        | some u =>
          rcases hO b with z | ⟨ob, xs, z⟩
          · rw [q] at z; cases z
          · have z2 := un.frzs b ob _ z
            obtain ⟨e1, _⟩ := hok b _ z
            obtain ⟨e2, _⟩ := hok' b _ z2
            rw [e] at e1; cases e1
            exact e2
  cases hk : K.lookup a with
  | some o =>
    -- the script is one of the module's own objects
    have e := KX a o hk
    rw [ha] at e
    cases e
    refine core (fun _ => none) (fun _ => .inl rfl) (.inr ⟨_, vs.toArray, _, hk, rfl, rfl, rfl, by rw [List.size_toArray, lenV]; exact hl, by simpa using rv⟩) (fun b u z => by have z' : (none : Option HO) = some u := z; cases z') (fun b z => absurd rfl z) fun z => absurd rfl z
  | none =>
    refine core (fun b => if b = a then some (.frz { cls := .type "list", data := .seq vs.toArray } (.lst (ns.map V.int))) else none) (fun b => ?_) (.inl (.inr ⟨{ cls := .type "list", data := .seq vs.toArray }, if_pos rfl⟩)) (fun b u z => ?_) (fun b z => ?_) fun _ => hk
    · by_cases hb : b = a
      · exact .inr ⟨_, _, if_pos hb⟩
      · exact .inl (if_neg hb)
    · by_cases hb : b = a
      · have z' := (if_pos hb).symm.trans z
        cases z'
        subst hb
        exact ⟨ha, by rw [List.length_map]; exact hl, vs, _, rv, ha⟩
      · have z' := (if_neg hb).symm.trans z
        cases z'
    · by_cases hb : b = a
      · exact hb
      · exact absurd (if_neg hb) z
end L2

namespace L2
open PySem PySem.Spec PyProof.Rows


/-- the goal that k_head leaves (case hc), from the law's promise. F gives the function object fd (K's own) once, then the promise over every base -/
theorem walk_of {l : PySem.W.OpenLaw} {n k : Nat} {q : Program} {loose : List Str} {XP : (Str → Option Value) → Heap → Prop} {YP : World → Heap → Prop} {d : DefRec} {K : Params → PySem.W.Frag} {CX : World → CXT} {sp : World → Sp} {x : Str}
    (hn : l.most = some n) (hn2 : n ≤ sizeLine) (hdf : d.params.defaults = []) (hr : Room k callerA)
    (hY : ∀ (w : World) (h : Heap), YP w h → (K w.params).In h)
    (F : ∀ (w : World) (mg : Str → Option Value) (fa : Addr) (h : Heap), (K w.params).In h → h.Ns mainGlobals mg → mg d.name = some (.ref fa) →
      ∃ fd : FuncData, (∀ (s : Shared) (u : Value), BindsTo s fd ⟨[u], []⟩ [(x, u)]) ∧
        ∀ base : Heap, (K w.params).In base → base.Ns mainGlobals mg → FnOk l.prog w (K w.params) mg base (CX w) k fa fd [x] (sp w))
    (hsp : ∀ (w : World) (H : Hp) (a : Addr) (ns : List Int), ns.length ≤ n → Only H → SqL (K w.params) H a (ns.map V.int) → sp w [.ref a] H (fun v _ => v = .bl true) fun _ _ _ => False)
    (hCX : ∀ (w : World) (H : Hp) (s : Shared) (e : Value) (s' : Shared), CX w [] H s (fun _ _ _ => False) e s' → False) :
    PySem.W.WalkO q loose XP YP l.row.toRowW d [] (fun f vs => PySem.call f vs) := by
  refine Att.attach_call hn hdf fun w s₀ s₁ mg mb fa o pm cd doc a vs ns G Y ho hd hcd hmg hobj hints hlen hg => ?_
  have KX := hY w _ Y
  obtain ⟨fd, hb, hF⟩ := F w mg fa _ KX G.T.g hmg
  exact law_call KX G.T.g G.T.b G.T.builtins G.T.nolimit hg hobj hints (Nat.le_trans hlen hn2) hr hF hb (fun H hO hS => hsp w H a ns hlen hO hS) fun H e s' => hCX w H s₁ e s'
end L2

/- THE LAST THEOREM (shape; LID, My.* are yours):
   My.Adr: a structure of the addresses that your layer names (classes, functions); My.Txt K t: a structure (Prop) of the equations over K;
   My.txt_mk : {K} {implicit addresses ..} (e1 : nsIn K mainGlobals "law" = some (some (.ref f))) (e2 : K.lookup f = some ⟨oc, od, .func (fnOf "law" "law" params body scope dV kV doc pm an cdv ct), sl⟩) (e3 : codeIn K cdv "law" = true) .. : ∃ t, My.Txt K t

set_option maxRecDepth 100000 in
set_option maxHeartbeats 0 in
theorem PySem.Challenge.cw_LID_holds : PySem.Challenge.rw_LID.Holds := by
  w_on; o_law; k_head; (case hw => w_witness2)
  k_fill
  refine L2.walk_of (l := PySem.Challenge.rw_LID) (n := 63) (k := 40) (x := "script") (CX := fun w => ..) (sp := fun _ => My.sp_law) rfl (by decide) rfl ⟨rfl, by decide, by decide⟩ (fun w h Y => PySem.W.kIn_of Y) ?F ?S ?C
  case F =>
    intro w mg fa h KX G hmg
    have T : ∃ t, My.Txt (L2.KOf KX) t := by
      dsimp only [L2.KOf]                          -- K must stand as «<heap const> w.params» for k_is
      refine' My.txt_mk ?e1 ?e2 ?e3 ..
      (case e1 => PySem.W.k_is)                    -- in the order: a name -> its address -> its object -> its parts
      (case e2 => PySem.W.k_is)
      ..
    obtain ⟨t, T⟩ := T
    have e0 := hmg.symm.trans (PySem.W.mg_of KX G T.law)
    cases e0                                       -- fa is the law's own address
    exact ⟨_, fun s u => .of_eq rfl, fun base kb nb => My.law_fn T kb nb⟩     -- if «.of_eq rfl» comes too early: refine' ⟨_, ?b, fun base kb nb => My.law_fn T kb nb⟩; exact fun s u => .of_eq rfl
  case S => exact fun w H a ns hl hO hS => ..
  case C => exact ..
(the tactic k_is has no namespace: write k_is) -/

/-! SHORT WORDS over the layer: a def of the text, its body, what a loop and a test want. -/
namespace L2
open PySem PySem.Spec PyProof.Rows

/-! ### the text by places -/
/-- the j-th statement of a class's body -/
def inClass (s : Stmt) (j : Nat) : Stmt := match s with
  | .ClassDef _ _ _ body _ _ _ _ _ _ _ => body.getD j (.Pass ⟨0, 0, 0, 0⟩)
  | _ => .Pass ⟨0, 0, 0, 0⟩
def defArgs (s : Stmt) : Arguments := match s with
  | .FunctionDef _ a _ _ _ _ _ _ _ _ => a
  | _ => { posonlyargs := [], args := [], vararg := none, kwonlyargs := [], kw_defaults := [], kwarg := none, defaults := [] }
def defBody (s : Stmt) : List Stmt := match s with
  | .FunctionDef _ _ b _ _ _ _ _ _ _ => b
  | _ => []
def defScope (s : Stmt) : Scope := match s with
  | .FunctionDef _ _ _ _ _ _ sc _ _ _ => sc
  | _ => { kind := .function, names := [], isGenerator := false, isCoroutine := false }

/-! ### no exception leaves a def -/

/-! ### a def (or method) of the text as it stands behind the top -/
structure Fun (K : PySem.W.Frag) (x qual : Str) (st : Stmt) (f : Addr) (fd : FuncData) : Prop where
  ex : ∃ (oc : Value) (od : Option Addr) (kV doc pm : Value) (an : Option Addr) (cdv ct : Value) (osl : Array (Option Value)),
    fd = PySem.W.fnOf x qual (defArgs st) (defBody st) (defScope st) .none kV doc pm an cdv ct ∧ K.lookup f = some ⟨oc, od, .func fd, osl⟩ ∧ PySem.W.codeIn K cdv qual = true
  kp : PySem.W.keepIn K (.ref f) = true
section
variable {P : Program} {w : World} {K : PySem.W.Frag} {mg : Str → Option Value} {base : Heap}
/-- how its arguments bind (no defaults): h is «fun _ _ _ _ _ _ us hl => match us, hl with | [_, _], _ => rfl», one _ a parameter -/
theorem Fun.binds {x qual : Str} {st : Stmt} {f : Addr} {fd : FuncData} {ps : List Str} (F : Fun K x qual st f fd)
    (h : ∀ (kV doc pm : Value) (an : Option Addr) (cdv ct : Value) (us : List Value), us.length = ps.length → bindArgs (PySem.W.fnOf x qual (defArgs st) (defBody st) (defScope st) .none kV doc pm an cdv ct) ⟨us, []⟩ = pure (ps.zip us)) : Binds K fd ps [] := by
  obtain ⟨oc, od, kV, doc, pm, an, cdv, ct, osl, rfl, lk, hcd⟩ := F.ex
  exact .all (h kV doc pm an cdv ct)
theorem fun_mk {x qual : Str} {st : Stmt} {f : Addr} {oc : Value} {od an : Option Addr} {osl : Array (Option Value)} {kV doc pm cdv ct : Value} (l : K.lookup f = some ⟨oc, od, .func (PySem.W.fnOf x qual (defArgs st) (defBody st) (defScope st) .none kV doc pm an cdv ct), osl⟩)
    (c : PySem.W.codeIn K cdv qual = true) (k : PySem.W.keepIn K (.ref f) = true) : Fun K x qual st f (PySem.W.fnOf x qual (defArgs st) (defBody st) (defScope st) .none kV doc pm an cdv ct) := ⟨⟨oc, od, kV, doc, pm, an, cdv, ct, osl, rfl, l, c⟩, k⟩
end
theorem hu_of {A : Around} {k : Nat} (hr : Room k A) : A.units + 1 < cLine := Nat.lt_of_le_of_lt (Nat.add_le_add_left (by decide : 1 ≤ 64) _) hr.units

/-! ### expressions in short: the name that stands in the i-th slot -/
section
variable {X : Cx}
theorem pv (i : Nat) {x : Str} {pos : Pos} (hN : X.N[i]? = some x := by rfl) (hv : Vis X.env.scope x := by first | exact Or.inl rfl | exact Or.inr (Or.inl rfl) | exact Or.inr (Or.inr rfl)) (hd : (x == ("__debug__" : Str)) = false := by decide)
    (hcd : (x == ("__classdict__" : Str)) = false := by decide) : PE X (.Name x pos) (tVar i) := pe_var hN hv hd hcd
end

/-! ### tests -/
theorem iteF {A B : Prop} (h : B) : if false = true then A else B := by
  rw [if_neg Bool.false_ne_true]
  exact h
theorem iteT {A B : Prop} (h : A) : if true = true then A else B := by
  rw [if_pos rfl]
  exact h
theorem ite2 {c A B : Prop} [Decidable c] (h1 : c → A) (h2 : ¬ c → B) : if c then A else B := by
  by_cases h : c
  · rw [if_pos h]
    exact h1 h
  · rw [if_neg h]
    exact h2 h

/-! ### heaps -/
/-- all that was tracked is as it was -/
def Same (H H' : Hp) : Prop := ∀ b o, H b = some o → H' b = some o
theorem Same.refl (H : Hp) : Same H H := fun _ _ h => h
theorem Same.trans {H H1 H2 : Hp} (a : Same H H1) (b : Same H1 H2) : Same H H2 := fun c o h => b c o (a c o h)
theorem Same.free {H H' : Hp} (e : Same H H') {l : Addr} (h : H' l = Option.none) : H l = Option.none := by
  cases q : H l with
  | none => rfl
  | some o =>
    rw [e l o q] at h
    cases h

end L2
end
section
set_option Elab.async false
set_option linter.all false
set_option maxRecDepth 100000
namespace L2
open PySem PySem.Spec PyProof.Rows

/-! ### lists of pairs as tables -/
section
variable {κ : Type} [DecidableEq κ]
def valV (kvs : List (κ × V)) (k : κ) : Option V := (kvs.find? fun kv => decide (kv.1 = k)).map (·.2)
/-- in its place, or at the end -/
def putK (kvs : List (κ × V)) (k : κ) (v : V) : List (κ × V) :=
  if (kvs.any fun kv => decide (kv.1 = k)) = true then kvs.map (fun kv => if kv.1 = k then (kv.1, v) else kv) else kvs ++ [(k, v)]

theorem valV_pos {p : κ × V} {r : List (κ × V)} {k : κ} (e : p.1 = k) : valV (p :: r) k = some p.2 := by simp [valV, List.find?_cons, e]
theorem valV_neg {p : κ × V} {r : List (κ × V)} {k : κ} (e : ¬ p.1 = k) : valV (p :: r) k = valV r k := by simp [valV, List.find?_cons, e]
theorem valV_any (k : κ) : ∀ kvs : List (κ × V), (kvs.any fun kv => decide (kv.1 = k)) = (valV kvs k).isSome
  | [] => rfl
  | p :: r => by
    rw [List.any_cons]
    by_cases e : p.1 = k
    · simp only [valV_pos e, decide_eq_true e, Bool.true_or, Option.isSome_some]
    · rw [valV_neg e, decide_eq_false e, Bool.false_or]; exact valV_any k r
theorem length_putK (kvs : List (κ × V)) (k : κ) (v : V) : (putK kvs k v).length ≤ kvs.length + 1 := by
  unfold putK
  split
  · rw [List.length_map]; omega
  · rw [List.length_append, List.length_cons, List.length_nil]; omega
theorem putK_new {kvs : List (κ × V)} {k : κ} (v : V) (h : valV kvs k = none) : putK kvs k v = kvs ++ [(k, v)] := by
  unfold putK
  rw [valV_any, h]
  exact if_neg (by decide)

theorem RelO.isSome_eq {o : Option V} {u : Option Value} (r : RelO o u) : o.isSome = u.isSome := by
  cases o with
  | none => cases u with
    | none => rfl
    | some _ => exact (show False from r).elim
  | some _ => cases u with
    | none => exact (show False from r).elim
    | some _ => rfl

/-- raw tables of the same keys -/
theorem KV.val {kvs : List (κ × V)} {vs : List (κ × Value)} (r : KV kvs vs) (k : κ) : RelO (valV kvs k) (valueAt vs k) := by
  unfold KV at r
  induction r with
  | nil => exact True.intro
  | @cons p q ps qs h t ih =>
    obtain ⟨h1, h2⟩ := h
    by_cases e : p.1 = k
    · have e' : q.1 = k := h1.symm.trans e
      have b : valueAt (q :: qs) k = some q.2 := by simp [valueAt, List.find?_cons, e']
      rw [valV_pos e, b]; exact h2
    · have e' : ¬ q.1 = k := fun z => e (h1.trans z)
      have b : valueAt (q :: qs) k = valueAt qs k := by simp [valueAt, List.find?_cons, e']
      rw [valV_neg e, b]; exact ih
theorem KV.any {kvs : List (κ × V)} {vs : List (κ × Value)} (r : KV kvs vs) (k : κ) : (kvs.any fun kv => decide (kv.1 = k)) = vs.any fun kv => decide (kv.1 = k) := by
  unfold KV at r
  induction r with
  | nil => rfl
  | cons h t ih => rw [List.any_cons, List.any_cons, ih, h.1]
theorem KV.repl {kvs : List (κ × V)} {vs : List (κ × Value)} (r : KV kvs vs) (k : κ) {y : V} {u : Value} (ry : RelV y u) :
    KV (kvs.map fun kv => if kv.1 = k then (kv.1, y) else kv) (vs.map fun kv => if kv.1 = k then (kv.1, u) else kv) := by
  unfold KV at r ⊢
  induction r with
  | nil => exact .nil
  | @cons p q ps qs h t ih =>
    rw [List.map_cons, List.map_cons]
    refine .cons ?_ ih
    obtain ⟨h1, h2⟩ := h
    by_cases e : p.1 = k
    · rw [if_pos e, if_pos (h1.symm.trans e)]; exact ⟨h1, ry⟩
    · rw [if_neg e, if_neg (fun z => e (h1.trans z))]; exact ⟨h1, h2⟩
theorem KV.put {kvs : List (κ × V)} {vs : List (κ × Value)} (r : KV kvs vs) (k : κ) {y : V} {u : Value} (ry : RelV y u) : KV (putK kvs k y) (stored vs k u) := by
  unfold putK stored
  rw [r.any k]
  by_cases e : (vs.any fun kv => decide (kv.1 = k)) = true
  · rw [if_pos e, if_pos e]; exact r.repl k ry
  · rw [if_neg e, if_neg e]; exact Paired.snoc r ⟨rfl, ry⟩
theorem KV.keys {kvs : List (κ × V)} {vs : List (κ × Value)} (r : KV kvs vs) : kvs.map (·.1) = vs.map (·.1) := by
  unfold KV at r
  induction r with
  | nil => rfl
  | cons h t ih => rw [List.map_cons, List.map_cons, ih, h.1]
theorem KV.length {kvs : List (κ × V)} {vs : List (κ × Value)} (r : KV kvs vs) : kvs.length = vs.length := Paired.length r
end


/-! ### a tracked dict, its keys ints and texts or tuples of these -/
theorem kV_is {P : Program} {w : World} {k : Key} {u : Value} (r : RelV (kV k) u) : (mixKind P w).is k u = true := by
  cases k with
  | inl i => obtain ⟨t, e⟩ := (show ∃ t, u = Value.int i t from r); subst e; exact mixKind_int P w i t
  | inr x => obtain ⟨t, e⟩ := (show ∃ t, u = Value.str x t from r); subst e; exact mixKind_str P w x t
theorem items_are {P : Program} {w : World} : ∀ {ks : List Key} {us : List Value}, Vals (ks.map kV) us → ItemsAre (mixKind P w) ks us
  | [], _, r => by rw [List.map_nil] at r; cases r; exact .nil
  | k :: ks, _, r => by
    rw [List.map_cons] at r
    cases r with
    | cons h t => exact .cons (kV_is h) (items_are t)

/-- raw entries of a dict with tuple keys -/
abbrev KT (H : Hp) : List (List Key × V) → List (List Key × Addr × Value) → Prop := Paired fun p q => p.1 = q.1 ∧ H q.2.1 = some (.tup (p.1.map kV)) ∧ RelV p.2 q.2.2
theorem KT.val {H : Hp} {kvs : List (List Key × V)} {xs : List (List Key × Addr × Value)} (r : KT H kvs xs) (k : List Key) : RelO (valV kvs k) ((atKey xs k).map (·.2)) := by
  induction r with
  | nil => exact True.intro
  | @cons p q ps qs h t ih =>
    obtain ⟨h1, _, h2⟩ := h
    by_cases e : p.1 = k
    · have e' : q.1 = k := h1.symm.trans e
      have b : atKey (q :: qs) k = some q.2 := by simp [atKey, List.find?_cons, e']
      rw [valV_pos e, b]; exact h2
    · have e' : ¬ q.1 = k := fun z => e (h1.trans z)
      have b : atKey (q :: qs) k = atKey qs k := by simp [atKey, List.find?_cons, e']
      rw [valV_neg e, b]; exact ih
theorem KT.repl {H : Hp} {kvs : List (List Key × V)} {xs : List (List Key × Addr × Value)} (r : KT H kvs xs) (k : List Key) {y : V} {u : Value} (ry : RelV y u) :
    KT H (kvs.map fun kv => if kv.1 = k then (kv.1, y) else kv) (xs.map (putAt k u)) := by
  induction r with
  | nil => exact .nil
  | @cons p q ps qs h t ih =>
    rw [List.map_cons, List.map_cons]
    refine .cons ?_ ih
    obtain ⟨h1, h2, h3⟩ := h
    unfold putAt
    by_cases e : p.1 = k
    · rw [if_pos e, if_pos (h1.symm.trans e)]; exact ⟨h1, h2, ry⟩
    · rw [if_neg e, if_neg (fun z => e (h1.trans z))]; exact ⟨h1, h2, h3⟩
theorem KT.put {H : Hp} {kvs : List (List Key × V)} {xs : List (List Key × Addr × Value)} (r : KT H kvs xs) (k : List Key) {b : Addr} {y : V} {u : Value} (hb : H b = some (.tup (k.map kV))) (ry : RelV y u) :
    KT H (putK kvs k y) (storedH xs k b u) := by
  have e : (kvs.any fun kv => decide (kv.1 = k)) = (atKey xs k).isSome := by
    rw [valV_any, (r.val k).isSome_eq, Option.isSome_map]
  unfold putK storedH
  rw [e]
  by_cases q : (atKey xs k).isSome = true
  · rw [if_pos q, if_pos q]; exact r.repl k ry
  · rw [if_neg q, if_neg q]; exact Paired.snoc r ⟨rfl, hb, ry⟩
theorem KT.keeps {H H' : Hp} {kvs : List (List Key × V)} {xs : List (List Key × Addr × Value)} (r : KT H kvs xs) (ht : ∀ b ys, H b = some (.tup ys) → H' b = some (.tup ys)) : KT H' kvs xs :=
  Paired.mapP r fun _ _ z => ⟨z.1, ht _ _ z.2.1, z.2.2⟩

section
variable {P : Program} {w : World} {H : Hp} {h : Heap} {a : Addr}
theorem rd_of {u : HO} (ok : HOk P w H h) (e : Rd H a u) : ObjOk P w H h a u := e.ok ok
theorem dk_rd {kvs : List (Key × V)} (ok : HOk P w H h) (e : Rd H a (.dK kvs)) : kvs.length ≤ sizeLine ∧ (a == sysModules) = false ∧ ∃ vs, KV kvs vs ∧ h.DictOf (mixKind P w) a vs :=
  show ObjOk P w H h a (.dK kvs) from rd_of ok e
theorem dk_of {kvs : List (Key × V)} (ok : HOk P w H h) (e : H a = some (.dK kvs)) : kvs.length ≤ sizeLine ∧ (a == sysModules) = false ∧ ∃ vs, KV kvs vs ∧ h.DictOf (mixKind P w) a vs := dk_rd ok (.inl e)
/-- a tracked tuple of ints and texts is a key -/
theorem key_of {ks : List Key} (ok : HOk P w H h) (e : H a = some (.tup (ks.map kV))) : (tupleKind (mixKind P w)).is h ks a := by
  obtain ⟨_, its, r, o, h1, h2, n, h3⟩ := (show ObjOk P w H h a (.tup (ks.map kV)) from ok a _ e)
  exact ⟨o, its.toArray, n, h1, h2, h3, by simpa using items_are r⟩
theorem dt_rd {kvs : List (List Key × V)} (ok : HOk P w H h) (e : Rd H a (.dT kvs)) : kvs.length ≤ sizeLine ∧ (a == sysModules) = false ∧
    ∃ xs, KT H kvs xs ∧ h.DictOfH (tupleKind (mixKind P w)) a xs := by
  obtain ⟨z, y, xs, r, o, es, ep, h1, h2, h3, h4, h5⟩ := (show ObjOk P w H h a (.dT kvs) from rd_of ok e)
  refine ⟨z, y, xs, r, o, es, ep, h1, h2, h3, h4, fun x hx => ?_, h5⟩
  have all : ∀ {l : List (List Key × V)} {m : List (List Key × Addr × Value)}, KT H l m → ∀ x ∈ m, (tupleKind (mixKind P w)).is h x.1 x.2.1 := by
    intro l m q
    induction q with
    | nil => intro x hx; exact nomatch hx
    | @cons p q ps qs hq t ih =>
      intro x hx
      rcases List.mem_cons.mp hx with e | hx
      · subst e
        exact key_of ok (by rw [← hq.1]; exact hq.2.1)
      · exact ih x hx
  exact all r x hx
theorem dt_of {kvs : List (List Key × V)} (ok : HOk P w H h) (e : H a = some (.dT kvs)) : kvs.length ≤ sizeLine ∧ (a == sysModules) = false ∧
    ∃ xs, KT H kvs xs ∧ h.DictOfH (tupleKind (mixKind P w)) a xs := dt_rd ok (.inl e)
end

/-- what the dict at a holds at the key y -/
def DGet (H : Hp) (a : Addr) (y : V) (r : Option V) : Prop :=
  (∃ kvs k, Rd H a (.dK kvs) ∧ y = kV k ∧ r = valV kvs k) ∨ ∃ kvs k b, Rd H a (.dT kvs) ∧ y = .ref b ∧ H b = some (.tup (k.map kV)) ∧ r = valV kvs k
/-- the heap behind a[y] = v -/
def DPut (H : Hp) (a : Addr) (y v : V) (H' : Hp) : Prop :=
  (∃ kvs k, H a = some (.dK kvs) ∧ y = kV k ∧ kvs.length < sizeLine ∧ H' = upd H a (.dK (putK kvs k v))) ∨
  ∃ kvs k b, H a = some (.dT kvs) ∧ y = .ref b ∧ H b = some (.tup (k.map kV)) ∧ kvs.length < sizeLine ∧ H' = upd H a (.dT (putK kvs k v))
theorem DGet.k {H : Hp} {a : Addr} {kvs : List (Key × V)} {k : Key} (e : H a = some (.dK kvs)) : DGet H a (kV k) (valV kvs k) := .inl ⟨kvs, k, .inl e, rfl, rfl⟩
theorem DPut.k {H : Hp} {a : Addr} {kvs : List (Key × V)} {k : Key} {v : V} (e : H a = some (.dK kvs)) (hl : kvs.length < sizeLine) : DPut H a (kV k) v (upd H a (.dK (putK kvs k v))) := .inl ⟨kvs, k, e, rfl, hl, rfl⟩


section
variable {X : Cx} {pins : List (Addr × Obj)} {σ : St} {H : Hp} {s : Shared} {a : Addr} {y v : V} {u r : Value} {o : Option V} {A : Around} {E : Value → Shared → Prop}

theorem Inv.big (I : Inv X pins σ H s) : sysModules < s.heap.objs.size := by
  have h : mainGlobals < s.heap.objs.size := (I.mod.glob.keeps I.bk).lt
  exact Nat.lt_trans (by decide) h

/-- d[y], there -/
theorem d_getItem {Q : Value → Shared → Prop} (hu : A.units + 1 < cLine) (I : Inv X pins σ H s) (g : DGet H a y (some v)) (ry : RelV y u) (h : ∀ w' s', Inv X pins σ H s' → RelV v w' → Q w' s') :
    wpAny (model X.prog X.w) A (getItem (.ref a) u) Q E s := by
  rcases g with ⟨kvs, k, e, ey, l⟩ | ⟨kvs, k, b, e, ey, eb, l⟩
  · subst ey
    obtain ⟨z, hd, vs, rel, dd⟩ := dk_rd I.hok e
    obtain ⟨w', hw, rw'⟩ := RelO.some_of (v := v) (o := valueAt vs k) (by rw [l]; exact rel.val k)
    exact wpAny_getItem_of (kV_is ry) dd.mapOf hw (h w' _ (I.tok _) rw')
  · subst ey
    cases (show u = Value.ref b from ry)
    obtain ⟨z, hd, xs, rel, dd⟩ := dt_rd I.hok e
    obtain ⟨w', hw, rw'⟩ := RelO.some_of (v := v) (o := (atKey xs k).map (·.2)) (by rw [l]; exact rel.val k)
    obtain ⟨p, hp, hp2⟩ := Option.map_eq_some_iff.mp hw
    refine wpAny_getItem_heap (tupleKind_room_in1 hu) (key_of I.hok eb) dd hp ?_
    rw [hp2]
    exact h w' _ (I.tok _) rw'
/-- y in d -/
theorem d_in {Q : Value → Shared → Prop} (hu : A.units + 1 < cLine) (I : Inv X pins σ H s) (g : DGet H a y o) (ry : RelV y u) (h : ∀ s', Inv X pins σ H s' → Q (.bool o.isSome) s') :
    wpAny (model X.prog X.w) A (compareOp .In u (.ref a)) Q E s := by
  rcases g with ⟨kvs, k, e, ey, l⟩ | ⟨kvs, k, b, e, ey, eb, l⟩
  · subst ey
    obtain ⟨z, hd, vs, rel, dd⟩ := dk_rd I.hok e
    refine wpAny_in_of (kV_is ry) hd dd.mapOf ?_
    rw [← (rel.val k).isSome_eq, ← l]
    exact h _ (I.tok _)
  · subst ey
    cases (show u = Value.ref b from ry)
    obtain ⟨z, hd, xs, rel, dd⟩ := dt_rd I.hok e
    refine wpAny_in_heap (tupleKind_room_in1 hu) (key_of I.hok eb) hd dd ?_
    have q := (rel.val k).isSome_eq
    rw [Option.isSome_map] at q
    rw [← q, ← l]
    exact h _ (I.tok _)
theorem d_notIn {Q : Value → Shared → Prop} (hu : A.units + 1 < cLine) (I : Inv X pins σ H s) (g : DGet H a y o) (ry : RelV y u) (h : ∀ s', Inv X pins σ H s' → Q (.bool (!o.isSome)) s') :
    wpAny (model X.prog X.w) A (compareOp .NotIn u (.ref a)) Q E s := by
  rcases g with ⟨kvs, k, e, ey, l⟩ | ⟨kvs, k, b, e, ey, eb, l⟩
  · subst ey
    obtain ⟨z, hd, vs, rel, dd⟩ := dk_rd I.hok e
    refine wpAny_notIn_of (kV_is ry) hd dd.mapOf ?_
    rw [← (rel.val k).isSome_eq, ← l]
    exact h _ (I.tok _)
  · subst ey
    cases (show u = Value.ref b from ry)
    obtain ⟨z, hd, xs, rel, dd⟩ := dt_rd I.hok e
    refine wpAny_notIn_heap (tupleKind_room_in1 hu) (key_of I.hok eb) hd dd ?_
    have q := (rel.val k).isSome_eq
    rw [Option.isSome_map] at q
    rw [← q, ← l]
    exact h _ (I.tok _)
/-- a dict's object is replaced -/
theorem d_write {h' : Heap} {t' : Nat} {ob : HO} (I : Inv X pins σ H s) (mu : Mut (H a)) (hs : Heap.SameBut a s.heap h') (he : ∃ q, h'.get? a = some q) (new : ObjOk X.prog X.w (upd H a ob) h' a ob) :
    Inv X pins σ (upd H a ob) { s with heap := h', toks := t' } :=
  I.write (x := a) (e := a) mu (.inl rfl) (fun b q hb z => (hs.2 b hb).trans z) he new
theorem dk_new {P : Program} {w : World} {H' : Hp} {h' : Heap} {kvs : List (Key × V)} {vs : List (Key × Value)} (z : kvs.length ≤ sizeLine) (hd : (a == sysModules) = false) (rel : KV kvs vs) (dd : h'.DictOf (mixKind P w) a vs) :
    ObjOk P w H' h' a (.dK kvs) := ⟨z, hd, vs, rel, dd⟩
/-- d[y] = v -/
theorem d_setItem {H' : Hp} {Q : Unit → Shared → Prop} (hu : A.units + 1 < cLine) (I : Inv X pins σ H s) (g : DPut H a y v H') (ry : RelV y u) (rv : RelV v r) (h : ∀ s', Inv X pins σ H' s' → Q () s') :
    wpAny (model X.prog X.w) A (setItem (.ref a) u r) Q E s := by
  rcases g with ⟨kvs, k, e, ey, l, eH⟩ | ⟨kvs, k, b, e, ey, eb, l, eH⟩
  · subst ey eH
    obtain ⟨z, hd, vs, rel, dd⟩ := dk_of I.hok e
    have hz : vs.length ≤ sizeLine := by rw [← rel.length]; exact z
    have hl : (putK kvs k v).length ≤ sizeLine := by have := length_putK kvs k v; omega
    refine wpAny_setItem_pairs (hsz := hz) (kV_is ry) dd fun h' dd' hs => h _ ?_
    have he : ∃ q, h'.get? a = some q := let ⟨q, _, _, hq, _⟩ := dd'; ⟨q, hq⟩
    exact d_write I (by rw [e]; exact True.intro) hs he (dk_new hl hd (rel.put k rv) dd')
  · subst ey eH
    cases (show u = Value.ref b from ry)
    obtain ⟨z, hd, xs, rel, dd⟩ := dt_of I.hok e
    have hz : xs.length ≤ sizeLine := by rw [← Paired.length rel]; exact z
    have hl : (putK kvs k v).length ≤ sizeLine := by have := length_putK kvs k v; omega
    refine wpAny_setItem_heap (hsz := hz) (tupleKind_room_in1 hu) (key_of I.hok eb) dd fun h' dd' hs => h _ ?_
    obtain ⟨q, es, ep, hq, h2, h3, h4, _, h5⟩ := dd'
    refine d_write I (by rw [e]; exact True.intro) hs ⟨q, hq⟩ ⟨hl, hd, _, (rel.put k eb rv).keeps fun c ys ec => ?_, q, es, ep, hq, h2, h3, h4, h5⟩
    rw [upd_ne (ne_of ec e (fun z => nomatch z))]
    exact ec
end

section
variable {X : Cx} {pins : List (Addr × Obj)} {σ : St} {H : Hp} {s : Shared} {a : Addr} {kvs : List (Key × V)} {k : Key} {u : Value} {A : Around} {E : Value → Shared → Prop}
end


/-! ### readings and rules -/
/-- the element of a subscription, not a slice -/
def NoSl (i : Expr) : Prop := ∀ ov iv, subscripted i false ov iv = operate [ov, iv] (getItem ov iv)
theorem subD_of {prog : Program} {w : World} {A : Around} {E : Value → Shared → Prop} {s : Shared} {env : Env} {value slice : Expr} {pos : Pos} {T id : String} {Q : Value → Shared → Prop}
    (hl : typeLookup (.type T) "__getitem__" = pure (some (.builtin id))) (hs : NoSl slice)
    (h : wpAny (model prog w) A (eval value env) (fun o s₁ => wpAny (model prog w) A (eval slice env) (fun i s₂ => s₂.TypeIs o T ∧ wpAny (model prog w) A (getItem o i) Q E s₂) E s₁) E s) :
    wpAny (model prog w) A (eval (.Subscript value slice pos) env) Q E s := by
  refine Subscript_ (wpAny_mono h (fun o s₁ h₁ => wpAny_mono h₁ (fun i s₂ h₂ => ?_) fun _ _ x => x) fun _ _ x => x)
  obtain ⟨hT, h₂⟩ := h₂
  unfold subscriptTail
  refine wpAny_bind ?_
  rw [getitemInPython_of_ne hT.not_modules]
  refine wpAny_bind (wpAny_specialOf hT hl ?_)
  have fin : wpAny (model prog w) A (subscripted slice false o i) (fun r s₃ => wpAny (model prog w) A (letTemporaryGo value o r >>= fun _ => pure r) Q E s₃) E s₂ := by
    rw [hs o i]
    exact wpAny_operating (wpAny_mono h₂ (fun r s₃ h₃ => wpAny_bind (wpAny_letTemporaryGo (wpAny_pure h₃))) fun _ _ x => x)
  first
    | exact wpAny_pure (wpAny_bind fin)
    | exact wpAny_bind (wpAny_pure (wpAny_bind fin))
    | exact wpAny_bind fin

theorem dict_typeIs {X : Cx} {pins : List (Addr × Obj)} {σ : St} {H : Hp} {s : Shared} {a : Addr} {y : V} {o : Option V} (I : Inv X pins σ H s) (g : DGet H a y o) : s.TypeIs (.ref a) "dict" := by
  rcases g with ⟨kvs, k, e, _, _⟩ | ⟨kvs, k, b, e, _, _, _⟩
  · obtain ⟨_, _, vs, _, dd⟩ := dk_rd I.hok e
    exact dd.typeIs
  · obtain ⟨_, _, xs, _, dd⟩ := dt_rd I.hok e
    exact dd.typeIs

/-- d[y] -/
def tDGet (td ty : TE) : TE := fun σ H Q => td σ H fun x H1 => ty σ H1 fun y H2 => ∃ a v, x = .ref a ∧ DGet H2 a y (some v) ∧ Q v H2
/-- y in d, y not in d -/
def tDIn (ty td : TE) : TE := fun σ H Q => ty σ H fun y H1 => td σ H1 fun x H2 => ∃ a o, x = .ref a ∧ DGet H2 a y o ∧ Q (.bl o.isSome) H2
def tDNotIn (ty td : TE) : TE := fun σ H Q => ty σ H fun y H1 => td σ H1 fun x H2 => ∃ a o, x = .ref a ∧ DGet H2 a y o ∧ Q (.bl (!o.isSome)) H2
/-- d[y] = v -/
def sDPut (td ty tv : TE) : TS := fun D σ H => tv σ H fun v H1 => td σ H1 fun x H2 => ty σ H2 fun y H3 => ∃ a H4, x = .ref a ∧ DPut H3 a y v H4 ∧ D.nx σ H4

section
variable {X : Cx} {o i e value : Expr} {pos pos' tpos : Pos} {td ty tv : TE}
theorem pe_dget (hu : X.A.units + 1 < cLine) (ho : PE X o td) (hi : PE X i ty) (hs : NoSl i) : PE X (.Subscript o i pos) (tDGet td ty) := by
  intro pins s σ H Q I h
  refine subD_of PySem.F.slot_dict_getitem.lookup hs (thn (ho pins s σ H _ I h) fun u s1 ⟨x, H1, I1, rx, q1⟩ => thn (hi pins s1 σ H1 _ I1 q1) fun iv s2 ⟨y, H2, I2, ry, a, v, ex, g, q2⟩ => ?_)
  subst ex
  obtain rfl : u = Value.ref a := rx
  exact ⟨dict_typeIs I2 g, d_getItem hu I2 g ry fun w' s3 I3 rw' => ⟨v, H2, I3, rw', q2⟩⟩
theorem pc_din (hu : X.A.units + 1 < cLine) (hi : PE X i ty) (ho : PE X o td) : PC X .In i o (tDIn ty td) := by
  intro pins s σ H Q I h
  refine thn (hi pins s σ H _ I h) fun iv s1 ⟨y, H1, I1, ry, q1⟩ => thn (ho pins s1 σ H1 _ I1 q1) fun u s2 ⟨x, H2, I2, rx, a, ov, ex, g, q2⟩ => ?_
  subst ex
  obtain rfl : u = Value.ref a := rx
  exact d_in hu I2 g ry fun s3 I3 => ⟨.bl ov.isSome, H2, I3, rfl, q2⟩
theorem pc_dnotin (hu : X.A.units + 1 < cLine) (hi : PE X i ty) (ho : PE X o td) : PC X .NotIn i o (tDNotIn ty td) := by
  intro pins s σ H Q I h
  refine thn (hi pins s σ H _ I h) fun iv s1 ⟨y, H1, I1, ry, q1⟩ => thn (ho pins s1 σ H1 _ I1 q1) fun u s2 ⟨x, H2, I2, rx, a, ov, ex, g, q2⟩ => ?_
  subst ex
  obtain rfl : u = Value.ref a := rx
  exact d_notIn hu I2 g ry fun s3 I3 => ⟨.bl (!ov.isSome), H2, I3, rfl, q2⟩
theorem ps_dput (hu : X.A.units + 1 < cLine) (ho : PE X o td) (hi : PE X i ty) (hv : PE X value tv) (hs : swapsWith value (some (.Subscript o i pos')) pos.line X.env = pure false) :
    PS X (.Assign [.Subscript o i pos'] value pos) (sDPut td ty tv) := by
  intro pins s σ H D I h
  refine wpAny_Assign_Subscript (thn (hv pins s σ H _ I h) fun r s1 ⟨v, H1, I1, rv, q1⟩ => thn (ho pins s1 σ H1 _ I1 q1) fun u s2 ⟨x, H2, I2, rx, q2⟩ => thn (hi pins s2 σ H2 _ I2 q2) fun iv s3 ⟨y, H3, I3, ry, a, H4, ex, g, q3⟩ => ?_) hs
  subst ex
  obtain rfl : u = Value.ref a := rx
  exact d_setItem hu I3 g ry rv fun s4 I4 => ⟨σ, H4, I4, q3⟩
end


/-! ### displays -/
theorem dk_empty {P : Program} {w : World} {H : Hp} (h : Heap) (hb : sysModules < h.objs.size) : ObjOk P w H (h.push { cls := .type "dict", data := .dict #[] }) h.objs.size (.dK []) :=
  ⟨Nat.zero_le _, beq_eq_false_iff_ne.mpr (Ne.symm (Nat.ne_of_lt hb)), [], .nil, Heap.DictOf.new h⟩
/-- {}, to be a dict of the kind that is wanted -/
def tDNewK : TE := fun _ H Q => ∀ p, H p = none → Q (.ref p) (upd H p (.dK []))
section
variable {X : Cx} {pos : Pos}
theorem pe_dnewK : PE X (.Dict [] [] pos) tDNewK := fun pins s σ H Q I h =>
  wpAny_Dict_empty ⟨.ref s.heap.objs.size, _, I.laid (a := s.heap.objs.size) (o := .dK []) (t' := s.toks) (fun _ _ q => Heap.get?_push_of_some _ q) (Nat.le_refl _) (dk_empty s.heap I.big), rfl, h _ (I.hok.fresh (Nat.le_refl _))⟩
end




/-! ### methods -/


section
variable {X : Cx} {pins : List (Addr × Obj)} {σ : St} {H : Hp} {s : Shared} {a : Addr} {y d : V} {u r : Value} {o : Option V} {A : Around} {E : Value → Shared → Prop}
end

section
variable {X : Cx} {o e f : Expr} {apos cpos : Pos} {td ty tx : TE}
end

/-! ### dict(d): a copy -/
section
variable {X : Cx} {pins : List (Addr × Obj)} {σ : St} {H : Hp} {s : Shared} {a : Addr} {kvs : List (Key × V)} {A : Around} {E : Value → Shared → Prop}
end


section
variable {X : Cx} {pins : List (Addr × Obj)} {σ : St} {H : Hp} {s : Shared} {a : Addr} {y : V} {u : Value} {A : Around} {E : Value → Shared → Prop}
end
end L2
namespace L2
open PySem PySem.Spec PyProof.Rows
section
variable {X : Cx}
end
end L2
end
section
set_option maxRecDepth 100000
set_option maxHeartbeats 4000000
namespace LX
open PySem PySem.W

/-- an exception's object, as it stands: class, attributes' dict, its fields -/
def excRec (c : Value) (od : Option Addr) (fs : Array Value) (sl : Array (Option Value)) : Obj := { cls := c, dict := od, data := .fields fs, slots := sl }
/-- the object of a class of errors -/
def clsRec (dd : Option Addr) (cd : ClassData) (k0 k1 k2 k3 k5 : Option Value) : Obj := { cls := .type "type", dict := dd, data := .cls cd, slots := #[k0, k1, k2, k3, some (.builtin "ValueError.__new__"), k5] }

/-- a class of errors of the text's own, under ValueError -/
structure XCls (K : Frag) (C : Addr) (cd : ClassData) : Prop where
  ob : ∃ dd k0 k1 k2 k3 k5, K.lookup C = some (clsRec dd cd k0 k1 k2 k3 k5)
  del : cd.hasDel = false
  line : ∃ r, cd.mro = .ref C :: r
  val : cd.mro.contains (.type "ValueError") = true
  bas : cd.mro.contains (.type "BaseException") = true
  obj : cd.mro.contains (.type "object") = true
  atr : cd.mro.contains (.type "AttributeError") = false
  nam : cd.mro.contains (.type "NameError") = false

/-- the same as a test -/
def xclsIn (K : Frag) (C : Addr) : Bool := match K.lookup C with
  | some ⟨.type "type", _, .cls cd, sl⟩ => (match cd.mro, sl.toList with
    | .ref D :: _, [_, _, _, _, some (.builtin n), _] => D == C && n == "ValueError.__new__" && !cd.hasDel && cd.mro.contains (.type "ValueError") && cd.mro.contains (.type "BaseException") &&
        cd.mro.contains (.type "object") && !cd.mro.contains (.type "AttributeError") && !cd.mro.contains (.type "NameError")
    | _, _ => false)
  | _ => false
theorem xcls_of {K : Frag} {C : Addr} (e : xclsIn K C = true) : ∃ cd, clsIn K C = some cd ∧ XCls K C cd := by
  unfold xclsIn at e
  split at e
  · rename_i dd cd sl ho
    split at e
    · rename_i D r k0 k1 k2 k3 n k5 hm hs
      simp only [Bool.and_eq_true, beq_iff_eq, Bool.not_eq_true'] at e
      obtain ⟨⟨⟨⟨⟨⟨⟨rfl, rfl⟩, e1⟩, e2⟩, e3⟩, e4⟩, e5⟩, e6⟩ := e
      obtain ⟨sl⟩ := sl
      simp only at hs
      subst hs
      exact ⟨cd, by unfold clsIn; rw [ho], ⟨dd, k0, k1, k2, k3, k5, ho⟩, e1, ⟨r, hm⟩, e2, e3, e4, e5, e6⟩
    · cases e
  · cases e

section
variable {K : Frag} {C : Addr} {cd : ClassData} {M : Model} {h : Heap}
theorem XCls.cls (x : XCls K C cd) : clsIn K C = some cd := by
  obtain ⟨dd, k0, k1, k2, k3, k5, e⟩ := x.ob
  unfold clsIn
  rw [e]
  rfl
theorem XCls.notEmpty (x : XCls K C cd) : cd.mro.isEmpty = false := by
  obtain ⟨r, e⟩ := x.line
  rw [e]
  rfl
theorem XCls.sub (x : XCls K C cd) (X : K.In h) (v : Value) : Looks M h (isSubtype (.ref C) v) (cd.mro.contains v) :=
  looks_mroIn X (by unfold mroIn; rw [x.cls, Option.bind_some, if_neg (by rw [x.notEmpty]; decide)])
theorem XCls.mro (x : XCls K C cd) (X : K.In h) : Looks M h (mroOf (.ref C)) cd.mro := (looks_clsIn X x.cls).andThen .now
theorem XCls.typ (x : XCls K C cd) (X : K.In h) : Looks M h (typeOf (.ref C)) (.type "type") := by
  obtain ⟨dd, k0, k1, k2, k3, k5, e⟩ := x.ob
  exact (Looks.ld (X _ _ e)).andThen .now
theorem XCls.isTy (x : XCls K C cd) (X : K.In h) : Looks M h (isType (.ref C)) true := by
  obtain ⟨dd, k0, k1, k2, k3, k5, e⟩ := x.ob
  intro A Q E s k q
  unfold isType loadHead
  exact wpAny_bind (wpAny_loadPart (k _ _ (X _ _ e)) (wpAny_pure q))
theorem XCls.madeBy (x : XCls K C cd) (X : K.In h) : Looks M h (Bind.madeBy (.ref C)) (some "ValueError.__new__") := by
  obtain ⟨dd, k0, k1, k2, k3, k5, e⟩ := x.ob
  obtain ⟨r, hr⟩ := x.line
  intro A Q E s k q
  unfold Bind.madeBy
  refine wpAny_bind (x.mro X A _ E s k ?_)
  rw [hr, List.forIn_cons]
  refine wpAny_bind (wpAny_bind (wpAny_bind (wpAny_bind (wpAny_loadPart (k _ _ (X _ _ e)) (wpAny_pure ?_)))))
  exact wpAny_pure (wpAny_pure (wpAny_pure q))
theorem XCls.static (x : XCls K C cd) (X : K.In h) : Looks M h (Bind.staticBase (.ref C)) (.ref C) := by
  obtain ⟨r, hr⟩ := x.line
  intro A Q E s k q
  unfold Bind.staticBase
  refine wpAny_bind (x.mro X A _ E s k ?_)
  rw [hr, List.forIn_cons]
  exact wpAny_bind (wpAny_bind (wpAny_bind (x.madeBy X A _ E s k (wpAny_pure (wpAny_pure (wpAny_pure q))))))
theorem canonVE : Manifest.canonical "ValueError.__new__" = Manifest.canonical "BaseException.__new__" := PySem.F.excBase_ValueError.canon
theorem XCls.here (x : XCls K C cd) (X : K.In h) : Looks M h (Bind.madeHere "BaseException.__new__" (.ref C)) () :=
  (x.static X).andThen ((x.madeBy X).andThen (Looks.of_pure (by simp only [Option.map_some, canonVE, bne_self_eq_false, Bool.false_eq_true, if_false])))
end

/-- behind __init__ -/
def Back (x : Addr) (R : Result → Shared → Prop) (r : Result) (s' : Shared) : Prop := match r with
  | .ok (.ret v) => v = .none ∧ R (.ok (.ret (.ref x))) s'
  | .ok _ => False
  | .error e => R (.error e) s'
/-- a new exception's record -/
abbrev newRec (C t : Addr) : Obj := excRec (.ref C) none #[.ref t, .none, .none, .none, .bool false, .none] #[]
abbrev tupRec (vs : List Value) : Obj := { cls := .type "tuple", data := .seq vs.toArray }
/-- the heap with a new exception -/
abbrev withNew (h : Heap) (C : Addr) (vs : List Value) : Heap := (h.push (tupRec vs)).push (newRec C h.objs.size)

section
variable {prog : Program} {w : World} {A : Around} {R : Result → Shared → Prop} {h : Heap} {g : Array GenState} {d : Drawn} {t : Nat} {os : OsState} {K : Frag} {C : Addr} {cd : ClassData} {vs : List Value}

theorem made_new (x : XCls K C cd) (X : K.In h) (hv : vs.length ≤ sizeLine) (k : R (.ok (.ret (.ref (h.objs.size + 1)))) ⟨withNew h C vs, g, d, t, os⟩) :
    codeAny (model prog w) A (.call (.builtin "ValueError.__new__") ⟨.ref C :: vs, []⟩) R ⟨h, g, d, t, os⟩ := by
  have F := PySem.F.excBase_ValueError
  have st := x.static (M := model prog w) X
  have ty := x.isTy (M := model prog w) X
  have mb := x.madeBy (M := model prog w) X
  have hh := x.here (M := model prog w) X
  have s1 := x.sub (M := model prog w) X (.type "ValueError")
  rw [x.val] at s1
  have s2 := x.sub (M := model prog w) X (.type "AttributeError")
  rw [x.atr] at s2
  have s3 := x.sub (M := model prog w) X (.type "NameError")
  rw [x.nam] at s3
  refine codeAny_call_builtin_code (Code.quiet_builtin _ F.quiet) ?_
  have star := F.noStar
  simp only [checkBuiltinCall, F.newKind, F.newSplit, F.newRow]
  repeat (first | simp only [bne_self_eq_false, Bool.false_eq_true, if_false, Bool.not_true] | lk)
  refine codeAny_builtinAt F.entry ?_
  unfold Builtin.«BaseException.__new__»
  refine wpAt_bind ?_
  show wpAt _ _ _ (stack >>= _) _ _ _
  refine wpAt_bind (wpAt_stack fun p below => wpAt_of_wpAny ?_)
  have hends := F.ends
  wp_walk
  refine wpAt_of_wpAny ?_
  rw [F.owner]
  repeat (first | simp only [bne_self_eq_false, Bool.false_eq_true, if_false, Bool.not_true] | lk)
  rw [if_neg (by rw [List.size_toArray]; omega)]
  obtain ⟨dd, k0, k1, k2, k3, k5, ho⟩ := x.ob
  repeat lk
  refine nd_load (Heap.get?_push_of_some _ (Heap.get?_push_of_some _ (X _ _ ho))) (wpAny_pure (wpAny_pure ?_))
  rw [x.del, if_neg Bool.false_ne_true]
  refine wpAny_pure (wpAny_pure ?_)
  show R _ _
  rw [Heap.size_push]
  exact k

/-- C(..) of an error class of the text's own whose __init__ is a def of the text -/
theorem exc_made {f : Addr} (x : XCls K C cd) (X : K.In h) (hi : findIn K (.ref C) "__init__" = some (some (.ref f))) (hf : typeIn K (.ref f) = some (.type "function")) (hv : vs.length ≤ sizeLine)
    (k : codeAny (model prog w) (A.under (.builtin "type.__call__" ⟨.ref C :: vs, []⟩)) (.call (.ref f) ⟨.ref (h.objs.size + 1) :: vs, []⟩) (Back (h.objs.size + 1) R) ⟨withNew h C vs, g, d, t, os⟩) :
    codeAny (model prog w) A (.call (.ref C) ⟨vs, []⟩) R ⟨h, g, d, t, os⟩ := by
  obtain ⟨dd, k0, k1, k2, k3, k5, ho⟩ := x.ob
  have hC := X _ _ ho
  have ht := x.typ (M := model prog w) X
  refine codeAny_of_tree ?_
  show wpAny _ _ (callAny (.ref C) _) _ _ _
  refine nd_load hC ?_
  show wpAny _ _ (callAny.viaDunder (.ref C) _) _ _ _
  unfold callAny.viaDunder
  have sp : Looks (model prog w) h (specialOf (.ref C) "__call__") (some (.builtin "type.__call__")) := ht.andThen (Looks.of_pure tc_lookup)
  refine wpAny_bind (sp.at ?_)
  dsimp only
  rw [tc_bind]
  refine wpAny_bind (wpAny_pure (wpAny_bind (wpAny_pure ?_)))
  refine wpAny_pure (a := Fin.again (.call (.builtin "type.__call__") ⟨.ref C :: vs, []⟩)) (And.intro rfl ?_)
  refine codeAny_call_builtin_at (Code.quiet_builtin _ (by decide +kernel)) entry_typeCall (check_slot tc_kind tc_split (ht.andThen (Looks.of_pure tc_sub)) (tc_args _ _ _) ?_)
  unfold Builtin.«type.__call__»
  have hm := x.mro (M := model prog w) X
  have em := x.notEmpty
  have mb := x.madeBy (M := model prog w) X
  repeat (first | simp only [em, Bool.false_eq_true, if_false] | with_reducible refine wpAny_call ?_ | lk)
  refine made_new x X hv ?_
  have kp : ∀ b o, h.get? b = some o → (withNew h C vs).get? b = some o := fun b o e => Heap.get?_push_of_some _ (Heap.get?_push_of_some _ e)
  have X1 : K.In (withNew h C vs) := X.keeps kp
  have hx : (withNew h C vs).get? (h.objs.size + 1) = some (newRec C h.objs.size) := by heap_get
  have t1 : Looks (model prog w) (withNew h C vs) (typeOf (.ref (h.objs.size + 1))) (.ref C) := (Looks.ld hx).andThen .now
  have s1 := x.sub (M := model prog w) X1 (.ref C)
  obtain ⟨r, hr⟩ := x.line
  rw [show cd.mro.contains (.ref C) = true by rw [hr]; simp] at s1
  have i1 := looks_findIn (M := model prog w) X1 hi
  have b1 := bind_fn (M := model prog w) X1 (.ref (h.objs.size + 1)) hf
  unfold isInstance callSpecial? specialOf
  repeat (first | with_reducible refine wpAny_call ?_ | lk)
  refine codeAny_mono k fun r s' z => ?_
  rcases r with e | (v | _ | _ | _) <;> first | exact z | exact z.elim | skip
  obtain ⟨rfl, z⟩ := z
  exact wpAny_pure (wpAny_pure z)
end
end LX
end
section
set_option maxRecDepth 100000
set_option maxHeartbeats 4000000
namespace LX
open PySem PySem.W
section
variable {prog : Program} {w : World} {A : Around} {E : Value → Shared → Prop} {h : Heap} {g : Array GenState} {d : Drawn} {t : Nat} {os : OsState} {K : Frag} {C e t0 : Addr} {cd : ClassData} {vs : List Value} {od : Option Addr} {fs : Array Value} {sl : Array (Option Value)}

theorem rec_type {M : Model} (he : h.get? e = some (excRec (.ref C) od fs sl)) : Looks M h (typeOf (.ref e)) (.ref C) := (Looks.ld he).andThen .now

/-- ValueError.__init__(e, ..): the arguments are kept anew -/
theorem init_called {Q : Value → Shared → Prop} (x : XCls K C cd) (X : K.In h) (he : h.get? e = some (excRec (.ref C) od fs sl)) (h0 : fs[0]? = some (.ref t0)) (hv : vs.length ≤ sizeLine)
    (k : Q .none ⟨(h.push (tupRec vs)).update e (Obj.mapFields (·.setIfInBounds 0 (.ref h.objs.size))), g, d, t, os⟩) :
    wpAny (model prog w) A (call (.builtin "ValueError.__init__") (.ref e :: vs)) Q E ⟨h, g, d, t, os⟩ := by
  have F := PySem.F.excBase_ValueError
  have ty := rec_type (M := model prog w) he
  have s1 := x.sub (M := model prog w) X (.type "ValueError")
  rw [x.val] at s1
  obtain ⟨dd, k0, k1, k2, k3, k5, ho⟩ := x.ob
  have hC : h.get? C = some ⟨.type "type", dd, .cls cd, #[k0, k1, k2, k3, some (.builtin "ValueError.__new__"), k5]⟩ := X _ _ ho
  have star := F.noStar
  refine wpAny_call (codeAny_call_builtin F.init.plain F.initEntry ?_)
  simp only [checkBuiltinCall, F.initKind, F.initSplit, F.initRow]
  unfold isInstance Bind.checkArgs
  refine wpAny_bind (wpAny_bind (ty.at (s1.at ?_)))
  simp only [Bool.false_eq_true, if_false, Bool.not_true]
  refine wpAny_bind (m := Bind.printed "*" true _ _) ?_
  unfold Bind.printed Bind.receiverType typeNameWhole
  rw [if_neg (by decide)]
  dsimp only
  rw [if_neg (by decide)]
  refine wpAny_bind (ty.at ?_)
  refine wpAny_bind (wpAny_bind ((looks_clsIn X x.cls).at (wpAny_pure (wpAny_pure ?_))))
  refine wpAny_bind (m := if ("ValueError" != "*") = true then pure "ValueError" else _) ?_
  rw [if_pos star]
  refine wpAny_pure (wpAny_onRaise ?_)
  show wpAny _ _ (Bind.check _ _ _ _ []) _ _ _
  rw [PyProof.Rows.check_varPos]
  refine wpAny_pure ?_
  unfold Builtin.«BaseException.__init__»
  dsimp only
  rw [if_neg (by simp)]
  unfold newTuple Builtin.BaseException.bexcPut
  have hsz : 0 < fs.size := (Array.getElem?_eq_some_iff.mp h0).1
  have e1 := Heap.get?_push_of_some (h := h) (tupRec vs) he
  refine wpAny_bind (wpAny_newObj_type ?_ (by show vs.toArray.size ≤ sizeLine; rw [List.size_toArray]; exact hv))
  refine wpAny_bind (wpAny_bind (wpAny_field (s := ⟨h.push (tupRec vs), g, d, t, os⟩) e1 rfl h0 ?_))
  refine wpAny_bind (wpAny_setField (s := ⟨h.push (tupRec vs), g, d, t, os⟩) e1 rfl hsz ?_)
  exact wpAny_letGo (wpAny_pure k)
end
end LX
end
section
set_option maxRecDepth 100000
set_option maxHeartbeats 4000000
namespace LX
open PySem PySem.W
section
variable {prog : Program} {w : World} {A : Around} {E : Value → Shared → Prop} {s : Shared} {K : Frag}
theorem ve_find : findCls K (.type "ValueError") (.type "type") "__init__" = some (.val (.builtin "ValueError.__init__")) := by kernel_rfl
theorem ve_ga : findIn K (.type "type") "__getattribute__" = some (some (.builtin "type.__getattribute__")) := by kernel_rfl
theorem ve_typ {M : Model} {h : Heap} : Looks M h (typeOf (.type "ValueError")) (.type "type") := Looks.of_pure (by kernel_rfl)
theorem ve_sub : subIn K (.type "type") (.type "type") = some true := by kernel_rfl
theorem ve_opq {M : Model} {h : Heap} : Looks M h (opaqueClassAbove (.type "ValueError")) none := Looks.of_pure (by kernel_rfl)
/-- ValueError.__init__, as it is called -/
theorem ve_init {pl : Sem Bool} {Q : Value × List Value → Shared → Prop} (X : K.In s.heap) (k : Q (.builtin "ValueError.__init__", []) { s with toks := s.toks + 1 }) :
    wpAny (model prog w) A (getMethod (.type "ValueError") "__init__" pl) Q E s := by
  have sp : Looks (model prog w) s.heap (specialOf (.type "ValueError") "__getattribute__") (some (.builtin "type.__getattribute__")) := ve_typ.andThen (looks_findIn X ve_ga)
  unfold getMethod
  refine wpAny_bind (sp.here ?_)
  dsimp only
  rw [if_pos canon_tga]
  refine wpAny_bind (cls_open (hook := none) X ve_opq ve_typ ve_ga (Looks.of_pure (by kernel_rfl)) ve_sub ve_find ?_)
  refine wpAny_pure ?_
  show wpAny _ _ (handedOut _) _ _ _
  rw [handedOut_of (by kernel_rfl)]
  exact wpAny_pure (wpAny_pure k)
end
end LX
end
section
set_option maxRecDepth 100000
set_option maxHeartbeats 4000000
namespace LX
open PySem PySem.W
section
variable {prog : Program} {w : World} {A : Around} {E : Value → Shared → Prop} {s : Shared} {K : Frag} {env : Env}
/-- what is raised: an exception of a class of the text's own, not raised yet -/
def RaisableX (K : Frag) (E : Value → Shared → Prop) (v : Value) (s1 : Shared) : Prop :=
  ∃ (ea C : Addr) (cd : ClassData) (od : Option Addr) (fs : Array Value) (sl : Array (Option Value)), v = .ref ea ∧ s1.heap.get? ea = some (excRec (.ref C) od fs sl) ∧ fs[1]? = some .none ∧ XCls K C cd ∧ K.In s1.heap ∧ E (.ref ea) s1
theorem raise_own {e : Expr} {pos : Pos} {Q : Flow → Shared → Prop} (hh : A.handled = none) (k : wpAny (model prog w) A (eval e env) (RaisableX K E) E s) :
    wpAny (model prog w) A (exec (.Raise (some e) none pos) env) Q E s := by
  show wpAny (model prog w) A (do standAt pos; raiseStmt env (some (do let v ← eval e env; standAt pos; pure v)) none) Q E s
  refine wpAny_bind (wpAny_standAt ?_)
  unfold raiseStmt
  dsimp only
  refine wpAny_bind (wpAny_bind (wpAny_mono k (fun v s1 q => wpAny_bind (wpAny_standAt (wpAny_pure ?_))) fun _ _ z => z))
  obtain ⟨ea, C, cd, od, fs, sl, rfl, he, h1, x, X, hE⟩ := q
  obtain ⟨hp, g, d, tk, os⟩ := s1
  have ty := rec_type (M := model prog w) he
  have nt : Looks (model prog w) hp (isType (.ref ea)) false := by
    intro A' Q' E' s' kk q
    unfold isType loadHead
    exact wpAny_bind (wpAny_loadPart (kk _ _ he) (wpAny_pure q))
  have sb := x.sub (M := model prog w) X (.type "BaseException")
  rw [x.bas] at sb
  have ct := x.typ (M := model prog w) X
  have f1 : Looks (model prog w) hp (field (.ref ea) 1) .none := looks_field he 1 h1
  refine wpAny_bind (wpAny_pure ?_)
  dsimp only
  refine wpAny_bind (wpAny_holding ?_)
  unfold excFromValue isExcClass isInstance
  repeat (first | simp only [Bool.false_eq_true, if_false, if_true] | lk)
  show wpAny _ _ handled _ _ _
  refine wpAny_handled ?_
  rw [hh]
  exact wpAny_throw hE
/-- does an exception of one class of ours match another one -/
theorem matches_own {ea C D : Addr} {cd cd' : ClassData} {od : Option Addr} {fs : Array Value} {sl : Array (Option Value)} {h : Heap} {g : Array GenState} {d : Drawn} {t : Nat} {os : OsState} {Q : Bool → Shared → Prop} {M : Model} (x : XCls K C cd) (y : XCls K D cd') (X : K.In h)
    (he : h.get? ea = some (excRec (.ref C) od fs sl)) (q : Q (cd.mro.contains (.ref D)) ⟨h, g, d, t, os⟩) : wpAny M A (excMatches (.ref ea) (.ref D)) Q E ⟨h, g, d, t, os⟩ := by
  have ty := rec_type (M := M) he
  have td := y.typ (M := M) X
  have ti := y.isTy (M := M) X
  have tn : Looks M h (isSubtype (.type "type") (.type "tuple")) false := Looks.of_pure tc_notTuple
  have yb := y.sub (M := M) X (.type "BaseException")
  rw [y.bas] at yb
  have xs := x.sub (M := M) X (.ref D)
  unfold excMatches isInstance isExcClass
  repeat (first | simp only [Bool.false_eq_true, if_false, if_true, Bool.not_true] | lk)
  cases hb : cd.mro.contains (.ref D) with
  | true =>
    rw [hb] at q
    simp only [if_true]
    repeat lk
    exact q
  | false =>
    rw [hb] at q
    simp only [Bool.false_eq_true, if_false]
    repeat lk
    exact q

/-- an exception as an instance of its class -/
theorem inst_none {ea C : Addr} {fs : Array Value} {sl : Array (Option Value)} {h : Heap} (he : h.get? ea = some (excRec (.ref C) none fs sl)) : InstAt h ea (excRec (.ref C) none fs sl) C none := ⟨he, rfl, rfl, True.intro⟩
theorem inst_some {ea C dx : Addr} {o : Obj} {fs : Array Value} {sl : Array (Option Value)} {h : Heap} (he : h.get? ea = some (excRec (.ref C) (some dx) fs sl)) (hd : h.get? dx = some o) : InstAt h ea (excRec (.ref C) (some dx) fs sl) C (some o) := ⟨he, rfl, rfl, hd⟩
end
end LX
end
section
set_option maxRecDepth 100000
set_option maxHeartbeats 4000000
namespace LX
open PySem PySem.W
/-- what attributes of an exception's class ask -/
structure XGet (K : Frag) (C : Addr) : Prop where
  ga : findIn K (.ref C) "__getattribute__" = some (some (.builtin "BaseException.__getattribute__"))
  gt : findIn K (.ref C) "__getattr__" = some none
section
variable {prog : Program} {w : World} {A : Around} {E : Value → Shared → Prop} {h : Heap} {g : Array GenState} {d : Drawn} {t : Nat} {os : OsState} {K : Frag} {C ea : Addr} {cd : ClassData} {ox : Obj} {od : Option Obj} {name : Str}
/-- e.name, whatever is found -/
theorem getby_exc {tk : Tok} {fill expr : Bool} {r : Builtin.ObjectAttr.Found} {Q : Value → Shared → Prop} (x : XCls K C cd) (G : XGet K C) (X : K.In h) (I : InstAt h ea ox C od) (hf : findObj K C od name = some r)
    (k : match r with
      | .value v => handedIn v = true ∧ Q v ⟨h, g, d, t, os⟩
      | .bind gg a => wpAny (model prog w) A.in1 (call gg [a, .ref ea, .ref C]) (fun v s' => handedIn v = true ∧ Q v s') (fun _ _ => False) ⟨h, g, d, t, os⟩
      | .missing => False) :
    wpAny (model prog w) A (getAttrBy (.ref ea) (.str name tk) fill expr) Q E ⟨h, g, d, t, os⟩ := by
  have ty := I.type (M := model prog w)
  have l1 := looks_findIn (M := model prog w) X G.ga
  have l2 := looks_findIn (M := model prog w) X G.gt
  have l3 := looks_find (M := model prog w) X I hf
  have sb := x.sub (M := model prog w) X (.type "BaseException")
  rw [x.bas] at sb
  have S := PySem.F.excAttr_ValueError.ga
  unfold getAttrBy
  refine wpAny_holding (wpAny_bind (ty.at (wpAny_bind (l1.at ?_))))
  dsimp only
  rw [show (onTheHeap (Value.ref C) && Value.builtin "BaseException.__getattribute__" == Value.builtin "object.__getattribute__") = false by rw [show (Value.builtin "BaseException.__getattribute__" == Value.builtin "object.__getattribute__") = false by decide +kernel, Bool.and_false], if_neg Bool.false_ne_true]
  unfold getAttrByItsOwn
  have hb : Looks (model prog w) h (hookBefore (.ref C)) none := looks_hook X (by rw [if_pos (by rfl)]; exact G.gt)
  refine wpAny_bind (hb.at (wpAny_bind (wpAny_attempt (wpAny_holding ?_))))
  unfold callGetattribute
  rw [show (expr && onTheHeap (Value.builtin "BaseException.__getattribute__")) = false from Bool.and_false _, if_neg Bool.false_ne_true]
  unfold boundAndCalled
  rw [S.bind]
  refine wpAny_bind (wpAny_pure ?_)
  show wpAny _ _ (call (.builtin "BaseException.__getattribute__") [.ref ea, .str name tk]) _ _ _
  refine wpAny_call (codeAny_call_builtin S.plain PySem.F.entry_bexc_ga ?_)
  refine @check_slot (model prog w) _ _ ⟨h, g, d, t, os⟩ "BaseException.__getattribute__" "BaseException" "__getattribute__" (.ref ea) [.str name tk] [] _ (by decide +kernel) (by decide +kernel) (ty.andThen sb) (PySem.F.args_bexc_ga (.ref ea) (.str name tk)) ?_
  unfold Builtin.«object.__getattribute__»
  refine wpAny_bind (wpAny_pure (wpAny_bind (wpAny_pure (wpAny_bind (ty.at (wpAny_bind (l3.at ?_)))))))
  cases r with
  | value v =>
    refine wpAny_pure ?_
    show wpAny _ _ (handedOut v) _ _ _
    rw [handedOut_of k.1]
    exact wpAny_pure k.2
  | bind gg a =>
    refine wpAny_bind (wpAny_holding (wpAny_mono k (fun v s' z => wpAny_pure ?_) fun _ _ z => z.elim))
    show wpAny _ _ (handedOut v) _ _ _
    rw [handedOut_of z.1]
    exact wpAny_pure z.2
  | missing => exact k.elim
/-- e.__class__ as isinstance asks it -/
theorem class_exc {Q : Option Value → Shared → Prop} (x : XCls K C cd) (G : XGet K C) (X : K.In h) (I : InstAt h ea ox C od) (hc : findIn K (.ref C) "__class__" = some (some (.builtin "object.__class__")))
    (k : Q (some (.ref C)) ⟨h, g, d, t + 1, os⟩) : wpAny (model prog w) A (getAttr? (.ref ea) "__class__") Q E ⟨h, g, d, t, os⟩ := by
  have hn : specialIn K (.builtin "object.__class__") "__get__" = some (some (.builtin "getset_descriptor.__get__")) := by kernel_rfl
  have ht : takesIn K (.builtin "object.__class__") = some true := by kernel_rfl
  have hf : findObj K C od "__class__" = some (.bind (.builtin "getset_descriptor.__get__") (.builtin "object.__class__")) := by
    unfold findObj
    rw [x.cls, Option.bind_some, hc, Option.bind_some]
    dsimp only
    rw [hn, Option.bind_some]
    dsimp only
    rw [ht]
    rfl
  have mo : mroIn K C (.type "object") = some true := by
    unfold mroIn
    rw [x.cls, Option.bind_some, if_neg (by rw [x.notEmpty]; decide), x.obj]
  unfold getAttr? getAttrBy?
  refine wpAny_bind (wpAny_mkText (wpAny_bind (wpAny_attempt ?_)))
  refine getby_exc (t := t + 1) x G X I hf ?_
  refine wpAny_call ?_
  refine class_get (s := ⟨h, g, d, t + 1, os⟩) (ox := ox) (od := od) X I mo ⟨rfl, ?_⟩
  exact wpAny_pure k
/-- isinstance's ways with an exception -/
theorem kit_exc (x : XCls K C cd) (G : XGet K C) (hc : findIn K (.ref C) "__class__" = some (some (.builtin "object.__class__"))) : KitX K (.ref ea) (.ref C) (fun h => ∃ ox od, InstAt h ea ox C od) where
  ty := fun _ _ _ ⟨_, _, I⟩ => I.type
  it := fun _ _ X _ => x.isTy X
  ne := fun h tp dd its n sl X htp => by
    obtain ⟨d2, k0, k1, k2, k3, k5, e⟩ := x.ob
    refine Bool.eq_false_iff.mpr fun q => ?_
    have e2 : C = tp := Value.ref.inj (beq_iff_eq.mp q)
    subst e2
    have z := congrArg (fun o : Option Obj => o.map (·.data)) ((X _ _ e).symm.trans htp)
    simp [clsRec] at z
  ca := fun {_ _ _ _ _ s} X ⟨_, _, I⟩ k => by
    obtain ⟨hh, gg, dd, tt, oo⟩ := s
    exact class_exc x G X I hc k
end
end LX
end
section
set_option maxRecDepth 100000
set_option maxHeartbeats 4000000
namespace LX
open PySem PySem.W
section
variable {prog : Program} {w : World} {A : Around} {E : Value → Shared → Prop} {h : Heap} {g : Array GenState} {d : Drawn} {t : Nat} {os : OsState} {K : Frag} {C CH ea : Addr} {cd : ClassData} {fs : Array Value} {sl : Array (Option Value)} {name : Str} {v : Value}

end
end LX
end
section
set_option maxRecDepth 100000
set_option maxHeartbeats 4000000
namespace LX
open PySem

/-- of a heap all is kept but the records at xs; the frames at fr keep all but their slots -/
structure Kept (fr xs : List Addr) (h k : Heap) : Prop where
  plain : ∀ b o, h.get? b = some o → b ∉ fr → b ∉ xs → k.get? b = some o
  frame : ∀ b o, h.get? b = some o → b ∈ fr → b ∉ xs → ∃ sl, k.get? b = some { o with slots := sl }
theorem Kept.trans {fr xs ys : List Addr} {h k m : Heap} (x : Kept fr xs h k) (y : Kept fr ys k m) : Kept fr (xs ++ ys) h m where
  plain := fun b o e hb hx => y.plain b o (x.plain b o e hb fun z => hx (List.mem_append_left _ z)) hb fun z => hx (List.mem_append_right _ z)
  frame := fun b o e hb hx => by
    obtain ⟨sl, e1⟩ := x.frame b o e hb fun z => hx (List.mem_append_left _ z)
    obtain ⟨sm, e2⟩ := y.frame b _ e1 hb fun z => hx (List.mem_append_right _ z)
    exact ⟨sm, e2⟩
theorem Kept.weak {fr xs ys : List Addr} {h k : Heap} (x : Kept fr xs h k) (s : ∀ b o, h.get? b = some o → b ∈ xs → b ∈ ys) : Kept fr ys h k :=
  ⟨fun b o e hb hy => x.plain b o e hb fun z => hy (s b o e z), fun b o e hb hy => x.frame b o e hb fun z => hy (s b o e z)⟩

abbrev framesOf (l : List Env) : List Addr := l.filterMap (·.frame)

section
variable {M : Model} {A : Around} {E : Value → Shared → Prop} {s : Shared} {base : Heap} {env : Env} {outer : List Env} {L e : Addr} {c : Value} {od : Option Addr} {fs : Array Value} {sl : Array (Option Value)}

/-- a frame is no record of fields -/
theorem frame_ne {l : List Env} (F : s.heap.FunFrames base l) (he : s.heap.get? e = some (excRec c od fs sl)) : e ∉ framesOf l := fun z => by
  obtain ⟨_, o, ho, hn⟩ := F.mem z
  rw [he] at ho
  cases ho
  exact hn fs rfl

theorem upd_rec {h : Heap} {a : Addr} {i : Nat} {x : Value} (ha : h.get? a = some (excRec c od fs sl)) :
    (h.update a (Obj.mapFields (·.setIfInBounds i x))).get? a = some (excRec c od (fs.setIfInBounds i x) sl) := Heap.get?_update_self _ ha rfl

/-- the entry of a traceback is laid and hung at the exception -/
theorem entry_laid {head : Value} {had : Bool} {Q : Unit → Shared → Prop} (hA : A.frames = some (env :: outer)) (F : s.heap.FunFrames base (env :: outer)) (hL : env.frame = some L)
    (he : s.heap.get? e = some (excRec c od fs sl)) (h1 : 1 < fs.size)
    (k : ∀ m T oc ts, s.heap.objs.size ≤ T → Kept (framesOf (env :: outer)) [e] s.heap m → m.get? e = some (excRec c od (fs.setIfInBounds 1 (.ref T)) sl) → m.get? T = some (excRec oc none ts #[]) → ts[3]? = some (rawInt L) → Q () { s with heap := m }) :
    wpAny M A (do let a ← frameOf env; let pl ← entryPlaceOf L had; let b ← EntryCells.newEntry head a .none (rawInt L) .none pl; setField (.ref e) 1 b) Q E s := by
  have ne := frame_ne F he
  refine wpAny_bind (wpAny_frameOf_fun hA F hL fun g hg => ?_)
  obtain ⟨g0, g1, g2⟩ := hg
  refine wpAny_bind (wpAny_entryPlaceOf fun pl hp => ?_)
  unfold EntryCells.newEntry newFields
  refine wpAny_bind (wpAny_newObj_type ?_ (hp.sizeOk5 _ _ _ _ _))
  have e1 : g.get? e = some (excRec c od fs sl) := (g1 e ne).trans he
  have e2 := Heap.get?_push_of_some (h := g) { cls := .type "traceback", dict := none, data := .fields ([head, .ref L, .none, rawInt L, .none] ++ (if pl.isEmpty then List.replicate 6 Value.none else pl)).toArray } e1
  refine wpAny_setField e2 rfl h1 ?_
  have Te : g.objs.size ≠ e := Nat.ne_of_gt (Heap.lt_size e1)
  refine k _ g.objs.size (.type "traceback") ([head, .ref L, .none, rawInt L, .none] ++ (if pl.isEmpty then List.replicate 6 Value.none else pl)).toArray (Nat.le_of_eq g0.symm) ⟨fun b o q hb hx => ?_, fun b o q hb hx => ?_⟩ (upd_rec e2) ?_ ?_
  · have be : b ≠ e := fun z => hx (by rw [z]; exact List.mem_singleton.mpr rfl)
    rw [Heap.get?_update_other _ _ (Ne.symm be)]
    exact Heap.get?_push_of_some _ ((g1 b hb).trans q)
  · have be : b ≠ e := fun z => hx (by rw [z]; exact List.mem_singleton.mpr rfl)
    obtain ⟨sm, q2⟩ := g2 b o q
    refine ⟨sm, ?_⟩
    rw [Heap.get?_update_other _ _ (Ne.symm be)]
    exact Heap.get?_push_of_some _ q2
  · rw [Heap.get?_update_other _ _ (Ne.symm Te)]
    exact Heap.get?_push_size g rfl
  · first | (simp; done) | (rcases hp with rfl | ⟨_, _, _, _, _, _, _, rfl⟩ <;> simp)

/-- how an exception's traceback lies: none, or an entry that no frame holds -/
inductive Trail (h : Heap) (e : Addr) (fs : Array Value) : Option Addr → Prop where
  | none (h1 : fs[1]? = some .none) : Trail h e fs none
  | some {T : Addr} {oc : Value} {ts : Array Value} {d : Option Addr} {sl : Array (Option Value)} (h1 : fs[1]? = some (.ref T)) (ne : T ≠ e) (hT : h.get? T = some (excRec oc d ts sl)) (h3 : ts[3]? = some .none) : Trail h e fs (some T)
theorem Trail.size {h : Heap} {fs : Array Value} {T : Option Addr} (t : Trail h e fs T) : 1 < fs.size := by
  cases t with
  | none h1 => exact (Array.getElem?_eq_some_iff.mp h1).1
  | some h1 => exact (Array.getElem?_eq_some_iff.mp h1).1

/-- noteFrame at a frame that the exception has not been noted at -/
theorem note_on {T0 : Option Addr} {Q : Unit → Shared → Prop} (hA : A.frames = some (env :: outer)) (F : s.heap.FunFrames base (env :: outer)) (hL : env.frame = some L) (he : s.heap.get? e = some (excRec c od fs sl)) (t : Trail s.heap e fs T0)
    (k : ∀ m T oc ts, s.heap.objs.size ≤ T → Kept (framesOf (env :: outer)) (e :: T0.toList) s.heap m → m.get? e = some (excRec c od (fs.setIfInBounds 1 (.ref T)) sl) → m.get? T = some (excRec oc none ts #[]) → ts[3]? = some (rawInt L) → Q () { s with heap := m }) :
    wpAny M A (noteFrame (.ref e) env) Q E s := by
  unfold noteFrame
  simp only [hL]
  have h1s := t.size
  cases t with
  | none h1 =>
    refine wpAny_bind (wpAny_field he rfl h1 ?_)
    rw [if_neg (by decide)]
    exact entry_laid hA F hL he h1s k
  | @some T oc ts d sm h1 ne hT h3 =>
    refine wpAny_bind (wpAny_field he rfl h1 ?_)
    rw [if_pos (show (Value.ref T != Value.none) = true by simp)]
    refine wpAny_bind (wpAny_field hT rfl h3 ?_)
    rw [if_neg (show ¬ ((Value.none == rawInt L) = true) by simp [rawInt])]
    have h3s : 3 < ts.size := (Array.getElem?_eq_some_iff.mp h3).1
    refine wpAny_bind (wpAny_setField hT rfl h3s ?_)
    have oth : ∀ b, b ≠ T → (s.heap.update T (Obj.mapFields (·.setIfInBounds 3 Value.none))).get? b = s.heap.get? b := fun b hb => Heap.get?_update_other _ _ (Ne.symm hb)
    have nT := frame_ne F hT
    have F1 : (s.heap.update T (Obj.mapFields (·.setIfInBounds 3 Value.none))).FunFrames base (env :: outer) := F.of_keeps fun b o hb hn => ⟨o, (oth b fun z => by rw [z, hT] at hb; cases hb; exact hn ts rfl).trans hb, rfl⟩
    refine entry_laid (s := { s with heap := s.heap.update T (Obj.mapFields (·.setIfInBounds 3 Value.none)) }) hA F1 hL ((oth e (Ne.symm ne)).trans he) h1s fun m T' oc' ts' z1 z2 z3 z4 z5 => k m T' oc' ts' ?_ ?_ z3 z4 z5
    · have zz : (s.heap.update T (Obj.mapFields (·.setIfInBounds 3 Value.none))).objs.size = s.heap.objs.size := (Heap.SameBut.update (h := s.heap) (a := T) (f := Obj.mapFields (·.setIfInBounds 3 Value.none))).1
      rw [← zz]; exact z1
    · have kk : Kept (framesOf (env :: outer)) [T] s.heap (s.heap.update T (Obj.mapFields (·.setIfInBounds 3 Value.none))) :=
        ⟨fun b o q _ hx => (oth b fun z => hx (by rw [z]; exact List.mem_singleton.mpr rfl)).trans q, fun b o q _ hx => ⟨o.slots, (oth b fun z => hx (by rw [z]; exact List.mem_singleton.mpr rfl)).trans q⟩⟩
      refine (kk.trans z2).weak fun b o _ q => ?_
      simp only [List.mem_append, List.mem_singleton] at q
      simp only [Option.toList_some, List.mem_cons, List.not_mem_nil, or_false]
      exact q.symm

/-- setFlight none at an exception whose entry stands -/
theorem flight_off {T : Addr} {oc : Value} {ts : Array Value} {d : Option Addr} {sm : Array (Option Value)} {Q : Unit → Shared → Prop} (he : s.heap.get? e = some (excRec c od fs sl)) (h1 : fs[1]? = some (.ref T)) (ne : T ≠ e)
    (hT : s.heap.get? T = some (excRec oc d ts sm)) (h3 : 3 < ts.size)
    (k : ∀ m, (∀ b o, b ≠ T → s.heap.get? b = some o → m.get? b = some o) → Trail m e fs (some T) → m.get? e = some (excRec c od fs sl) → Q () { s with heap := m }) : wpAny M A (setFlight (.ref e) none) Q E s := by
  unfold setFlight
  refine wpAny_bind (wpAny_field he rfl h1 ?_)
  rw [if_pos (show (Value.ref T != Value.none) = true by simp)]
  have oth : ∀ b o, b ≠ T → s.heap.get? b = some o → (s.heap.update T (Obj.mapFields (·.setIfInBounds 3 Value.none))).get? b = some o := fun b o hb q => (Heap.get?_update_other _ _ (Ne.symm hb)).trans q
  exact wpAny_setField hT rfl h3 (k _ oth (.some h1 ne (upd_rec hT) (by simp [h3])) (oth e _ (Ne.symm ne) he))

/-- an exception leaves a frame -/
theorem leaves {T0 : Option Addr} {Q : Unit → Shared → Prop} (hA : A.frames = some (env :: outer)) (F : s.heap.FunFrames base (env :: outer)) (hL : env.frame = some L) (he : s.heap.get? e = some (excRec c od fs sl)) (t : Trail s.heap e fs T0)
    (k : ∀ m T fs', s.heap.objs.size ≤ T → Kept (framesOf (env :: outer)) (e :: T0.toList) s.heap m → m.get? e = some (excRec c od fs' sl) → fs'[0]? = fs[0]? → Trail m e fs' (some T) → Q () { s with heap := m }) :
    wpAny M A (leaving env (.ref e)) Q E s := by
  unfold leaving
  refine wpAny_bind (note_on hA F hL he t fun m T oc ts z1 z2 z3 z4 z5 => ?_)
  have Te : T ≠ e := Nat.ne_of_gt (Nat.lt_of_lt_of_le (Heap.lt_size he) z1)
  have f1 : (fs.setIfInBounds 1 (Value.ref T))[1]? = some (.ref T) := by
    have := t.size
    simp [this]
  refine flight_off (s := { s with heap := m }) z3 f1 Te z4 (Array.getElem?_eq_some_iff.mp z5).1 fun m' q1 q2 q3 => k m' T _ z1 ⟨fun b o q hb hx => ?_, fun b o q hb hx => ?_⟩ q3 (by simp) q2
  · exact q1 b o (Nat.ne_of_lt (Nat.lt_of_lt_of_le (Heap.lt_size q) z1)) (z2.plain b o q hb hx)
  · obtain ⟨sm, r⟩ := z2.frame b o q hb hx
    exact ⟨sm, q1 b _ (Nat.ne_of_lt (Nat.lt_of_lt_of_le (Heap.lt_size q) z1)) r⟩
end
end LX
end
section
set_option Elab.async false
set_option linter.all false
set_option maxRecDepth 100000
set_option maxHeartbeats 4000000
namespace L2
open PySem PySem.Spec PyProof.Rows LX

/-! ### an exception as a tracked thing -/
/-- class C, the dict of its attributes at od; fresh: not raised yet -/
def ExP (fresh : Bool) (C e : Addr) (od : Option Addr) (h : Heap) : Prop := ∃ fs sl t0, h.get? e = some (excRec (.ref C) od fs sl) ∧ fs[0]? = some (.ref t0) ∧ (fresh = true → fs[1]? = some .none)
def exo (fresh : Bool) (C e : Addr) (od : Option Addr) : HO := .ext (ExP fresh C e od)
section
variable {P : Program} {w : World} {H : Hp} {h : Heap} {b : Bool} {C e : Addr} {od : Option Addr}
theorem exo_ok (x : ExP b C e od h) : ObjOk P w H h e (exo b C e od) := by
  refine ⟨x, ?_, fun h1 h2 p k => ?_⟩
  · obtain ⟨fs, sl, t0, z, _⟩ := x
    exact ⟨_, z⟩
  · obtain ⟨fs, sl, t0, z, r⟩ := p
    exact ⟨fs, sl, t0, k _ z, r⟩
theorem exo_get (ok : HOk P w H h) (z : H e = some (exo b C e od)) : ExP b C e od h := (show ObjOk P w H h e (exo b C e od) from ok e _ z).1
end
/-- no longer tracked -/
def del (H : Hp) (a : Addr) : Hp := fun b => if b = a then none else H b
theorem del_same {H : Hp} {a : Addr} : del H a a = none := by unfold del; rw [if_pos rfl]
theorem del_ne {H : Hp} {a b : Addr} (h : b ≠ a) : del H a b = H b := by unfold del; rw [if_neg h]
theorem del_some {H : Hp} {a b : Addr} {o : HO} (h : del H a b = some o) : H b = some o ∧ b ≠ a := by
  unfold del at h
  by_cases q : b = a
  · rw [if_pos q] at h; cases h
  · rw [if_neg q] at h; exact ⟨h, q⟩

/-! ### heaps that keep what is tracked -/
section
variable {P : Program} {w : World} {H H' : Hp} {h h' : Heap} {a : Addr}
theorem HOk.keeps (ok : HOk P w H h) (k : ∀ b u o, H b = some u → h.get? b = some o → h'.get? b = some o) : HOk P w H h' := fun b u q =>
  (ok b u q).stay (fun c v hc r => by
    rcases hc with rfl | hc
    · exact k c u v q r
    · exact k c _ v hc r) (fun _ z => z) fun _ _ z => z
theorem HOk.del (ok : HOk P w H h) (ha : ∀ y, H a ≠ some (.own y)) (hb : ∀ xs, H a ≠ some (.tup xs)) : HOk P w (del H a) h := fun b u q => by
  obtain ⟨q1, q2⟩ := del_some q
  refine (ok b u q1).stay (fun _ _ _ r => r) (fun c z => ?_) fun c xs z => ?_
  · rw [del_ne fun e => ha b (by rw [← e]; exact z)]; exact z
  · rw [del_ne fun e => hb xs (by rw [← e]; exact z)]; exact z
theorem HOk.add (ok : HOk P w H h) {o : HO} (ha : H a = none) (new : ObjOk P w (upd H a o) h a o) : HOk P w (upd H a o) h := fun b u q => by
  by_cases e : b = a
  · subst e
    rw [upd_same] at q
    cases q
    exact new
  · rw [upd_ne e] at q
    refine (ok b u q).stay (fun _ _ _ r => r) (fun c z => ?_) fun c xs z => ?_
    · rw [upd_ne fun e => by rw [e, ha] at z; cases z]; exact z
    · rw [upd_ne fun e => by rw [e, ha] at z; cases z]; exact z
end
theorem funFrames_kept {h k base : Heap} : ∀ {l : List Env}, h.FunFrames base l → (∀ b ∈ frs l, ∀ o, h.get? b = some o → ∃ sl, k.get? b = some { o with slots := sl }) → k.FunFrames base l
  | [], _, _ => True.intro
  | env :: r, ⟨h1, ⟨L, o, e1, e2, e3, e4⟩, h2⟩, q => by
    have hm : L ∈ frs (env :: r) := List.mem_filterMap.mpr ⟨env, List.mem_cons_self, e1⟩
    obtain ⟨sl, z⟩ := q L hm o e3
    refine ⟨h1, ⟨L, _, e1, e2, z, e4⟩, funFrames_kept h2 fun b hb o' z' => q b ?_ o' z'⟩
    obtain ⟨x, hx, hy⟩ := List.mem_filterMap.mp hb
    exact List.mem_filterMap.mpr ⟨x, List.mem_cons_of_mem _ hx, hy⟩

/-! ### how an exception lies behind a call -/
structure Lies (P : Program) (w : World) (outer : List Env) (H H' : Hp) (s : Shared) (ea C T : Addr) (od : Option Addr) (fs : Array Value) (sl : Array (Option Value)) (s' : Shared) : Prop where
  os : s'.os = s.os
  bare : AllBare s'.gens
  un : Un (frs outer) [] H H' s.heap s'.heap
  hok : HOk P w H' s'.heap
  newE : s.heap.get? ea = none
  newT : s.heap.get? T = none
  freeE : H' ea = none
  freeT : H' T = none
  at_ : s'.heap.get? ea = some (excRec (.ref C) od fs sl)
  args : ∃ t0, fs[0]? = some (.ref t0)
  trail : Trail s'.heap ea fs (some T)
def CXE (P : Program) (w : World) : CXT := fun outer H s E e s' => ∃ ea C T od fs sl H', e = .ref ea ∧ Lies P w outer H H' s ea C T od fs sl s' ∧ E (.ref C) od H'

section
variable {X : Cx} {pins : List (Addr × Obj)} {σ : St} {H H' : Hp} {s s' : Shared} {ea C T : Addr} {od : Option Addr} {fs : Array Value} {sl : Array (Option Value)}
/-- the frames behind it -/
theorem Lies.frames (I : Inv X pins σ H s) (l : Lies X.prog X.w X.stack H H' s ea C T od fs sl s') : s'.heap.FunFrames X.base X.stack :=
  funFrames_kept I.stack fun b hb o z => l.un.any z (I.stkFree b hb) (by simp)
/-- what is kept of the state ahead of the call when the exception is noted in this frame -/
theorem Lies.on {m : Heap} {t' : Nat} (I : Inv X pins σ H s) (l : Lies X.prog X.w X.stack H H' s ea C T od fs sl s') (k : Kept (framesOf X.stack) [ea, T] s'.heap m) :
    Un (frs X.stack) [] H H' s.heap m ∧ HOk X.prog X.w H' m := by
  have fr : ∀ b, b ∈ frs X.stack → H' b = none := fun b hb => by
    obtain ⟨_, o, z, _⟩ := I.stack.mem hb
    exact l.un.free b o z (I.stkFree b hb) (by simp)
  have ne : ∀ b o, s.heap.get? b = some o → b ∉ [ea, T] := fun b o z q => by
    rcases List.mem_cons.mp q with e | q
    · rw [e, l.newE] at z; cases z
    · rw [List.mem_singleton.mp q, l.newT] at z; cases z
  refine ⟨⟨fun b o z n hb hx => ?_, fun b o z n hb hx => ?_, l.un.free, fun b o z hx => ?_, l.un.tups, l.un.frzs, l.un.tbls⟩, ?_⟩
  · exact k.plain b o (l.un.keep b o z n hb hx) hb (ne b o z)
  · obtain ⟨s1, z1⟩ := l.un.slot b o z n hb hx
    obtain ⟨s2, z2⟩ := k.frame b _ z1 hb (ne b o z)
    exact ⟨s2, z2⟩
  · obtain ⟨o1, z1⟩ := l.un.there b o z hx
    by_cases hb : b ∈ framesOf X.stack
    · obtain ⟨s2, z2⟩ := k.frame b _ z1 hb (ne b o z)
      exact ⟨_, z2⟩
    · exact ⟨_, k.plain b _ z1 hb (ne b o z)⟩
  · refine l.hok.keeps fun b u o z q => k.plain b o q (fun hb => ?_) fun hx => ?_
    · rw [fr b hb] at z; cases z
    · rcases List.mem_cons.mp hx with e | hx
      · rw [e, l.freeE] at z; cases z
      · rw [List.mem_singleton.mp hx, l.freeT] at z; cases z
end
end L2
end
section
set_option Elab.async false
set_option linter.all false
set_option maxRecDepth 100000
set_option maxHeartbeats 4000000
namespace L2
open PySem PySem.Spec PyProof.Rows LX

/-! ### an exception passes a def's frame -/
section
variable {P : Program} {w : World} {K : PySem.W.Frag} {mg : Str → Option Value} {base : Heap} {N : List Str} {qual : Str} {scope : Scope} {f : Addr} {cdv : Value} {A : Around} {outer : List Env} {s₀ : Shared} {H₀ : Hp} {E₀ : XK}
abbrev cxE (P : Program) (w : World) (K : PySem.W.Frag) (mg : Str → Option Value) (base : Heap) (N : List Str) (qual : Str) (scope : Scope) (f : Addr) (cdv : Value) (A : Around) (outer : List Env) (s₀ : Shared) (H₀ : Hp) (E₀ : XK) : Cx :=
  cxOf (CXE P w) P w K mg base N qual scope f cdv A outer s₀ H₀ E₀

theorem leave_lies {pins : List (Addr × Obj)} {σ : St} {H H' : Hp} {s s' : Shared} {ea C T : Addr} {od : Option Addr} {fs : Array Value} {sl : Array (Option Value)} (I : Inv (cxE P w K mg base N qual scope f cdv A outer s₀ H₀ E₀) pins σ H s)
    (l : Lies P w (cxE P w K mg base N qual scope f cdv A outer s₀ H₀ E₀).stack H H' s ea C T od fs sl s') (hE : E₀ (.ref C) od H') : (cxE P w K mg base N qual scope f cdv A outer s₀ H₀ E₀).xe (.ref ea) s' := by
  refine leaves I.ok.frames (Lies.frames I l) rfl l.at_ l.trail fun m T' fs' z1 z2 z3 z4 z5 => ?_
  obtain ⟨un, hok⟩ := l.on (t' := s'.toks) I z2
  have J : Inv (cxE P w K mg base N qual scope f cdv A outer s₀ H₀ E₀) pins σ H' { s' with heap := m } := I.call' l.os un hok l.bare (fun b z => absurd z (by simp))
  have old : ∀ b o, s₀.heap.get? b = some o → ∃ o', s.heap.get? b = some o' := fun b o z => I.base.there b o z (List.not_mem_nil)
  have e0 : s₀.heap.get? ea = none := by
    cases q : s₀.heap.get? ea with
    | none => rfl
    | some o =>
      obtain ⟨o', z⟩ := old ea o q
      rw [l.newE] at z; cases z
  have t0 : s₀.heap.get? T' = none := by
    cases q : s₀.heap.get? T' with
    | none => rfl
    | some o =>
      obtain ⟨o1, y1⟩ := old T' o q
      obtain ⟨o2, y2⟩ := l.un.there T' o1 y1 (by simp)
      exact absurd (Heap.lt_size y2) (Nat.not_lt.mpr z1)
  obtain ⟨a0, ha⟩ := l.args
  exact ⟨ea, C, T', od, fs', sl, H', rfl, ⟨J.os, J.bare, J.base, J.hok, e0, t0, l.freeE, l.hok.fresh z1, z3, ⟨a0, by rw [z4]; exact ha⟩, z5⟩, hE⟩
theorem passE {E : XK} (hE : ∀ c od H', E c od H' → E₀ c od H') : Passes (CXE P w) (cxE P w K mg base N qual scope f cdv A outer s₀ H₀ E₀) E := fun pins σ H s e s' I h => by
  obtain ⟨ea, C, T, od, fs, sl, H', rfl, l, q⟩ := h
  exact leave_lies I l (hE _ _ _ q)

end
end L2
end
section
set_option Elab.async false
set_option linter.all false
set_option maxRecDepth 100000
set_option maxHeartbeats 4000000
namespace L2
open PySem PySem.Spec PyProof.Rows LX

/-! ### a def, with exceptions -/
theorem Fun.okE {P : Program} {w : World} {K : PySem.W.Frag} {mg : Str → Option Value} {base : Heap} {x qual : Str} {st : Stmt} {f : Addr} {fd : FuncData} {N ps : List Str} {k : Nat} {sp : Sp} (F : Fun K x qual st f fd) (S : FnScope N ps (defScope st)) (len : ∀ vs H Q E, sp vs H Q E → vs.length = ps.length)
    (hbody : ∀ (cdv : Value) (A : Around) (outer : List Env) (s : Shared) (H : Hp) (vs : List V) (Q : VK) (E : XK), Room k (A.deeper (envOfC qual (defScope st) s.heap.objs.size f cdv)) → sp vs H Q E →
      ∃ t, PSs (cxE P w K mg base N qual (defScope st) f cdv A outer s H E) (defBody st) t ∧ t { nx := fun _ H' => Q .non H', rt := Q } (start N vs) H) : FnOk P w K mg base (CXE P w) (k + 1) f fd ps sp := by
  obtain ⟨oc, od, kV, doc, pm, an, cdv, ct, osl, rfl, lk, hcd⟩ := F.ex
  exact fn_of lk hcd S len fun A outer s H vs Q E hr hsp => hbody cdv A outer s H vs Q E hr hsp

/-! ### raise -/
def RaisesTo (X : Cx) (E : XK) : Prop := ∀ (pins : List (Addr × Obj)) (σ : St) (H : Hp) (s : Shared) (ea C : Addr) (od : Option Addr), Inv X pins σ H s → H ea = some (exo true C ea od) → X.H₀ ea = none → E (.ref C) od (del H ea) → X.xe (.ref ea) s
def tRaise (H₀ : Hp) (K : PySem.W.Frag) (E : XK) (te : TE) : TS := fun _ σ H => te σ H fun v H1 => ∃ ea C od, v = .ref ea ∧ H1 ea = some (exo true C ea od) ∧ (∃ cd, XCls K C cd) ∧ H₀ ea = none ∧ E (.ref C) od (del H1 ea)
section
variable {X : Cx}
theorem ps_raise {e : Expr} {te : TE} {pos : Pos} {E : XK} (hc : X.calm = true) (hx : RaisesTo X E) (he : PE X e te) : PS X (.Raise (some e) none pos) (tRaise X.H₀ X.K E te) := by
  intro pins s σ H D I h
  refine raise_own (K := X.K) (I.ok.hd hc) (thn (he pins s σ H _ I h) fun u s1 ⟨v, H1, I1, r, ea, C, od, ev, h1, ⟨cd, xc⟩, h0, q⟩ => ?_)
  subst ev
  obtain rfl : u = Value.ref ea := r
  obtain ⟨fs, sl, a0, z, ha, hf⟩ := exo_get I1.hok h1
  exact ⟨ea, C, cd, od, fs, sl, rfl, z, hf rfl, xc, I1.kIn, hx pins σ H1 s1 ea C od I1 h1 h0 q⟩

/-! ### calls whose exceptions this body wants, by the names' values at the call -/
def PassesX (CX : CXT) (X : Cx) (EK : St → XK) : Prop := ∀ (pins : List (Addr × Obj)) (σ : St) (H : Hp) (s : Shared) (e : Value) (s' : Shared), Inv X pins σ H s → CX X.stack H s (EK σ) e s' → X.xe e s'
theorem Passes.x {CX : CXT} {E : XK} (h : Passes CX X E) : PassesX CX X (fun _ => E) := fun pins σ H s e s' I q => h pins σ H s e s' I q

def xCall (sp : Sp) (dvs : List V) (EK : St → XK) (t : TA) : TE := fun σ H Q => t σ H fun vs H1 => sp (vs ++ dvs) H1 Q (EK σ)
/-- C(..), C a class of errors -/
def xErr (C : Addr) (sp : Sp) (EK : St → XK) (t : TA) : TE := fun σ H Q => t σ H fun vs H1 => ∀ ea, H1 ea = none → sp (.ref ea :: vs) (upd H1 ea (exo true C ea none)) (fun v H2 => v = .non ∧ Q (.ref ea) H2) (EK σ)

variable {CX : CXT} {k : Nat} {f C : Addr} {fd : FuncData} {ps : List Str} {sp : Sp} {dvs : List V} {ds : List Value} {EK : St → XK} {x m : Str} {p pos apos : Pos} {e o : Expr} {es : List Expr} {ta : TE} {t : TA}

theorem xrun {pins : List (Addr × Obj)} {σ : St} {H : Hp} {s : Shared} {Q : VK} {us : List Value} {vs : List V} (F : FnOk X.prog X.w X.K X.mg X.base CX k f fd ps sp) (hr : Room k X.A) (hb : Binds X.K fd ps ds) (hd : Vals dvs ds) (hx : PassesX CX X EK)
    (I : Inv X pins σ H s) (r : Vals vs us) (h : sp (vs ++ dvs) H Q (EK σ)) : wpAny (model X.prog X.w) X.A (call (.ref f) us) (EP X pins σ Q) X.xe s := by
  have r2 : Vals (vs ++ dvs) (us ++ ds) := r.append hd
  have hl : (us ++ ds).length = ps.length := by rw [← r2.length]; exact F.len _ _ _ _ h
  refine wpAny_call (codeAny_mono (F.run X.A X.stack s H ⟨us, []⟩ (us ++ ds) (vs ++ dvs) Q (EK σ) hr I.env0 (hb s us I.kIn hl) r2 h) fun r s' hq => ?_)
  cases r with
  | error e => exact hx pins σ H s e s' I hq
  | ok fl =>
    cases fl with
    | ret u => exact I.after hq
    | _ => exact False.elim hq
theorem xe_call (F : FnOk X.prog X.w X.K X.mg X.base CX k f fd ps sp) (hr : Room k X.A) (hg : Gl X x) (hm : X.mg x = some (.ref f)) (hk : PySem.W.keepIn X.K (.ref f) = true) (hb : Binds X.K fd ps ds) (hd : Vals dvs ds) (hx : PassesX CX X EK)
    (ha : PA X (e :: es) t) (hdb : (x == ("__debug__" : Str)) = false := by decide) (he : starEach (e :: es) X.env = (false, eval e X.env) :: starEach es X.env := by rfl) (hpl : (backTo pos (starEach es X.env)).any (·.1) = false := by rfl) :
    PE X (.Call (.Name x p) (e :: es) [] pos) (xCall sp dvs EK t) := by
  intro pins s σ H Q I h
  refine wpAny_Call_Name_kw (ld_glob I hg hm ?_ hdb)
  exact PySem.W.callWith_K (h₀ := X.base) I.ok.mod.kin hk (thn (ha pos pins s σ H _ I h) fun us s1 ⟨vs, H1, I1, r, q⟩ => ⟨I1.kIn, xrun F hr hb hd hx I1 r q⟩) he hpl

/-- what a class of errors must have to be made -/
structure MkX (K : PySem.W.Frag) (C f : Addr) : Prop where
  cls : ∃ cd, XCls K C cd
  init : PySem.W.findIn K (.ref C) "__init__" = some (some (.ref f))
  fn : PySem.W.isFn K (.ref f) = true
  kp : PySem.W.keepIn K (.ref C) = true
theorem xrunErr {pins : List (Addr × Obj)} {σ : St} {H : Hp} {s : Shared} {Q : VK} {us : List Value} {vs : List V} (M : MkX X.K C f) (F : FnOk X.prog X.w X.K X.mg X.base CX k f fd ps sp) (hr : Room (k + 1) X.A) (hb : Binds X.K fd ps []) (hx : PassesX CX X EK) (hps : ps.length ≤ 1000)
    (I : Inv X pins σ H s) (r : Vals vs us) (h : ∀ ea, H ea = none → sp (.ref ea :: vs) (upd H ea (exo true C ea none)) (fun v H2 => v = .non ∧ Q (.ref ea) H2) (EK σ)) :
    wpAny (model X.prog X.w) X.A (call (.ref C) us) (EP X pins σ Q) X.xe s := by
  have hq := h (s.heap.objs.size + 1) (I.hok.fresh (Nat.le_succ _))
  obtain ⟨cd, xc⟩ := M.cls
  have r2 : Vals (V.ref (s.heap.objs.size + 1) :: vs) (Value.ref (s.heap.objs.size + 1) :: us) := .cons rfl r
  have hl : (Value.ref (s.heap.objs.size + 1) :: us).length = ps.length := by rw [← r2.length]; exact F.len _ _ _ _ hq
  have hz : us.length ≤ sizeLine := by rw [List.length_cons] at hl; rw [sizeLine_eq]; omega
  have I2 : Inv X pins σ (upd H (s.heap.objs.size + 1) (exo true C (s.heap.objs.size + 1) none)) { s with heap := withNew s.heap C us } := by
    refine I.laid (t' := s.toks) (fun b u q => Heap.get?_push_of_some _ (Heap.get?_push_of_some _ q)) (Nat.le_succ _) (exo_ok ⟨#[.ref s.heap.objs.size, .none, .none, .none, .bool false, .none], #[], s.heap.objs.size, ?_, rfl, fun _ => rfl⟩)
    show (withNew s.heap C us).get? (s.heap.objs.size + 1) = some (newRec C s.heap.objs.size)
    heap_get
  obtain ⟨hh, g, d, tk, os⟩ := s
  refine wpAny_call (exc_made xc I.kIn M.init (beq_iff_eq.mp M.fn) hz (codeAny_mono (F.run _ X.stack _ _ ⟨Value.ref (hh.objs.size + 1) :: us, []⟩ (Value.ref (hh.objs.size + 1) :: us) _ _ (EK σ) (hr.make C us []) (I2.env0.make C us [])
    (by have := hb _ (Value.ref (hh.objs.size + 1) :: us) I2.kIn (by rw [List.append_nil]; exact hl); rw [List.append_nil] at this; exact this) r2 hq) fun r s' hq' => ?_))
  cases r with
  | error e => exact hx pins σ _ _ e s' I2 hq'
  | ok fl =>
    cases fl with
    | ret u =>
      obtain ⟨v, H', I3, rv, ev, q3⟩ := I2.after hq'
      subst ev
      exact ⟨rv, ⟨V.ref (hh.objs.size + 1), H', I3, rfl, q3⟩⟩
    | _ => exact False.elim hq'
theorem xe_err (M : MkX X.K C f) (F : FnOk X.prog X.w X.K X.mg X.base CX k f fd ps sp) (hr : Room (k + 1) X.A) (hg : Gl X x) (hm : X.mg x = some (.ref C)) (hb : Binds X.K fd ps []) (hx : PassesX CX X EK)
    (ha : PA X (e :: es) t) (hps : ps.length ≤ 1000 := by decide) (hdb : (x == ("__debug__" : Str)) = false := by decide) (he : starEach (e :: es) X.env = (false, eval e X.env) :: starEach es X.env := by rfl) (hpl : (backTo pos (starEach es X.env)).any (·.1) = false := by rfl) :
    PE X (.Call (.Name x p) (e :: es) [] pos) (xErr C sp EK t) := by
  intro pins s σ H Q I h
  refine wpAny_Call_Name_kw (ld_glob I hg hm ?_ hdb)
  exact PySem.W.callWith_K (h₀ := X.base) I.ok.mod.kin M.kp (thn (ha pos pins s σ H _ I h) fun us s1 ⟨vs, H1, I1, r, q⟩ => ⟨I1.kIn, xrunErr M F hr hb hx hps I1 r q⟩) he hpl
end
end L2
end
section
set_option Elab.async false
set_option linter.all false
set_option maxRecDepth 100000
set_option maxHeartbeats 4000000
namespace L2
open PySem PySem.Spec PyProof.Rows LX

theorem upd_self {H : Hp} {a : Addr} {o : HO} (h : H a = some o) : upd H a o = H := by
  funext b
  by_cases e : b = a
  · rw [e, upd_same, h]
  · rw [upd_ne e]
section
variable {X : Cx}
/-! ### ValueError.__init__(self, ..) -/
def tVe (K : PySem.W.Frag) (t : TA) : TE := fun σ H Q => t σ H fun vs H1 => ∃ ea C od r, vs = .ref ea :: r ∧ r.length ≤ 1000 ∧ H1 ea = some (exo true C ea od) ∧ (∃ cd, XCls K C cd) ∧ Q .non H1
theorem pe_ve {p apos pos : Pos} {e : Expr} {es : List Expr} {t : TA} {pl : Sem Bool} (hg : Gl X "ValueError") (hm : X.mg "ValueError" = none) (ha : PA X (e :: es) t)
    (hst : starEach (e :: es) X.env = (false, eval e X.env) :: starEach es X.env := by rfl) (hpl : (backTo pos (starEach es X.env)).any (·.1) = false := by rfl)
    (ht : eval (.Call (.Attribute (.Name "ValueError" p) "__init__" apos) (e :: es) [] pos) X.env = (do
      let ov ← eval (.Name "ValueError" p) X.env
      standAt apos.atName
      let (f, first) ← holding [ov] (getMethod ov "__init__" pl)
      callWith pos f first (backTo pos (starEach (e :: es) X.env)) (backToKw pos (keywordEach [] X.env))) := by rfl) :
    PE X (.Call (.Attribute (.Name "ValueError" p) "__init__" apos) (e :: es) [] pos) (tVe X.K t) := by
  intro pins s σ H Q I h
  refine PySem.W.methodCall_KW (pl := pl) (ld_blt I hg hm PyProof.Rows.Boot.«ValueError» ?_) ht
  refine ve_init I.kIn ?_
  refine PyProof.Rows.callWith_builtin1 (thn (ha pos pins _ σ H _ (I.tok _) h) fun us s1 ⟨vs, H1, I1, r, ea, C, od, rr, ev, hl, h1, ⟨cd, xc⟩, q⟩ => ?_) hst hpl
  subst ev
  cases r with
  | @cons _ u _ us' r1 r2 =>
  obtain rfl : u = Value.ref ea := r1
  obtain ⟨fs, sl, a0, z, ha, hf⟩ := exo_get I1.hok h1
  have hz : us'.length ≤ sizeLine := by rw [← r2.length, sizeLine_eq]; omega
  have I2 : Inv X pins σ H1 { s1 with heap := s1.heap.push (tupRec us') } := I1.kept (t' := s1.toks) fun b u q => Heap.get?_push_of_some _ q
  have z2 := Heap.get?_push_of_some (h := s1.heap) (tupRec us') z
  have hs0 : 0 < fs.size := (Array.getElem?_eq_some_iff.mp ha).1
  have I3 : Inv X pins σ (upd H1 ea (exo true C ea od)) { s1 with heap := (s1.heap.push (tupRec us')).update ea (Obj.mapFields (·.setIfInBounds 0 (.ref s1.heap.objs.size))) } := by
    refine I2.write (x := ea) (e := ea) (t' := s1.toks) (by rw [h1]; exact True.intro) (.inl rfl) (fun b u hb q => (Heap.get?_update_other _ _ (Ne.symm hb)).trans q) ⟨_, upd_rec z2⟩ (exo_ok ⟨_, _, s1.heap.objs.size, upd_rec z2, by simp [hs0], fun _ => ?_⟩)
    have := hf rfl
    simpa using this
  rw [upd_self h1] at I3
  obtain ⟨hh, g, d, tk, os⟩ := s1
  exact init_called xc I1.kIn z ha hz ⟨.non, H1, I3, rfl, q⟩

/-! ### f-strings: some text -/
abbrev TF := St → Hp → (Hp → Prop) → Prop
/-- a part of an f-string: a text of at most 2000 signs -/
def PF (X : Cx) (e : Expr) (t : TF) : Prop :=
  ∀ (pins : List (Addr × Obj)) (s : Shared) (σ : St) (H : Hp) (Q : Hp → Prop), Inv X pins σ H s → t σ H Q → wpAny (model X.prog X.w) X.A (eval e X.env) (fun v s1 => ∃ y tk H1, v = .str y tk ∧ y.length ≤ 2000 ∧ Inv X pins σ H1 s1 ∧ Q H1) X.xe s
def PFs (X : Cx) (es : List Expr) (t : TF) : Prop :=
  ∀ (out : Str) (pins : List (Addr × Obj)) (s : Shared) (σ : St) (H : Hp) (Q : V → Hp → Prop), out.length + 2000 * es.length ≤ 100000 → Inv X pins σ H s → t σ H (fun H1 => ∀ y, y.length ≤ 100000 → Q (.str y) H1) →
    wpAny (model X.prog X.w) X.A (joinParts out (evalEach es X.env)) (EP X pins σ Q) X.xe s
def tText : TF := fun _ H Q => Q H
def tNum (te : TE) : TF := fun σ H Q => te σ H fun v H1 => ∃ i, v = .int i ∧ i.natAbs.log2 < 1920 ∧ Q H1
def tParts (t u : TF) : TF := fun σ H Q => t σ H fun H1 => u σ H1 Q
theorem line_big : (100000 : Nat) ≤ sizeLine := by rw [sizeLine_eq]; omega
theorem pf_text {x j pos} (hl : x.length ≤ 2000 := by decide +kernel) : PF X (.Constant (.str x) j pos) tText := fun _ _ _ H _ I h => Calls.Constant_str ⟨_, _, H, rfl, hl, I.tok _, h⟩
theorem pf_num {e : Expr} {te : TE} {pos : Pos} (he : PE X e te) : PF X (.FormattedValue e (-1) none pos) (tNum te) := by
  intro pins s σ H Q I h
  refine FormattedValue_plain (thn (he pins s σ H _ I h) fun u s1 ⟨v, H1, I1, r, i, ev, hi, q⟩ => ?_)
  subst ev
  obtain ⟨t, rfl⟩ := (show ∃ t, u = Value.int i t from r)
  exact formatField_int_small hi ⟨_, _, H1, rfl, Nat.le_trans (int_text_len_1921 hi) (by decide), I1.tok _, q⟩
theorem pfs_nil : PFs X [] tText := fun out pins s σ H Q hl I h =>
  joinParts_nil ⟨.str out, H, I.tok _, ⟨_, rfl⟩, h out (by simpa using hl)⟩ (Nat.le_trans (by simpa using hl) line_big)
theorem pfs_cons {e : Expr} {es : List Expr} {t u : TF} (h1 : PF X e t) (h2 : PFs X es u) : PFs X (e :: es) (tParts t u) := by
  intro out pins s σ H Q hl I h
  rw [List.length_cons] at hl
  refine joinParts_consE (joinParts_cons (thn (h1 pins s σ H _ I h) fun v s1 ⟨y, tk, H1, ev, hy, I1, q⟩ => ?_))
  subst ev
  have hz : (out ++ y).length + 2000 * es.length ≤ 100000 := by rw [strLen_append]; omega
  exact ⟨Nat.le_trans (by omega) line_big, h2 (out ++ y) pins s1 σ H1 Q hz I1 q⟩
def tFstr (t : TF) : TE := fun σ H Q => t σ H fun H1 => ∀ y, y.length ≤ 100000 → Q (.str y) H1
theorem pe_fstr {e e' : Expr} {es : List Expr} {t : TF} {pos : Pos} (h : PFs X (e :: e' :: es) t) (hl : 2000 * (e :: e' :: es).length ≤ 100000 := by decide) : PE X (.JoinedStr (e :: e' :: es) pos) (tFstr t) :=
  fun pins s σ H Q I q => JoinedStr_many (h Str.empty pins s σ H Q (by have z : Str.empty.length = 0 := rfl; rw [z]; omega) I q)

/-! ### isinstance, of exceptions too -/
inductive TyX (K : PySem.W.Frag) (H : Hp) : V → Value → Prop where
  | of {x : V} {t : Value} (h : TyOf K H x t) : TyX K H x t
  | exc {b : Bool} {a C : Addr} {od : Option Addr} {cd : ClassData} (e : H a = some (exo b C a od)) (hd : od = none ∨ ∃ dx fs, od = some dx ∧ H dx = some (.xd fs)) (x : XCls K C cd) (g : XGet K C)
      (hc : PySem.W.findIn K (.ref C) "__class__" = some (some (.builtin "object.__class__"))) : TyX K H (.ref a) (.ref C)
/-- a class as isinstance takes it -/
def clsV : V → Value
  | .ref a => .ref a
  | .ty n => .type n
  | _ => .none
theorem exo_inst {P : Program} {w : World} {H : Hp} {h : Heap} {b : Bool} {C a : Addr} {od : Option Addr} (ok : HOk P w H h) (e : H a = some (exo b C a od)) (hd : od = none ∨ ∃ dx fs, od = some dx ∧ H dx = some (.xd fs)) :
    ∃ ox o, PySem.W.InstAt h a ox C o := by
  obtain ⟨fs, sl, a0, z, _⟩ := exo_get ok e
  rcases hd with rfl | ⟨dx, gs, rfl, q⟩
  · exact ⟨_, _, inst_none z⟩
  · obtain ⟨mA, n, _⟩ := (show ObjOk P w H h dx (.xd gs) from ok dx _ q)
    obtain ⟨o, _, _, ho, _⟩ := n
    exact ⟨_, _, inst_some z ho⟩
def rIsi (K : PySem.W.Frag) : List V → Hp → VK → Prop := fun vs H Q => ∃ x c t b, vs = [x, c] ∧ TyX K H x t ∧ (∃ a, c = .ref a) ∧ PySem.W.kitOne K t (clsV c) = some b ∧ Q (.bl b) H
def rIsiT (K : PySem.W.Frag) : List V → Hp → VK → Prop := fun vs H Q => ∃ x c t b, vs = [x, c] ∧ TyX K H x t ∧ (∃ n, c = .ty n) ∧ PySem.W.kitOne K t (clsV c) = some b ∧ Q (.bl b) H
theorem isi_any {pins : List (Addr × Obj)} {s : Shared} {σ : St} {H : Hp} {x : V} {u c t : Value} {b : Bool} {Q : VK} (I : Inv X pins σ H s) (rx : RelV x u) (ty : TyX X.K H x t) (e : PySem.W.kitOne X.K t c = some b) (q : Q (.bl b) H) :
    wpAny (model X.prog X.w) X.A (call (.builtin "isinstance") [u, c]) (EP X pins σ Q) X.xe s := by
  have fin : ∀ tk, EP X pins σ Q (.bool b) { s with toks := tk } := fun tk => ⟨.bl b, H, I.tok tk, rfl, q⟩
  cases ty with
  | of h => exact isinst_ok I rx h e fin
  | exc ea hd xc g hc =>
    cases (show u = Value.ref _ from rx)
    obtain ⟨ox, o, J⟩ := exo_inst I.hok ea hd
    exact PySem.W.kia_one (kit_exc xc g hc) I.kIn ⟨ox, o, J⟩ e (fun z => nomatch z) fin
theorem call_isi : CallR X (.builtin "isinstance") (rIsi X.K) := by
  rintro pins s σ H xs us Q I r ⟨x, c, t, b, rfl, ty, ⟨a, rfl⟩, e, q⟩
  obtain ⟨u, v, rfl, ru, rv⟩ := vals2 r
  cases (show v = Value.ref a from rv)
  exact isi_any I ru ty e q
theorem call_isiT : CallR X (.builtin "isinstance") (rIsiT X.K) := by
  rintro pins s σ H xs us Q I r ⟨x, c, t, b, rfl, ty, ⟨n, rfl⟩, e, q⟩
  obtain ⟨u, v, rfl, ru, rv⟩ := vals2 r
  cases (show v = Value.type n from rv)
  exact isi_any I ru ty e q

/-! ### e.m() of an exception -/
end
end L2
end
section
set_option Elab.async false
set_option linter.all false
set_option maxRecDepth 100000
set_option maxHeartbeats 4000000
namespace L2
open PySem PySem.Spec PyProof.Rows LX

/-! ### try: .. except C as n: .. -/
/-- within the body of a try: another wish, the pins kept -/
abbrev Cx.tried (X : Cx) (pins : List (Addr × Obj)) (E : Value → Shared → Prop) : Cx := { X with xe := E, pn := X.pn ++ pins }
/-- within an except suite -/
abbrev Cx.caught (X : Cx) (ea : Addr) : Cx := { X with A := X.A.mark (some (.ref ea)), calm := false, xe := fun _ _ => False }
section
variable {X : Cx} {pins : List (Addr × Obj)} {σ : St} {H : Hp} {s : Shared} {E : Value → Shared → Prop} {ea : Addr}
theorem Inv.tried (I : Inv X pins σ H s) (E : Value → Shared → Prop) : Inv (X.tried pins E) [] σ H s :=
  ⟨⟨I.ok.mod, I.ok.kind, I.ok.glob, I.ok.blt, I.ok.above, I.ok.inj, I.ok.has, I.ok.cab, I.ok.hd, I.ok.frames, I.ok.stk, I.ok.exf, I.ok.bs, I.ok.bsz, I.ok.noex, I.ok.exfs, I.ok.funs, I.ok.frf⟩,
    I.os, I.bare, I.base, I.loc, I.cell, I.free, I.freeC, fun p hp => I.pin p (by simpa using hp), I.hok, I.len⟩
theorem Inv.untried {pins' : List (Addr × Obj)} (I : Inv (X.tried pins E) pins' σ H s) : Inv X pins σ H s :=
  ⟨⟨I.ok.mod, I.ok.kind, I.ok.glob, I.ok.blt, I.ok.above, I.ok.inj, I.ok.has, I.ok.cab, I.ok.hd, I.ok.frames, I.ok.stk, I.ok.exf, I.ok.bs, I.ok.bsz, I.ok.noex, I.ok.exfs, I.ok.funs, I.ok.frf⟩,
    I.os, I.bare, I.base, I.loc, I.cell, I.free, I.freeC, fun p hp => I.pin p (List.mem_append_left _ hp), I.hok, I.len⟩
theorem Inv.caught (I : Inv X pins σ H s) (ea : Addr) : Inv (X.caught ea) pins σ H s :=
  ⟨⟨I.ok.mod, I.ok.kind, I.ok.glob, I.ok.blt, I.ok.above, I.ok.inj, I.ok.has, I.ok.cab, (fun z => nomatch z), I.ok.frames, I.ok.stk, I.ok.exf, I.ok.bs, I.ok.bsz, I.ok.noex, I.ok.exfs, I.ok.funs, I.ok.frf⟩,
    I.os, I.bare, I.base, I.loc, I.cell, I.free, I.freeC, I.pin, I.hok, I.len⟩
theorem Inv.uncaught {Y : Cx} (I : Inv (Y.caught ea) pins σ H s) (ok : Y.Ok) : Inv Y pins σ H s := ⟨ok, I.os, I.bare, I.base, I.loc, I.cell, I.free, I.freeC, I.pin, I.hok, I.len⟩
/-- an untracked exception of ours is tracked from now on -/
theorem Inv.track {o : HO} {c : Value} {od : Option Addr} {fs : Array Value} {sl : Array (Option Value)} (I : Inv X pins σ H s) (hn : H ea = none) (h0 : X.s₀.heap.get? ea = none) (hr : s.heap.get? ea = some (excRec c od fs sl))
    (hp : ∀ p ∈ X.pn ++ pins, p.1 ≠ ea) (new : ObjOk X.prog X.w (upd H ea o) s.heap ea o) : Inv X pins σ (upd H ea o) s := by
  have ne : ∀ b u, H b = some u → b ≠ ea := fun b u q e => by rw [e, hn] at q; cases q
  refine ⟨I.ok, I.os, I.bare, ⟨I.base.keep, I.base.slot, fun b u q n hx => ?_, I.base.there, fun b xs q => ?_, fun b u v q => ?_, fun b ps q => ?_⟩, I.loc, I.cell, ?_, fun x c' q => ?_, fun p hq => ?_, I.hok.add hn new, I.len⟩
  · rw [upd_ne fun e => by rw [e, h0] at q; cases q]
    exact I.base.free b u q n hx
  · have r := I.base.tups b xs q
    rw [upd_ne (ne b _ r)]; exact r
  · have r := I.base.frzs b u v q
    rw [upd_ne (ne b _ r)]; exact r
  · obtain ⟨more, r⟩ := I.base.tbls b ps q
    exact ⟨more, by rw [upd_ne (ne b _ r)]; exact r⟩
  · rw [upd_ne fun e => ?_]
    · exact I.free
    · obtain ⟨m, ⟨oL, es, ep, ho, hd, _⟩, _⟩ := I.loc
      rw [e, hr] at ho
      cases ho
      cases hd
  · rw [upd_ne fun e => ?_]
    · exact I.freeC x c' q
    · obtain ⟨v, oc, ho, hd⟩ := I.cell x c' q
      rw [e, hr] at ho
      cases ho
      cases hd
  · obtain ⟨e, n, z⟩ := I.pin p hq
    exact ⟨e, by rw [upd_ne (hp p hq)]; exact n, z⟩
end
/-- the suite's ends: the name goes -/
def endsOff (i : Nat) (D : Ends) : Ends := { nx := fun σ H => D.nx (σ.set i none) H, rt := D.rt, bk := fun σ H => D.bk (σ.set i none) H, ct := fun σ H => D.ct (σ.set i none) H }
def tLand (K : PySem.W.Frag) (Dc : Addr) (i : Nat) (ts : TS) (D : Ends) : St → XK := fun σ c od H => ∃ C cd, c = .ref C ∧ XCls K C cd ∧ cd.mro.contains (.ref Dc) = true ∧ ∀ ea, H ea = none → ts (endsOff i D) (σ.set i (some (.ref ea))) (upd H ea (exo false C ea od))
def tTry (K : PySem.W.Frag) (Dc : Addr) (i : Nat) (tb : (St → XK) → TS) (ts : TS) : TS := fun D σ H => tb (tLand K Dc i ts D) D σ H

section
variable {X : Cx}
/-- the name of the exception goes -/
theorem name_off {pins : List (Addr × Obj)} {σ : St} {H : Hp} {s : Shared} {E : Value → Shared → Prop} {n : Str} {i : Nat} {pos : Pos} {Q : Unit → Shared → Prop} (I : Inv X pins σ H s) (hN : X.N.Nodup) (hi : X.N[i]? = some n) (hx : X.env.scope.names.lookup n = some .local)
    (k : ∀ s', Inv X pins (σ.set i none) H s' → Q () s') : wpAny (model X.prog X.w) X.A (do bindName X.env n .none; unbindBehindTheSuite X.env n pos) Q E s := by
  obtain ⟨m, hn, hl⟩ := id I.loc
  have hcls : (X.env.scope.kind == .class || (X.env.scope.kind == .module && X.env.locals != X.env.globals)) = false := by rw [I.ok.kind]; rfl
  refine wpAny_nameGoes_keeps hx hn hcls fun h' v hn' hs => k _ ?_
  obtain ⟨oL, _, _, hoL, _⟩ := id hn
  have tr : HOk X.prog X.w H h' := I.hok.keeps fun b u o q r => (hs.2 b fun e => by rw [e, I.free] at q; cases q).trans r
  refine ⟨I.ok, I.os, I.bare, ⟨fun b o e n hb hx => ?_, fun b o e n hb hx => ?_, I.base.free, fun b o e hx => ?_, I.base.tups, I.base.frzs, I.base.tbls⟩, ⟨_, hn', fun j y v' e1 e2 e3 => ?_⟩, fun y c e => ?_, I.free, I.freeC, fun p hp => ?_, tr, by simpa using I.len⟩
  · exact (hs.2 b (Nat.ne_of_lt (Nat.lt_of_lt_of_le (Heap.lt_size e) I.ok.above))).trans (I.base.keep b o e n hb hx)
  · obtain ⟨sl, e1⟩ := I.base.slot b o e n hb hx
    exact ⟨sl, (hs.2 b (Nat.ne_of_lt (Nat.lt_of_lt_of_le (Heap.lt_size e) I.ok.above))).trans e1⟩
  · obtain ⟨o', e1⟩ := I.base.there b o e hx
    exact ⟨o', (hs.2 b (Nat.ne_of_lt (Nat.lt_of_lt_of_le (Heap.lt_size e) I.ok.above))).trans e1⟩
  · by_cases hj : j = i
    · subst hj
      rw [List.getElem?_set] at e2
      simp only [if_true] at e2
      split at e2 <;> cases e2
    · rw [List.getElem?_set_ne (Ne.symm hj)] at e2
      obtain ⟨u', r', q⟩ := hl j y v' e1 e2 e3
      refine ⟨u', r', ?_⟩
      rcases q with ⟨kk, e⟩ | ⟨kk, c, e, z⟩
      · refine .inl ⟨kk, ?_⟩
        have : y ≠ n := fun e => hj (nodup_ix hN e1 (e ▸ hi))
        simp [this, e]
      · exact .inr ⟨kk, c, e, z.sameBut hs (I.cne y c e)⟩
  · obtain ⟨w', z⟩ := I.cell y c e
    exact ⟨w', z.sameBut hs (I.cne y c e)⟩
  · obtain ⟨e, n, ne, nf, d⟩ := I.pin p hp
    exact ⟨(hs.2 p.1 ne).trans e, n, ne, nf, d⟩

theorem ps_try {body suite : List Stmt} {b₀ : Stmt} {x n : Str} {np hpos pos : Pos} {i : Nat} {Dc : Addr} {cdD : ClassData} {tb : (St → XK) → TS} {ts : TS} (hex : X.ex = []) (hst : X.stack = X.env :: X.outer) (hfr : X.env.frame = some X.env.locals) (hg : Gl X x) (hm : X.mg x = some (.ref Dc))
    (hD : XCls X.K Dc cdD) (hN : X.N.Nodup) (hi : X.N[i]? = some n) (hx : X.env.scope.names.lookup n = some .local)
    (hb : ∀ (pins : List (Addr × Obj)) (E : Value → Shared → Prop) (EK : St → XK), PassesX (CXE X.prog X.w) (X.tried pins E) EK → PSs (X.tried pins E) body (tb EK))
    (hs : ∀ ea, PSs (X.caught ea) (b₀ :: suite) ts) (hdb : (x == ("__debug__" : Str)) = false := by decide) :
    PS X (.Try body [.ExceptHandler (some (.Name x np)) (some n) (b₀ :: suite) hpos] [] [] pos) (tTry X.K Dc i tb ts) := by
  intro pins s σ H D I h
  refine wpAny_Try_except ?_
  refine wpAny_mono (hb pins (fun e s₁ => ∃ σ' H1 sc, Inv X pins σ' H1 sc ∧ CXE X.prog X.w X.stack H1 sc (tLand X.K Dc i ts D σ') e s₁) (tLand X.K Dc i ts D)
    (fun pins' σ' H1 sc e s' J q => ⟨σ', H1, sc, J.untried, q⟩) [] s σ H D (I.tried _) h) (fun fl s1 q => ?_) fun e s1 q => ?_
  · cases fl with
    | next =>
      obtain ⟨σ', H', J, q⟩ := q
      exact wpAny_execs_nil ⟨σ', H', J.untried, q⟩
    | brk => obtain ⟨σ', H', J, q⟩ := q; exact ⟨σ', H', J.untried, q⟩
    | cont => obtain ⟨σ', H', J, q⟩ := q; exact ⟨σ', H', J.untried, q⟩
    | ret u => obtain ⟨v, σ', H', J, r, q⟩ := q; exact ⟨v, σ', H', J.untried, r, q⟩
  · obtain ⟨σ', H1, sc, J, ea, Cv, T, od, fs, sl, H', rfl, l, C, cd, ec, xc, hmr, q⟩ := q
    cases ec
    have hA : X.A.frames = some (X.env :: X.outer) := by rw [J.ok.frames, hst]
    have hF : s1.heap.FunFrames X.base (X.env :: X.outer) := by rw [← hst]; exact l.frames J
    have e0 : X.s₀.heap.get? ea = none := by
      cases z : X.s₀.heap.get? ea with
      | none => rfl
      | some o =>
        obtain ⟨o', z'⟩ := J.base.there ea o z (by rw [hex]; exact List.not_mem_nil)
        rw [l.newE] at z'; cases z'
    -- the state behind each step
    have st : ∀ (m : Heap) (tk : Nat), Kept (framesOf X.stack) [ea, T] s1.heap m → Inv X pins σ' H' { s1 with heap := m, toks := tk } := fun m tk k => by
      obtain ⟨un, hok⟩ := l.on (t' := s1.toks) J k
      exact J.call' l.os un hok l.bare fun b z => absurd z (by simp)
    have pn : ∀ p ∈ X.pn ++ pins, p.1 ≠ ea := fun p hp e => by
      obtain ⟨z, _⟩ := J.pin p hp
      rw [e, l.newE] at z; cases z
    refine note_on hA hF hfr l.at_ l.trail fun m T' oc tsx z1 z2 z3 z4 z5 => ?_
    have Te : T' ≠ ea := Nat.ne_of_gt (Nat.lt_of_lt_of_le (Heap.lt_size l.at_) z1)
    have f1 : (fs.setIfInBounds 1 (Value.ref T'))[1]? = some (.ref T') := by
      have := l.trail.size
      simp [this]
    have k1 : Kept (framesOf X.stack) [ea, T] s1.heap m := by rw [hst]; exact z2
    refine flight_off (s := { s1 with heap := m }) z3 f1 Te z4 (Array.getElem?_eq_some_iff.mp z5).1 fun m' q1 q2 q3 => ?_
    have nT : ∀ b o, s1.heap.get? b = some o → b ≠ T' := fun b o q => Nat.ne_of_lt (Nat.lt_of_lt_of_le (Heap.lt_size q) z1)
    have k2 : Kept (framesOf X.stack) [ea, T] s1.heap m' := ⟨fun b o q hb hx => q1 b o (nT b o q) (k1.plain b o q hb hx), fun b o q hb hx => by
      obtain ⟨sm, r⟩ := k1.frame b o q hb hx
      exact ⟨sm, q1 b _ (nT b o q) r⟩⟩
    have J2 := st m' s1.toks k2
    refine wpAny_handleBy_cons (codeAny_handlers_test ?_) (by intro z; cases z)
    refine ld_glob (X := X.caught ea) (J2.caught ea) hg hm ?_ hdb
    refine matches_own xc hD J2.kIn q3 ?_
    rw [hmr]
    refine codeAny_handlers_suite_as ?_
    cases q2 with
    | @some _ oc2 ts2 d2 sm2 y1 y2 y3 y4 =>
    refine flight_off (s := { s1 with heap := m' }) q3 y1 y2 y3 (Array.getElem?_eq_some_iff.mp y4).1 fun m3 r1 r2 r3 => ?_
    have k3 : Kept (framesOf X.stack) [ea, T] s1.heap m3 := ⟨fun b o q hb hx => r1 b o (nT b o q) (k2.plain b o q hb hx), fun b o q hb hx => by
      obtain ⟨sm, r⟩ := k2.frame b o q hb hx
      exact ⟨sm, r1 b _ (nT b o q) r⟩⟩
    have J3 := st m3 s1.toks k3
    obtain ⟨a0, ha⟩ := l.args
    have J4 : Inv X pins σ' (upd H' ea (exo false Cv ea od)) { s1 with heap := m3 } := J3.track l.freeE e0 r3 pn (exo_ok ⟨_, _, a0, r3, by simpa using ha, fun z => nomatch z⟩)
    refine store_ok (X := X.caught ea) (J4.caught ea) hN hi (.inl hx) (v := .ref ea) rfl (fun s5 J5 => ?_) (.inr hx)
    refine wpAny_mono (hs ea pins s5 _ _ (endsOff i D) J5 (q ea l.freeE)) (fun fl s6 w => ?_) fun _ _ z => False.elim z
    have off : ∀ {σ6 : St} {H6 : Hp} {Q6 : Unit → Shared → Prop}, Inv (X.caught ea) pins σ6 H6 s6 → (∀ s7, Inv X pins (σ6.set i none) H6 s7 → Q6 () s7) → wpAny (model X.prog X.w) X.A (do bindName X.env n .none; unbindBehindTheSuite X.env n hpos) Q6 X.xe s6 :=
      fun J6 k => name_off (J6.uncaught J.ok) hN hi hx k
    cases fl with
    | next => obtain ⟨σ6, H6, J6, w⟩ := w; exact off J6 fun s7 J7 => ⟨_, _, J7, w⟩
    | brk => obtain ⟨σ6, H6, J6, w⟩ := w; exact off J6 fun s7 J7 => ⟨_, _, J7, w⟩
    | cont => obtain ⟨σ6, H6, J6, w⟩ := w; exact off J6 fun s7 J7 => ⟨_, _, J7, w⟩
    | ret u => obtain ⟨v, σ6, H6, J6, r, w⟩ := w; exact off J6 fun s7 J7 => ⟨v, _, _, J7, r, w⟩
end
end L2
end
section
set_option Elab.async false
set_option linter.all false
set_option maxRecDepth 100000
set_option maxHeartbeats 4000000
namespace L2
open PySem PySem.Spec PyProof.Rows LX

/-! ### lists: + of any two, count of flat items -/
section
variable {X : Cx}
end
/-! ### what is tracked stays -/
theorem Same.upd {H : Hp} {a : Addr} {o : HO} (h : H a = none) : Same H (L2.upd H a o) := fun b u q => by rw [upd_ne fun e => by rw [e, h] at q; cases q]; exact q

/-! ### the classes of errors that the text has, and HeapError.__init__ -/
/-- a class of errors: its name's address, what the walk asks of it -/
structure ErrC (K : PySem.W.Frag) (C : Addr) : Prop where
  cls : ∃ cd, XCls K C cd
  get : XGet K C
  own : PySem.W.findIn K (.ref C) "__class__" = some (some (.builtin "object.__class__"))
theorem ErrC.ty {K : PySem.W.Frag} {C a : Addr} {H : Hp} {b : Bool} (c : ErrC K C) (e : H a = some (exo b C a none)) : TyX K H (.ref a) (.ref C) := by
  obtain ⟨cd, x⟩ := c.cls
  exact .exc e (.inl rfl) x c.get c.own
/-- __init__(self, text) of HeapError -/
def spXI (K : PySem.W.Frag) : Sp := fun vs H Q _ => ∃ ea C od x, vs = [.ref ea, x] ∧ H ea = some (exo true C ea od) ∧ (∃ cd, XCls K C cd) ∧ Q .non H
/-- isinstance(e, D), e the first name -/
theorem isi_read {K : PySem.W.Frag} {i : Nat} {σ : St} {H : Hp} {Q : VK} {x : V} {D : Addr} {t : Value} {b : Bool} (h0 : σ[i]? = some (some x)) (ty : TyX K H x t) (hk : PySem.W.kitOne K t (.ref D) = some b) (q : Q (.bl b) H) :
    tCB (rIsi K) (tCons (tVar i) (tCons (tC (.ref D)) tNil)) σ H Q := ⟨x, h0, x, .ref D, t, b, rfl, ty, ⟨_, rfl⟩, hk, q⟩
theorem isi_readT {K : PySem.W.Frag} {i : Nat} {σ : St} {H : Hp} {Q : VK} {x : V} {D : String} {t : Value} {b : Bool} (h0 : σ[i]? = some (some x)) (ty : TyX K H x t) (hk : PySem.W.kitOne K t (.type D) = some b) (q : Q (.bl b) H) :
    tCB (rIsiT K) (tCons (tVar i) (tCons (tC (.ty D)) tNil)) σ H Q := ⟨x, h0, x, .ty D, t, b, rfl, ty, ⟨_, rfl⟩, hk, q⟩
/-- a built-in's name as a value -/
theorem pe_ty {X : Cx} {x : Str} {T : String} {pos : Pos} (hg : Gl X x) (hm : X.mg x = none) (hv : bootBuiltins x = some (.type T)) (hn : x ≠ "__name__" := by decide) (hd : (x == ("__debug__" : Str)) = false := by decide) : PE X (.Name x pos) (tC (.ty T)) :=
  fun _ _ _ H _ I h => ld_blt I hg hm hv ⟨.ty T, H, I, rfl, h⟩ hn hd
/-- no exception leaves: calls in a body under nox -/
theorem passN {P : Program} {w : World} {X : Cx} : PassesX (CXE P w) X.nox (fun _ _ _ _ => False) := fun _ _ _ _ _ _ _ ⟨_, _, _, _, _, _, _, _, _, q⟩ => q.elim
theorem log_small {n : Int} (h : n.natAbs < 2 ^ 1920) : n.natAbs.log2 < 1920 := by
  by_cases z : n.natAbs = 0
  · rw [z]; decide
  · exact (Nat.log2_lt z).mpr h
theorem noneE {P : Program} {w : World} {outer : List Env} {H : Hp} {s : Shared} {e : Value} {s' : Shared} (h : CXE P w outer H s (fun _ _ _ => False) e s') : False := by
  obtain ⟨_, _, _, _, _, _, _, _, _, q⟩ := h
  exact q
end L2
end
section
set_option Elab.async false
set_option linter.all false
set_option maxRecDepth 100000
set_option maxHeartbeats 4000000
namespace L2
open PySem PySem.Spec PyProof.Rows LX
/-! ### == of two lists of flat items, as long as one another -/
def eqAll (xs ys : List V) : Bool := (List.range xs.length).all fun j => eqV (xs.getD j .non) (ys.getD j .non)
def rEqL (K : PySem.W.Frag) : R2 := fun x y H Q => ∃ a b xs ys, x = .ref a ∧ y = .ref b ∧ SqL K H a xs ∧ SqL K H b ys ∧ xs.length = ys.length ∧ xs.all flatV = true ∧ ys.all flatV = true ∧ Q (.bl (eqAll xs ys)) H
theorem op_eqL {X : Cx} (hu : X.A.units < cLine) : OpR X (compareOp .Eq) (rEqL X.K) := by
  intro pins s σ H x y v u Q I rx ry h
  obtain ⟨a, b, xs, ys, rfl, rfl, ha, hb, hl, fx, fy, q⟩ := h
  cases rx
  cases ry
  obtain ⟨vs, r1, ⟨o1, n1, e1, c1, _, g1⟩, _⟩ := I.list ha
  obtain ⟨ws, r2, ⟨o2, n2, e2, c2, _, g2⟩, _⟩ := I.list hb
  have l1 := r1.length
  have l2 := r2.length
  refine SeqAt.eq_listAt (e := fun j => eqV (xs.getD j .non) (ys.getD j .non)) ⟨o1, e1, c1, n1, g1⟩ ⟨o2, e2, c2, n2, g2⟩ (by simp only [List.size_toArray]; omega) hu (fun j h1 h2 => ?_) ⟨.bl _, H, I, rfl, ?_⟩
  · simp only [List.size_toArray] at h1 h2
    obtain ⟨w1, z1, rz1⟩ := r1.get (i := j) (x := xs[j]'(by omega)) (List.getElem?_eq_getElem (by omega))
    obtain ⟨w2, z2, rz2⟩ := r2.get (i := j) (x := ys[j]'(by omega)) (List.getElem?_eq_getElem (by omega))
    have a1 : vs.toArray[j] = w1 := by
      have := (List.getElem?_eq_some_iff.mp z1).2
      simpa using this
    have a2 : ws.toArray[j] = w2 := by
      have := (List.getElem?_eq_some_iff.mp z2).2
      simpa using this
    rw [a1, a2]
    have d1 : xs.getD j .non = xs[j]'(by omega) := by simp [List.getD, List.getElem?_eq_getElem (show j < xs.length by omega)]
    have d2 : ys.getD j .non = ys[j]'(by omega) := by simp [List.getD, List.getElem?_eq_getElem (show j < ys.length by omega)]
    show SeqAt.EqAt _ _ _ _ (eqV (xs.getD j .non) (ys.getD j .non))
    rw [d1, d2]
    exact eqAt_V rz1 rz2 (List.all_eq_true.mp fx _ (List.getElem_mem _)) (List.all_eq_true.mp fy _ (List.getElem_mem _))
  · have : vs.toArray.size = xs.length := by simp only [List.size_toArray]; omega
    rw [this]
    exact q
end L2
end
section
set_option Elab.async false
set_option linter.all false
set_option maxRecDepth 100000
set_option maxHeartbeats 4000000
namespace L2
open PySem PySem.Spec PyProof.Rows LX
/-! ### attributes of an exception -/
section
variable {X : Cx}
variable {o e value : Expr} {f : Str} {pos pos' : Pos} {ta tv : TE}

/-! ### C.f(..): a def of a class, called by the class's name -/

/-! ### e.m() of an exception, whichever its class -/

/-! ### a short text times a small number: some text -/
end
end L2
end
section
set_option Elab.async false
set_option linter.all false
set_option maxRecDepth 100000
set_option maxHeartbeats 4000000
namespace L2
open PySem PySem.Spec PyProof.Rows LX
/-! ### a list comprehension of one clause, its target a name, no test; nothing leaves it -/
theorem compLoop_any {prog : Program} {w : World} {A : Around} {R : Result → Shared → Prop} {s : Shared} {elt target iter : Expr} {scope : Scope} {pos : Pos} {it acc : Value} {env : Env} (I : Nat → Shared → Prop)
    (turn : ∀ n s, I n s → wpAny (model prog w) A (pyNext it) (fun r s₁ => match r with
      | none => R (.ok .next) s₁
      | some v => wpAny (model prog w) A (letOwnedTupleGo target it v) (fun _ s5 => wpAny (model prog w) A (assign target env v) (fun _ s₂ => wpAny (model prog w) A (eval elt env) (fun x s₃ =>
          wpAny (model prog w) A (call (.builtin "list.append") [acc, x]) (fun _ s₄ => ∃ m, m < n ∧ I m s₄) (notedBy (model prog w) A env fun e s' => R (.error e) s') s₃)
          (notedBy (model prog w) A env fun e s' => R (.error e) s') s₂) (notedBy (model prog w) A env fun e s' => R (.error e) s') s5) (notedBy (model prog w) A env fun e s' => R (.error e) s') s₁) (notedBy (model prog w) A env fun e s' => R (.error e) s') s)
    (n : Nat) (h : I n s) : codeAny (model prog w) A (.compLoop (.ListComp elt [⟨target, iter, [], 0⟩] scope pos) 0 it acc env) R s := by
  refine codeAny_loop rfl I (fun n s hI => ?_) n h
  show wpAny _ _ ((compTurn (.ListComp elt [⟨target, iter, [], 0⟩] scope pos) 0 it acc env).onRaise (fun x => do noteFrame x env; theTreesLotGoes x)) _ _ s
  refine wpAny_noted ?_
  rw [compTurn_list1]
  refine wpAny_bind (wpAny_standAt (wpAny_bind (wpAny_mono (turn n s hI) (fun r s₁ h₁ => ?_) fun _ _ h' => h')))
  cases r with
  | none => exact wpAny_pure h₁
  | some v =>
    refine wpAny_bind (wpAny_mono h₁ (fun _ s5 h5 => ?_) fun _ _ h' => h')
    exact wpAny_bind (wpAny_mono h5 (fun _ s₂ h₂ => wpAny_bind (wpAny_bind (wpAny_mono h₂ (fun x s₃ h₃ => wpAny_bind (wpAny_mono h₃
      (fun _ s₄ h₄ => wpAny_pure (wpAny_pure ⟨rfl, h₄⟩)) fun _ _ h' => h')) fun _ _ h' => h'))) fun _ _ h' => h')

/-- the block's context -/
abbrev cxC (X : Cx) (scope : Scope) (cl : List (Str × Addr)) (NC : List Str) (C : Addr) (fp : List Addr) (s₀ : Shared) (H₀ : Hp) : Cx :=
  { X with N := NC, s₀ := s₀, H₀ := H₀, env := compEnvC scope cl C X.env, outer := X.stack, ex := fp, fn := fun _ => false, pn := [], xe := fun _ _ => False }
def caps (σ : St) (idx : List Nat) : St := idx.map fun i => (σ[i]?).getD none
/-- what the block's scope has: its own name, and those of the def that it reads -/
structure CompOk (X : Cx) (scope : Scope) (cl : List (Str × Addr)) (x : Str) (idx : List Nat) (NC : List Str) : Prop where
  clos : closureFor scope X.env = pure cl
  sub : ∀ y c, cl.lookup y = some c → X.env.cells.lookup y = some c
  has : ∀ y, ((relabel scope X.env).names.lookup y = some .cell ∨ (relabel scope X.env).names.lookup y = some .free) → ∃ c, cl.lookup y = some c
  nocell : ∀ y ∈ scope.names, y.2 ≠ .cell
  kind : scope.kind = .function
  loc : ∀ y ∈ scope.names, y.2 = .local → scope.names.lookup y.1 = some .local
  xl : scope.names.lookup x = some .local
  nc : NC = x :: idx.map fun i => X.N.getD i x
  nd : NC.Nodup
  cap : ∀ i ∈ idx, i < X.N.length ∧ ((X.env.scope.names.lookup (X.N.getD i x) = some .cell ∨ X.env.scope.names.lookup (X.N.getD i x) = some .free) ∧ ((relabel scope X.env).names.lookup (X.N.getD i x) = some .cell ∨ (relabel scope X.env).names.lookup (X.N.getD i x) = some .free))
section
variable {X : Cx} {scope : Scope} {cl : List (Str × Addr)} {x : Str} {idx : List Nat} {NC : List Str} {C : Addr} {fp : List Addr} {pins : List (Addr × Obj)} {σ : St} {H : Hp} {s : Shared}
theorem inv_comp {h1 : Heap} {t' : Nat} (c : CompOk X scope cl x idx NC) (I : Inv X pins σ H s) (hf : ∀ b ∈ fp, FpOk X pins H b) (hlt : ∀ b ∈ fp, b < s.heap.objs.size) (ns : h1.Ns s.heap.objs.size (fun _ => none))
    (k : ∀ b o, s.heap.get? b = some o → h1.get? b = some o) : Inv (cxC X scope cl NC s.heap.objs.size fp s H) [] (none :: caps σ idx) H { s with heap := h1, toks := t' } := by
  have sub : ∀ b, b ∈ frs X.stack → b ∈ X.env.locals :: X.fs := I.stkSub
  refine ⟨⟨I.ok.mod, c.kind, I.ok.glob, I.ok.blt, Nat.le_refl _, fun y z a h1 h2 => I.ok.inj y z a (c.sub _ _ h1) (c.sub _ _ h2), c.has, fun y a z => (by cases z), I.ok.hd, I.ok.frames, .inl rfl, fun b hb => ⟨Nat.ne_of_lt (hlt b hb), fun y a q => (hf b hb).2.2.2.2.1 y a (c.sub _ _ q)⟩,
    fun b o q => I.bs b o q, Nat.le_trans I.ok.bsz I.sz, fun b o q hb => ?_, fun b hb z => ?_, I.stack, I.stkFree⟩, rfl, I.bare, Un.kept k, ⟨_, ns, fun i y v e1 e2 e3 => ?_⟩, fun y a q => ?_, I.hok.fresh (Nat.le_refl _), fun y a q => I.freeC _ _ (c.sub _ _ q), fun p hp => (by cases hp), I.hok.keeps fun b u o _ q => k b o q, ?_⟩
  · rcases (hf b hb).2.2.2.1 with z | z
    · exact I.ok.noex b o q z
    · exact absurd (Nat.lt_of_lt_of_le (Heap.lt_size (I.ok.bs b o q).1) z) (Nat.lt_irrefl _)
  · rcases List.mem_cons.mp (sub b z) with r | r
    · exact (hf b hb).2.1 r
    · exact (hf b hb).2.2.1 r
  · cases i with
    | zero => cases e2
    | succ j =>
      have e1' : (idx.map fun i => X.N.getD i x)[j]? = some y := by
        have : (cxC X scope cl NC s.heap.objs.size fp s H).N = NC := rfl
        rw [this, c.nc] at e1
        exact e1
      have e2' : (caps σ idx)[j]? = some (some v) := e2
      rw [List.getElem?_map] at e1'
      unfold caps at e2'
      rw [List.getElem?_map] at e2'
      cases ei : idx[j]? with
      | none => rw [ei] at e1'; cases e1'
      | some i =>
        rw [ei] at e1' e2'
        simp only [Option.map_some, Option.some.injEq] at e1' e2'
        obtain ⟨hi, h2, h3⟩ := c.cap i (List.mem_of_getElem? ei)
        rw [e1'] at h2 h3
        have hN : X.N[i]? = some y := by
          rw [← e1']
          simp [List.getD, List.getElem?_eq_getElem hi]
        have hσ : σ[i]? = some (some v) := by
          cases q : σ[i]? with
          | none => rw [q] at e2'; cases e2'
          | some o => rw [q] at e2'; simp only [Option.getD_some] at e2'; rw [e2']
        obtain ⟨m, hn, hl⟩ := I.loc
        obtain ⟨u, r, l⟩ := hl i y v hN hσ (h2.elim (fun z => .inr (.inl z)) fun z => .inr (.inr z))
        refine ⟨u, r, .inr ⟨h3, ?_⟩⟩
        rcases l with ⟨l, _⟩ | ⟨_, a, ha, hc⟩
        · exfalso
          have l' : X.env.scope.names.lookup y = some .local := l
          rcases h2 with z | z <;> (rw [l'] at z; cases z)
        · obtain ⟨a', ha'⟩ := c.has y h3
          have := c.sub _ _ ha'
          rw [ha] at this
          cases this
          exact ⟨a, ha', hc.keeps k⟩
  · obtain ⟨v, z⟩ := I.cell _ _ (c.sub _ _ q)
    exact ⟨v, z.keeps k⟩
  · show _ = NC.length
    rw [c.nc]
    simp [caps]
/-- the list at D grows by an item a turn -/
def CompTo (J : It) (D : Addr) (τ : St) (te : TE) (Q : VK) (H : Hp) : Prop := ∃ W : Nat → Nat → List V → Hp → Prop, (∃ m, W 0 m [] H) ∧ ∀ i m ys H2, W i m ys H2 → H2 D = some (.lst ys) ∧
  ((J.stop i H2 ∧ Q (.ref D) H2) ∨ (J.go i H2 ∧ ys.length < sizeLine ∧ ∃ N : List V → Hp → Prop, (∀ zs H', N zs H' → ∃ m', m' < m ∧ W (i + 1) m' zs H') ∧ ∀ y H3, J.yld i H2 y H3 → te (some y :: τ) H3 fun v H4 => H4 D = some (.lst ys) ∧ N (ys ++ [v]) (upd H4 D (.lst (ys ++ [v])))))
def tComp (wi : TI) (idx : List Nat) (te : TE) : TE := fun σ H Q => wi σ H fun J H1 => ∀ D, H1 D = none → CompTo J D (caps σ idx) te Q (upd H1 D (.lst []))
theorem appended {X : Cx} {pins : List (Addr × Obj)} {σ : St} {H : Hp} {s : Shared} {D : Addr} {ys : List V} {v : V} {u : Value} (I : Inv X pins σ H s) (h : H D = some (.lst ys)) (hz : ys.length < sizeLine) (r : RelV v u) :
    wpAny (model X.prog X.w) X.A (call (.builtin "list.append") [.ref D, u]) (fun _ s' => Inv X pins σ (upd H D (.lst (ys ++ [v]))) s') X.xe s := by
  refine thn (mt_append pins s σ H (.ref D) [v] (.ref D) [u] (fun _ H' => H' = upd H D (.lst (ys ++ [v]))) I rfl (.cons r .nil) ⟨D, ys, v, rfl, rfl, h, hz, rfl⟩) fun w s' ⟨_, H', I', _, e⟩ => ?_
  rw [← e]
  exact I'
theorem pe_comp {elt iter : Expr} {px pos : Pos} {wi : TI} {te : TE} (c : CompOk X scope cl x idx NC) (hc : X.calm = true) (hi : PI X (.Name x px) iter wi) (he : ∀ C fp s₀ H₀, PE (cxC X scope cl NC C fp s₀ H₀) elt te)
    (hs : ∀ x, foldedSetIterable iter X.env x = pure x := by intro _; rfl) : PE X (.ListComp elt [⟨.Name x px, iter, [], 0⟩] scope pos) (tComp wi idx te) := by
  intro pins s σ H Q I h
  rw [eval_ListComp]
  refine wpAny_comprehension_free (use := none) rfl hs c.clos c.kind c.loc (thn (hi pins s σ H _ I h) fun v s1 h1 => thn h1 fun itv s2 h2 => ?_)
  obtain ⟨it, fp, tn, J, H2, rfl, I2, T, st2, f2, q⟩ := h2
  refine wpAny_newObj_type (wpAny_newFunctionEnv c.nocell (by intro y hy; simp at hy) (fun h₁ hns₁ hsb₁ => ?_) c.kind)
  dsimp only at hns₁ hsb₁ ⊢
  have I3 : Inv X pins σ (upd H2 s2.heap.objs.size (.lst [])) { s2 with heap := s2.heap.push { cls := .type "list", data := .seq ([] : List Value).toArray }, toks := s2.toks } := I2.lnew (ys := []) (its := []) .nil (Nat.zero_le _)
  obtain ⟨W, ⟨m0, w0⟩, turn⟩ := q s2.heap.objs.size I2.fresh
  generalize hD : s2.heap.objs.size = D at *
  generalize hH : s2.heap.push { cls := .type "list", data := .seq ([] : List Value).toArray } = h3 at *
  have hlt2 : ∀ b ∈ fp, b < D := fun b hb => by
    obtain ⟨o, e, _⟩ := T.obj _ _ st2 b hb
    rw [← hD]
    exact Heap.lt_size e
  have hlt : ∀ b ∈ fp, b < h3.objs.size := fun b hb => by
    rw [← hH, Heap.size_push, hD]
    exact Nat.lt_succ_of_lt (hlt2 b hb)
  have hf : ∀ b ∈ fp, FpOk X pins (upd H2 D (.lst [])) b := fun b hb => ⟨by rw [upd_ne (Nat.ne_of_lt (hlt2 b hb))]; exact (f2 b hb).1, (f2 b hb).2⟩
  have kp : ∀ b o, h3.get? b = some o → h₁.get? b = some o := fun b o e => hsb₁.extBut b o (Nat.ne_of_lt (Heap.lt_size e)) (Heap.get?_push_of_some _ e)
  have I4 : Inv (cxC X scope cl NC h3.objs.size fp { s2 with heap := h3, toks := s2.toks } (upd H2 D (.lst []))) [] (none :: caps σ idx) (upd H2 D (.lst [])) { s2 with heap := h₁, toks := s2.toks + ([] : List (Str × Value)).length } :=
    inv_comp (s := { s2 with heap := h3, toks := s2.toks }) c I3 hf hlt hns₁ kp
  have stat : ∀ {H' : Hp}, (∀ b ∈ fp, H' b = none) → ∀ b ∈ fp, FpOk (cxC X scope cl NC h3.objs.size fp { s2 with heap := h3, toks := s2.toks } (upd H2 D (.lst []))) [] H' b := fun hn b hb =>
    ⟨hn b hb, Nat.ne_of_lt (hlt b hb), fun z => (List.mem_cons.mp (I3.stkSub b z)).elim (hf b hb).2.1 (hf b hb).2.2.1, .inl hb, fun y a q => (hf b hb).2.2.2.2.1 y a (c.sub _ _ q), fun p hp => (by cases hp)⟩
  have st1 : tn 0 h₁ := T.keep 0 _ _ st2 fun b hb o e => kp b o (by rw [← hH]; exact Heap.get?_push_of_some _ e)
  have loop : ∀ s4 : Shared, s4 = { s2 with heap := h₁, toks := s2.toks + ([] : List (Str × Value)).length } →
      codeAny (model X.prog X.w) X.A (.compLoop (.ListComp elt [⟨.Name x px, iter, [], 0⟩] scope pos) 0 (.ref it) (.ref D) (compEnvC scope cl h3.objs.size X.env)) (compPost (model X.prog X.w) X.A X.xe none (EP X pins σ Q) (.ref D) h3.objs.size) s4 := by
    rintro s4 rfl
    refine compLoop_any (fun n s' => ∃ i ys H' v0, Inv (cxC X scope cl NC h3.objs.size fp { s2 with heap := h3, toks := s2.toks } (upd H2 D (.lst []))) [] (v0 :: caps σ idx) H' s' ∧ tn i s'.heap ∧ (∀ b ∈ fp, H' b = none) ∧ W i n ys H')
      ?_ m0 ⟨0, [], _, none, I4, st1, fun b hb => (hf b hb).1, w0⟩
    rintro n s5 ⟨i, ys, H5, v0, I5, st5, fr5, w5⟩
    obtain ⟨hDl, alt⟩ := turn i n ys H5 w5
    rcases alt with ⟨stop, qn⟩ | ⟨go, hz, N, hN, step⟩
    · refine thn (T.done (cxC X scope cl NC h3.objs.size fp { s2 with heap := h3, toks := s2.toks } (upd H2 D (.lst []))) rfl rfl rfl hc i [] s5 _ H5 _ I5 (stat fr5) st5 stop) fun r s6 ⟨hr, I6⟩ => ?_
      subst hr
      obtain ⟨m, ns6, _⟩ := id I6.loc
      refine ⟨m, ns6, fun h' hs' => ⟨.ref D, H5, ?_, rfl, qn⟩⟩
      have J6 : Inv X pins σ H5 s6 := I3.call' (ch := fp) I6.os I6.base I6.hok I6.bare fun b hb => ⟨(hf b hb).2.2.2.1, (hf b hb).2.1, (hf b hb).2.2.2.2.1, (hf b hb).2.2.2.2.2⟩
      refine J6.turned (t' := s6.toks) (it := h3.objs.size) (fun b o hb e => hs'.extBut b o hb e) I6.free (Nat.ne_of_gt I3.lt) (.inr I3.sz) (fun y a q z => ?_) (fun p hp z => ?_)
      · obtain ⟨v, q'⟩ := I3.cell y a q
        exact absurd q'.lt (by rw [z]; exact Nat.lt_irrefl _)
      · exact absurd (Heap.lt_size (I3.pin p hp).1) (by rw [z]; exact Nat.lt_irrefl _)
    · refine thn (T.item (cxC X scope cl NC h3.objs.size fp { s2 with heap := h3, toks := s2.toks } (upd H2 D (.lst []))) rfl rfl rfl hc i [] s5 _ H5 _ I5 (stat fr5) st5 go) fun r s6 ⟨u, hr, h6⟩ => ?_
      subst hr
      refine thn h6 fun _ s7 ⟨y, H7, I7, r7, y7, st7, fr7⟩ => ?_
      have I7' := I7.pinned (stat fr7) (T.obj _ _ st7)
      have hnl : (relabel scope X.env).names.lookup x = some .local := lookup_relabel_local c.xl
      refine wpAny_mono (pg_name (X := cxC X scope cl NC h3.objs.size fp { s2 with heap := h3, toks := s2.toks } (upd H2 D (.lst []))) (i := 0) (x := x) (pos := px) c.nd (by show NC[0]? = some x; rw [c.nc]; rfl) (.inl hnl) (.inr hnl) _ s7 _ H7 y u
        (fun σ' H' => σ' = some y :: caps σ idx ∧ H' = H7) I7' r7 ⟨rfl, rfl⟩) (fun _ s8 ⟨σ8, H8, I8, e8, e8'⟩ => ?_) fun _ _ z => z.elim
      subst e8 e8'
      refine wpAny_mono (he _ _ _ _ _ s8 _ H8 _ I8 (step y H8 y7)) (fun w s9 ⟨v, H9, I9, r9, hD9, n9⟩ => ?_) fun _ _ z => z.elim
      obtain ⟨m', hm, w9⟩ := hN _ _ n9
      refine wpAny_mono (appended (X := (cxC X scope cl NC h3.objs.size fp { s2 with heap := h3, toks := s2.toks } (upd H2 D (.lst [])))) I9 hD9 hz r9) (fun _ s10 I10 => ?_) fun _ _ z => z.elim
      refine ⟨m', hm, i + 1, ys ++ [v], _, some y, I10.unpinned, T.keep _ _ _ st7 fun b hb o e => (I10.pin (b, o) (List.mem_append_right _ (List.mem_append_right _ (mem_pinsAt hb e)))).1, fun b hb => ?_, w9⟩
      obtain ⟨o, e, d⟩ := T.obj _ _ st7 b hb
      exact (I10.pin (b, o) (List.mem_append_right _ (List.mem_append_right _ (mem_pinsAt hb e)))).2.1
  exact codeAny_compStart_list (loop _ rfl) (T.self _ 0 _ _ _ st1 (loop _ rfl))
end
end L2
end
section
set_option Elab.async false
set_option linter.all false
set_option maxRecDepth 100000
set_option maxHeartbeats 4000000
namespace L2
open PySem PySem.Spec PyProof.Rows LX
section
variable {X : Cx}
/-! ### all of a list of bools -/
theorem bools_of : ∀ {bs : List Bool} {us : List Value}, Vals (bs.map V.bl) us → us = bs.map Value.bool
  | [], _, .nil => rfl
  | b :: r, _, .cons h t => by
    cases h
    rw [bools_of t]
    rfl
def rAll (K : PySem.W.Frag) : List V → Hp → VK → Prop := fun vs H Q => ∃ (p : Addr) (bs : List Bool), vs = [.ref p] ∧ SqL K H p (bs.map V.bl) ∧ Q (.bl (bs.all id)) H
theorem call_all (hc : X.calm = true) : CallR X (.builtin "all") (rAll X.K) := by
  rintro pins s σ H xs us Q I r ⟨p, bs, rfl, hq, q⟩
  obtain ⟨u, rfl, ru⟩ := r.one
  cases (show u = Value.ref p from ru)
  obtain ⟨its, rv, ⟨o, n, e1, e2, e3, e4⟩, hz⟩ := I.list hq
  have e := bools_of rv
  have hl : s.heap.IsList p (bs.map Value.bool).toArray := by
    rw [← e]
    exact ⟨o, e1, e2, n, e4⟩
  have hlt : p < s.heap.objs.size := Heap.lt_size e1
  refine call_all_walk (wpAny_pyIter_list hl ?_)
  refine ⟨s.heap.objs.size, [s.heap.objs.size, p], [s.heap.objs.size], (bs.map Value.bool).toArray.size, _, _, fun i => (bs[i]?).getD true, rfl, Walks.list (A := X.A.in1) (I.ok.hd hc) _ p (Nat.ne_of_lt hlt) _,
    ⟨⟨_, Heap.get?_push_size _ rfl, rfl, rfl⟩, hl.push _⟩, fun i v s' Q' E' hP hQ => ?_, fun h' tk hk => ?_⟩
  · simp only [List.getElem?_toArray, List.getElem?_map] at hP
    cases eb : bs[i]? with
    | none => rw [eb] at hP; cases hP
    | some b =>
      rw [eb] at hP
      cases hP
      simp only [eb, Option.getD_some] at hQ
      exact wpAny_truthy_bool hQ
  · have e : ((List.range (bs.map Value.bool).toArray.size).all fun i => (bs[i]?).getD true) = bs.all id := by
      rw [List.size_toArray, List.length_map]
      exact LSm.range_all bs
    rw [e]
    refine ⟨.bl _, H, I.kept (t' := tk) fun b x q => hk b x (fun hm => ?_) (Heap.get?_push_of_some _ q), rfl, q⟩
    rw [List.mem_singleton.mp hm] at q
    exact Nat.lt_irrefl _ (Heap.lt_size q)
/-! ### a comprehension with one test -/
theorem compLoop_test {prog : Program} {w : World} {A : Around} {R : Result → Shared → Prop} {s : Shared} {elt target iter c : Expr} {scope : Scope} {pos : Pos} {it acc : Value} {env : Env} (I : Nat → Shared → Prop)
    (turn : ∀ n s, I n s → wpAny (model prog w) A (pyNext it) (fun r s₁ => match r with
      | none => R (.ok .next) s₁
      | some v => wpAny (model prog w) A (letOwnedTupleGo target it v) (fun _ s5 => wpAny (model prog w) A (assign target env v) (fun _ s₂ => wpAny (model prog w) A (isTrue c env (eval c env)) (fun ok s6 => if ok = true then wpAny (model prog w) A (eval elt env) (fun x s₃ =>
          wpAny (model prog w) A (call (.builtin "list.append") [acc, x]) (fun _ s₄ => ∃ m, m < n ∧ I m s₄) (notedBy (model prog w) A env fun e s' => R (.error e) s') s₃)
          (notedBy (model prog w) A env fun e s' => R (.error e) s') s6 else ∃ m, m < n ∧ I m s6) (notedBy (model prog w) A env fun e s' => R (.error e) s') s₂) (notedBy (model prog w) A env fun e s' => R (.error e) s') s5) (notedBy (model prog w) A env fun e s' => R (.error e) s') s₁) (notedBy (model prog w) A env fun e s' => R (.error e) s') s)
    (n : Nat) (h : I n s) : codeAny (model prog w) A (.compLoop (.ListComp elt [⟨target, iter, [c], 0⟩] scope pos) 0 it acc env) R s := by
  refine codeAny_loop rfl I (fun n s hI => ?_) n h
  show wpAny _ _ ((compTurn (.ListComp elt [⟨target, iter, [c], 0⟩] scope pos) 0 it acc env).onRaise (fun x => do noteFrame x env; theTreesLotGoes x)) _ _ s
  refine wpAny_noted ?_
  rw [compTurn_list]
  refine wpAny_bind (wpAny_standAt (wpAny_bind (wpAny_mono (turn n s hI) (fun r s₁ h₁ => ?_) fun _ _ h' => h')))
  cases r with
  | none => exact wpAny_pure h₁
  | some v =>
    refine wpAny_bind (wpAny_mono h₁ (fun _ s5 h5 => ?_) fun _ _ h' => h')
    refine wpAny_bind (wpAny_mono h5 (fun _ s₂ h₂ => wpAny_bind (wpAny_mono (wpAny_tests_one h₂) (fun ok s₃ h₃ => ?_) fun _ _ h' => h')) fun _ _ h' => h')
    cases ok with
    | false => exact wpAny_pure ⟨rfl, h₃⟩
    | true =>
      exact wpAny_bind (wpAny_bind (wpAny_mono h₃ (fun x s₄ h₄ => wpAny_bind (wpAny_mono h₄ (fun _ s₅ h₅ => wpAny_pure (wpAny_pure ⟨rfl, h₅⟩)) fun _ _ h' => h')) fun _ _ h' => h'))
variable {scope : Scope} {cl : List (Str × Addr)} {x : Str} {idx : List Nat} {NC : List Str} {C : Addr} {fp : List Addr} {pins : List (Addr × Obj)} {σ : St} {H : Hp} {s : Shared}
/-- the list at D grows by an item where the test holds -/
def tCompT (wi : TI) (idx : List Nat) (tc : TT) (te : TE) : TE := fun σ H Q => wi σ H fun J H1 => ∀ D, H1 D = none → ∃ W : Nat → Nat → List V → Hp → Prop, (∃ m, W 0 m [] (upd H1 D (.lst []))) ∧ ∀ i m ys H2, W i m ys H2 → H2 D = some (.lst ys) ∧
  ((J.stop i H2 ∧ Q (.ref D) H2) ∨ (J.go i H2 ∧ ys.length < sizeLine ∧ ∃ N : List V → Hp → Prop, (∀ zs H', N zs H' → ∃ m', m' < m ∧ W (i + 1) m' zs H') ∧ ∀ y H3, J.yld i H2 y H3 → tc (some y :: caps σ idx) H3 fun b H4 => if b = true then te (some y :: caps σ idx) H4 fun v H5 => H5 D = some (.lst ys) ∧ N (ys ++ [v]) (upd H5 D (.lst (ys ++ [v])))
    else N ys H4))
theorem pe_compT {elt iter ct : Expr} {px pos : Pos} {wi : TI} {tc : TT} {te : TE} (c : CompOk X scope cl x idx NC) (hc : X.calm = true) (hi : PI X (.Name x px) iter wi) (ht : ∀ C fp s₀ H₀, PT (cxC X scope cl NC C fp s₀ H₀) ct tc) (he : ∀ C fp s₀ H₀, PE (cxC X scope cl NC C fp s₀ H₀) elt te)
    (hs : ∀ x, foldedSetIterable iter X.env x = pure x := by intro _; rfl) : PE X (.ListComp elt [⟨.Name x px, iter, [ct], 0⟩] scope pos) (tCompT wi idx tc te) := by
  intro pins s σ H Q I h
  rw [eval_ListComp]
  refine wpAny_comprehension_free (use := none) rfl hs c.clos c.kind c.loc (thn (hi pins s σ H _ I h) fun v s1 h1 => thn h1 fun itv s2 h2 => ?_)
  obtain ⟨it, fp, tn, J, H2, rfl, I2, T, st2, f2, q⟩ := h2
  refine wpAny_newObj_type (wpAny_newFunctionEnv c.nocell (by intro y hy; simp at hy) (fun h₁ hns₁ hsb₁ => ?_) c.kind)
  dsimp only at hns₁ hsb₁ ⊢
  have I3 : Inv X pins σ (upd H2 s2.heap.objs.size (.lst [])) { s2 with heap := s2.heap.push { cls := .type "list", data := .seq ([] : List Value).toArray }, toks := s2.toks } := I2.lnew (ys := []) (its := []) .nil (Nat.zero_le _)
  obtain ⟨W, ⟨m0, w0⟩, turn⟩ := q s2.heap.objs.size I2.fresh
  generalize hD : s2.heap.objs.size = D at *
  generalize hH : s2.heap.push { cls := .type "list", data := .seq ([] : List Value).toArray } = h3 at *
  have hlt2 : ∀ b ∈ fp, b < D := fun b hb => by
    obtain ⟨o, e, _⟩ := T.obj _ _ st2 b hb
    rw [← hD]
    exact Heap.lt_size e
  have hlt : ∀ b ∈ fp, b < h3.objs.size := fun b hb => by
    rw [← hH, Heap.size_push, hD]
    exact Nat.lt_succ_of_lt (hlt2 b hb)
  have hf : ∀ b ∈ fp, FpOk X pins (upd H2 D (.lst [])) b := fun b hb => ⟨by rw [upd_ne (Nat.ne_of_lt (hlt2 b hb))]; exact (f2 b hb).1, (f2 b hb).2⟩
  have kp : ∀ b o, h3.get? b = some o → h₁.get? b = some o := fun b o e => hsb₁.extBut b o (Nat.ne_of_lt (Heap.lt_size e)) (Heap.get?_push_of_some _ e)
  have I4 : Inv (cxC X scope cl NC h3.objs.size fp { s2 with heap := h3, toks := s2.toks } (upd H2 D (.lst []))) [] (none :: caps σ idx) (upd H2 D (.lst [])) { s2 with heap := h₁, toks := s2.toks + ([] : List (Str × Value)).length } :=
    inv_comp (s := { s2 with heap := h3, toks := s2.toks }) c I3 hf hlt hns₁ kp
  have stat : ∀ {H' : Hp}, (∀ b ∈ fp, H' b = none) → ∀ b ∈ fp, FpOk (cxC X scope cl NC h3.objs.size fp { s2 with heap := h3, toks := s2.toks } (upd H2 D (.lst []))) [] H' b := fun hn b hb =>
    ⟨hn b hb, Nat.ne_of_lt (hlt b hb), fun z => (List.mem_cons.mp (I3.stkSub b z)).elim (hf b hb).2.1 (hf b hb).2.2.1, .inl hb, fun y a q => (hf b hb).2.2.2.2.1 y a (c.sub _ _ q), fun p hp => (by cases hp)⟩
  have st1 : tn 0 h₁ := T.keep 0 _ _ st2 fun b hb o e => kp b o (by rw [← hH]; exact Heap.get?_push_of_some _ e)
  have loop : ∀ s4 : Shared, s4 = { s2 with heap := h₁, toks := s2.toks + ([] : List (Str × Value)).length } →
      codeAny (model X.prog X.w) X.A (.compLoop (.ListComp elt [⟨.Name x px, iter, [ct], 0⟩] scope pos) 0 (.ref it) (.ref D) (compEnvC scope cl h3.objs.size X.env)) (compPost (model X.prog X.w) X.A X.xe none (EP X pins σ Q) (.ref D) h3.objs.size) s4 := by
    rintro s4 rfl
    refine compLoop_test (fun n s' => ∃ i ys H' v0, Inv (cxC X scope cl NC h3.objs.size fp { s2 with heap := h3, toks := s2.toks } (upd H2 D (.lst []))) [] (v0 :: caps σ idx) H' s' ∧ tn i s'.heap ∧ (∀ b ∈ fp, H' b = none) ∧ W i n ys H')
      ?_ m0 ⟨0, [], _, none, I4, st1, fun b hb => (hf b hb).1, w0⟩
    rintro n s5 ⟨i, ys, H5, v0, I5, st5, fr5, w5⟩
    obtain ⟨hDl, alt⟩ := turn i n ys H5 w5
    rcases alt with ⟨stop, qn⟩ | ⟨go, hz, N, hN, step⟩
    · refine thn (T.done (cxC X scope cl NC h3.objs.size fp { s2 with heap := h3, toks := s2.toks } (upd H2 D (.lst []))) rfl rfl rfl hc i [] s5 _ H5 _ I5 (stat fr5) st5 stop) fun r s6 ⟨hr, I6⟩ => ?_
      subst hr
      obtain ⟨m, ns6, _⟩ := id I6.loc
      refine ⟨m, ns6, fun h' hs' => ⟨.ref D, H5, ?_, rfl, qn⟩⟩
      have J6 : Inv X pins σ H5 s6 := I3.call' (ch := fp) I6.os I6.base I6.hok I6.bare fun b hb => ⟨(hf b hb).2.2.2.1, (hf b hb).2.1, (hf b hb).2.2.2.2.1, (hf b hb).2.2.2.2.2⟩
      refine J6.turned (t' := s6.toks) (it := h3.objs.size) (fun b o hb e => hs'.extBut b o hb e) I6.free (Nat.ne_of_gt I3.lt) (.inr I3.sz) (fun y a q z => ?_) (fun p hp z => ?_)
      · obtain ⟨v, q'⟩ := I3.cell y a q
        exact absurd q'.lt (by rw [z]; exact Nat.lt_irrefl _)
      · exact absurd (Heap.lt_size (I3.pin p hp).1) (by rw [z]; exact Nat.lt_irrefl _)
    · refine thn (T.item (cxC X scope cl NC h3.objs.size fp { s2 with heap := h3, toks := s2.toks } (upd H2 D (.lst []))) rfl rfl rfl hc i [] s5 _ H5 _ I5 (stat fr5) st5 go) fun r s6 ⟨u, hr, h6⟩ => ?_
      subst hr
      refine thn h6 fun _ s7 ⟨y, H7, I7, r7, y7, st7, fr7⟩ => ?_
      have I7' := I7.pinned (stat fr7) (T.obj _ _ st7)
      have hnl : (relabel scope X.env).names.lookup x = some .local := lookup_relabel_local c.xl
      refine wpAny_mono (pg_name (X := cxC X scope cl NC h3.objs.size fp { s2 with heap := h3, toks := s2.toks } (upd H2 D (.lst []))) (i := 0) (x := x) (pos := px) c.nd (by show NC[0]? = some x; rw [c.nc]; rfl) (.inl hnl) (.inr hnl) _ s7 _ H7 y u
        (fun σ' H' => σ' = some y :: caps σ idx ∧ H' = H7) I7' r7 ⟨rfl, rfl⟩) (fun _ s8 ⟨σ8, H8, I8, e8, e8'⟩ => ?_) fun _ _ z => z.elim
      subst e8 e8'
      refine wpAny_mono (ht _ _ _ _ _ s8 _ H8 _ I8 (step y H8 y7)) (fun bb s11 ⟨H11, I11, q11⟩ => ?_) fun _ _ z => z.elim
      have fin : ∀ {H12 : Hp} {s12 : Shared} {zs : List V} {m' : Nat}, Inv (cxC X scope cl NC h3.objs.size fp { s2 with heap := h3, toks := s2.toks } (upd H2 D (.lst []))) ([] ++ pinsAt fp s7.heap) (some y :: caps σ idx) H12 s12 → m' < n → W (i + 1) m' zs H12 →
          ∃ m, m < n ∧ ∃ i ys H' v0, Inv (cxC X scope cl NC h3.objs.size fp { s2 with heap := h3, toks := s2.toks } (upd H2 D (.lst []))) [] (v0 :: caps σ idx) H' s12 ∧ tn i s12.heap ∧ (∀ b ∈ fp, H' b = none) ∧ W i m ys H' := fun {H12 s12 zs m'} I12 hm w12 => by
        refine ⟨m', hm, i + 1, zs, _, some y, I12.unpinned, T.keep _ _ _ st7 fun b hb o e => (I12.pin (b, o) (List.mem_append_right _ (List.mem_append_right _ (mem_pinsAt hb e)))).1, fun b hb => ?_, w12⟩
        obtain ⟨o, e, d⟩ := T.obj _ _ st7 b hb
        exact (I12.pin (b, o) (List.mem_append_right _ (List.mem_append_right _ (mem_pinsAt hb e)))).2.1
      cases bb with
      | false =>
        obtain ⟨m', hm, w9⟩ := hN _ _ q11
        exact fin I11 hm w9
      | true =>
        refine wpAny_mono (he _ _ _ _ _ s11 _ H11 _ I11 q11) (fun w s9 ⟨v, H9, I9, r9, hD9, n9⟩ => ?_) fun _ _ z => z.elim
        obtain ⟨m', hm, w9⟩ := hN _ _ n9
        refine wpAny_mono (appended (X := (cxC X scope cl NC h3.objs.size fp { s2 with heap := h3, toks := s2.toks } (upd H2 D (.lst [])))) I9 hD9 hz r9) (fun _ s10 I10 => ?_) fun _ _ z => z.elim
        exact fin I10 hm w9
  exact codeAny_compStart_list (loop _ rfl) (T.self _ 0 _ _ _ st1 (loop _ rfl))
end
end L2
end
section
set_option Elab.async false
set_option linter.all false
set_option maxRecDepth 100000
set_option maxHeartbeats 4000000
namespace L2
open PySem PySem.Spec PyProof.Rows LX
/-! ### enumerate of a list, unpacked -/
def Ite (K : PySem.W.Frag) (a : Addr) : It :=
  ⟨fun i H => ∃ xs x, SqL K H a xs ∧ xs[i]? = some x, fun i H y H' => ∃ t x, H t = none ∧ y = .ref t ∧ (∀ xs, SqL K H a xs → xs[i]? = some x) ∧ H' = upd H t (.tup [.int (i : Int), x]), fun i H => ∃ xs, SqL K H a xs ∧ xs.length ≤ i⟩
theorem turn_enum {P : Program} {w : World} {K : PySem.W.Frag} {es : List Expr} {x1 : Nat} {pos : Pos} (a it e : Addr) (hne : e ≠ it) :
    Turn P w K (.Tuple es x1 pos) (Ite K a) [e, it] e (fun i h => ∃ old, IsEnum h e it i old ∧ h.IsListIter it a i) where
  mem := by simp
  obj := fun i h st b hb => by
    obtain ⟨old, h1, o, q, c, d⟩ := st
    rcases List.mem_cons.mp hb with z | z
    · rw [z]
      exact ⟨_, h1, fun v z => by
        have z' : Data.fields _ = Data.cell v := z
        cases z'⟩
    · rw [List.mem_singleton.mp z]
      exact ⟨o, q, fun v z => by rw [d] at z; cases z⟩
  keep := fun i h h' st k => by
    obtain ⟨old, h1, h2⟩ := st
    exact ⟨old, k e (by simp) _ h1, h2.at fun o q => k it (by simp) o q⟩
  item := by
    intro X hP hw hK hc i pins s σ H E I hf st hg
    subst hP hw hK
    obtain ⟨xs, x, hq, hx⟩ := hg
    obtain ⟨its, rv, p, hz⟩ := I.list hq
    obtain ⟨u, hu, ru⟩ := rv.get hx
    obtain ⟨old, he, hit⟩ := st
    have fr : H s.heap.objs.size = none := I.hok.fresh (Nat.le_refl _)
    refine wpAny_pyNext_enum_item he hit p.isList (x := u) (by simpa using hu) hne fun h1 heo hit1 ht1 hz1 hk1 => ⟨_, rfl, wpAny_letOwnedTupleGo_enum heo fun h2 he2 hs2 => ?_⟩
    replace hs2 : Heap.SameBut e h1 h2 := hs2
    have hel : e < s.heap.objs.size := Heap.lt_size he
    have k2 : ∀ b o, b ≠ e → b ≠ it → s.heap.get? b = some o → h2.get? b = some o := fun b o z1 z2 q => (hs2.2 b z1).trans (hk1 b o z1 z2 q)
    have ht2 : h2.get? s.heap.objs.size = some { cls := .type "tuple", data := .seq #[.int i s.toks, u] } := (hs2.2 _ (Nat.ne_of_gt hel)).trans ht1
    have hit2 : h2.IsListIter it a (i + 1) := hit1.extBut hs2.extBut (Ne.symm hne)
    have nt : ∀ b o, s.heap.get? b = some o → b ≠ s.heap.objs.size := fun b o q => Nat.ne_of_lt (Heap.lt_size q)
    have nh : ∀ b v, H b = some v → b ≠ s.heap.objs.size := fun b v q => ne_of_none q fr
    have ne' : ∀ b v, H b = some v → b ≠ e ∧ b ≠ it := fun b v q => ⟨ne_of_none q (hf e (by simp)).1, ne_of_none q (hf it (by simp)).1⟩
    refine ⟨.ref s.heap.objs.size, upd H s.heap.objs.size (.tup [.int (i : Int), x]), ?_, rfl, ⟨_, x, fr, rfl, fun ys hy => by rw [I.list_inj hy hq]; exact hx, rfl⟩, ⟨_, he2, hit2⟩, fun b hb => ?_⟩
    · refine Inv.step (s := s) (h' := h2) (t' := s.toks + 1) (H := H) (g' := s.gens) (d' := s.drawn) (ch := [e, it]) I (fun b hb => ⟨(hf b hb).2.2.2.1, (hf b hb).2.1, (hf b hb).2.2.2.2.1, (hf b hb).2.2.2.2.2⟩)
        (fun b o _ _ z q _ => k2 b o (fun y => z (by simp [y])) (fun y => z (by simp [y])) q) (fun b o _ _ z q _ => ⟨o.slots, k2 b o (fun y => z (by simp [y])) (fun y => z (by simp [y])) q⟩)
        (fun b o _ q n => by rw [upd_ne (nt b o q)]; exact n) (fun b o z q => ⟨o, k2 b o (fun y => z (by simp [y])) (fun y => z (by simp [y])) q⟩)
        (fun b xs q => by rw [upd_ne (nh b _ q)]; exact q) (fun b o v q => by rw [upd_ne (nh b _ q)]; exact q) (fun b ps q => ⟨#[], by rw [upd_ne (nh b _ q), q]; simp⟩) (fun m hm => ?_) (fun b v q => ?_) I.bare
      · obtain ⟨o, es', ep, ho, r⟩ := hm
        exact ⟨o, es', ep, k2 _ o (Ne.symm (hf e (by simp)).2.1) (Ne.symm (hf it (by simp)).2.1) ho, r⟩
      · by_cases z : b = s.heap.objs.size
        · subst z
          rw [upd_same] at q
          cases q
          exact ⟨by show 2 ≤ sizeLine; decide, [.int i s.toks, u], .cons ⟨_, rfl⟩ (.cons ru .nil), _, ht2, rfl, _, rfl⟩
        · rw [upd_ne z] at q
          refine (I.hok b v q).stay (fun c o hc w => ?_) (fun c w => by rw [upd_ne (nh c _ w)]; exact w) fun c xs w => by rw [upd_ne (nh c _ w)]; exact w
          rcases hc with y | y
          · rw [y] at w ⊢
            exact k2 b o (ne' b v q).1 (ne' b v q).2 w
          · exact k2 c o (ne' c _ y).1 (ne' c _ y).2 w
    · have hb' : b < s.heap.objs.size := by
        rcases List.mem_cons.mp hb with z | z
        · rw [z]; exact hel
        · rw [List.mem_singleton.mp z]
          obtain ⟨o, q, _⟩ := hit
          exact Heap.lt_size q
      rw [upd_ne (Nat.ne_of_lt hb')]
      exact (hf b hb).1
  done := by
    intro X hP hw hK hc i pins s σ H E I hf st hg
    subst hP hw hK
    obtain ⟨xs, hq, hx⟩ := hg
    obtain ⟨its, rv, p, hz⟩ := I.list hq
    obtain ⟨f0, f1, f2, f3, f4, f5⟩ := hf it (by simp)
    have hl := rv.length
    obtain ⟨old, he, hit⟩ := st
    exact wpAny_pyNext_enum_end (I.ok.hd hc) he hit p.isList (by simp; omega) fun h' eb => ⟨rfl, I.turned (t' := s.toks) (fun b o hb q => eb b o hb q) f0 f1 f3 f4 f5⟩
  self := fun A i s Q E st h => by
    obtain ⟨old, he, hit⟩ := st
    exact wpAny_pyIter_enum he h
section
variable {X : Cx} {es : List Expr} {x1 : Nat} {tp : Pos}
def iEnum (K : PySem.W.Frag) (ta : TA) : TI := fun σ H R => ta σ H fun vs H1 => ∃ a, vs = [.ref a] ∧ (∃ xs, SqL K H1 a xs) ∧ R (Ite K a) H1
theorem pi_enum {a : Expr} {ta : TA} {p pos : Pos} (hg : Gl X "enumerate") (hm : X.mg "enumerate" = none) (ha : PA X [a] ta) (hs : starEach [a] X.env = [(false, eval a X.env)] := by rfl) : PI X (.Tuple es x1 tp) (.Call (.Name "enumerate" p) [a] [] pos) (iEnum X.K ta) := by
  intro pins s σ H R I h
  refine Call_ (ld_blt I hg hm PyProof.Rows.Boot.«enumerate» (PyProof.Rows.callWith_type1 (thn (ha pos pins s σ H _ I h) fun us s1 ⟨vs, H1, I1, r1, q1⟩ => ?_) hs rfl))
  obtain ⟨l, e, ⟨xs, hq⟩, q⟩ := q1
  subst e
  cases r1 with
  | cons r rr =>
    cases rr
    cases r
    obtain ⟨its, rv, pl, hz⟩ := I1.list hq
    refine call_enumerate_list pl.isList fun h' he hit hsz hk => ?_
    refine wpAny_pyIter_enum he ?_
    refine ⟨s1.heap.objs.size + 1, [s1.heap.objs.size + 1, s1.heap.objs.size], _, _, H1, rfl, I1.kept (t' := s1.toks) hk, turn_enum l s1.heap.objs.size (s1.heap.objs.size + 1) (Nat.succ_ne_self _), ⟨_, he, hit⟩, fun b hb => ?_, q⟩
    have hb' : s1.heap.objs.size ≤ b := by
      rcases List.mem_cons.mp hb with z | z
      · rw [z]; exact Nat.le_succ _
      · rw [List.mem_singleton.mp z]
        exact Nat.le_refl _
    exact I1.fpOk hb' (I1.hok.fresh hb')
end
/-- over a list that the body leaves as it is, by pairs -/
theorem for_enum {K : PySem.W.Frag} {a : Addr} {xs : List V} {g : TG} {tb : TS} {D : Ends} {σ : St} {H : Hp} (Pv : Nat → St → Hp → Prop) (h0 : Pv 0 σ H) (hl : ∀ i σ H, i ≤ xs.length → Pv i σ H → SqL K H a xs)
    (hs : ∀ i x σ H t, xs[i]? = some x → Pv i σ H → H t = none → g (.ref t) σ (upd H t (.tup [.int (i : Int), x])) fun σ2 H2 => tb { D with nx := Pv (i + 1), ct := Pv (i + 1), bk := D.nx } σ2 H2) (hd : ∀ σ H, Pv xs.length σ H → D.nx σ H) :
    ∃ W : Nat → Nat → St → Hp → Prop, (∃ m, W 0 m σ H) ∧ ∀ i m σ H, W i m σ H →
      ((Ite K a).stop i H ∧ D.nx σ H) ∨ ((Ite K a).go i H ∧ ∃ N : St → Hp → Prop, (∀ σ' H', N σ' H' → ∃ m', m' < m ∧ W (i + 1) m' σ' H') ∧ ∀ x H', (Ite K a).yld i H x H' → g x σ H' fun σ2 H2 => tb { D with nx := N, ct := N, bk := D.nx } σ2 H2) := by
  refine ⟨fun i m σ H => m = xs.length - i ∧ i ≤ xs.length ∧ Pv i σ H, ⟨xs.length, by simp, Nat.zero_le _, h0⟩, ?_⟩
  rintro i m σ H ⟨rfl, hi, p⟩
  by_cases hlt : i < xs.length
  · refine .inr ⟨⟨xs, xs[i], hl i σ H hi p, List.getElem?_eq_getElem hlt⟩, Pv (i + 1), fun σ' H' p' => ⟨xs.length - (i + 1), by omega, rfl, hlt, p'⟩, fun x H' y => ?_⟩
    obtain ⟨t, v, e1, e2, e3, e4⟩ := y
    subst e2 e4
    exact hs i v σ H t (e3 xs (hl i σ H hi p)) p e1
  · have e : i = xs.length := by omega
    subst e
    exact .inl ⟨⟨xs, hl _ σ H hi p, Nat.le_refl _⟩, hd σ H p⟩
end L2
namespace L2
open PySem
theorem comp_range {lo : Int} {n : Nat} {te : TE} {Q : VK} {D : Addr} {τ : St} {H : Hp} (Pv : Nat → List V → Hp → Prop) (h0 : Pv 0 [] H) (hD : ∀ i ys H, i ≤ n → Pv i ys H → H D = some (.lst ys) ∧ ys.length = i) (hn : n ≤ sizeLine)
    (hs : ∀ i ys H, i < n → Pv i ys H → te (some (.int (lo + i)) :: τ) H fun v H4 => H4 D = some (.lst ys) ∧ Pv (i + 1) (ys ++ [v]) (upd H4 D (.lst (ys ++ [v])))) (hd : ∀ ys H, Pv n ys H → Q (.ref D) H) : CompTo (Itr lo n) D τ te Q H := by
  refine ⟨fun i m ys H => m = n - i ∧ i ≤ n ∧ Pv i ys H, ⟨n, by simp, Nat.zero_le _, h0⟩, ?_⟩
  rintro i m ys H2 ⟨rfl, hi, p⟩
  obtain ⟨hd1, hd2⟩ := hD i ys H2 hi p
  refine ⟨hd1, ?_⟩
  by_cases hlt : i < n
  · refine .inr ⟨hlt, by omega, Pv (i + 1), fun zs H' p' => ⟨n - (i + 1), by omega, rfl, hlt, p'⟩, fun y H3 e => ?_⟩
    obtain ⟨e1, e2⟩ := e
    subst e1 e2
    exact hs i ys _ hlt p
  · have e : i = n := by omega
    subst e
    exact .inl ⟨Nat.le_refl _, hd ys H2 p⟩
theorem comp_list {K : PySem.W.Frag} {a : Addr} {xs : List V} {te : TE} {Q : VK} {D : Addr} {τ : St} {H : Hp} (Pv : Nat → List V → Hp → Prop) (h0 : Pv 0 [] H) (hD : ∀ i ys H, i ≤ xs.length → Pv i ys H → H D = some (.lst ys) ∧ ys.length = i) (hl : ∀ i ys H, i ≤ xs.length → Pv i ys H → SqL K H a xs) (hn : xs.length ≤ sizeLine)
    (hs : ∀ i x ys H, xs[i]? = some x → Pv i ys H → te (some x :: τ) H fun v H4 => H4 D = some (.lst ys) ∧ Pv (i + 1) (ys ++ [v]) (upd H4 D (.lst (ys ++ [v])))) (hd : ∀ ys H, Pv xs.length ys H → Q (.ref D) H) : CompTo (Itl K a) D τ te Q H := by
  refine ⟨fun i m ys H => m = xs.length - i ∧ i ≤ xs.length ∧ Pv i ys H, ⟨xs.length, by simp, Nat.zero_le _, h0⟩, ?_⟩
  rintro i m ys H2 ⟨rfl, hi, p⟩
  obtain ⟨hd1, hd2⟩ := hD i ys H2 hi p
  refine ⟨hd1, ?_⟩
  by_cases hlt : i < xs.length
  · refine .inr ⟨⟨xs, xs[i], hl i ys H2 hi p, List.getElem?_eq_getElem hlt⟩, by omega, Pv (i + 1), fun zs H' p' => ⟨xs.length - (i + 1), by omega, rfl, hlt, p'⟩, fun y H3 e => ?_⟩
    obtain ⟨e1, e2⟩ := e
    subst e1
    exact hs i y ys _ (e2 xs (hl i ys _ hi p)) p
  · have e : i = xs.length := by omega
    subst e
    exact .inl ⟨⟨xs, hl _ ys H2 hi p, Nat.le_refl _⟩, hd ys H2 p⟩
end L2
end
section
set_option Elab.async false
set_option linter.all false
set_option maxRecDepth 100000
set_option maxHeartbeats 4000000
namespace L2
open PySem PySem.Spec PyProof.Rows LX
/-! ### CompOk by what can be looked up -/
def relN (sc : Scope) (names : List (Str × NameKind)) : List (Str × NameKind) := names.map fun (n, k) => if (k == .free && sc.kind == .function && sc.names.lookup n == some .cell) then (n, .cell) else (n, k)
def CompP (sc scope : Scope) (x : Str) (ns N : List Str) (idx : List Nat) : Prop :=
  (∀ y ∈ scope.names, y.2 ≠ .cell) ∧ (∀ y ∈ scope.names, y.2 = .local → scope.names.lookup y.1 = some .local) ∧ scope.names.lookup x = some .local ∧ (∀ p ∈ relN sc scope.names, p.2 = .cell ∨ p.2 = .free → p.1 ∈ ns) ∧ (x :: idx.map fun i => N.getD i x).Nodup ∧
  ∀ i ∈ idx, i < N.length ∧ ((sc.names.lookup (N.getD i x) = some .cell ∨ sc.names.lookup (N.getD i x) = some .free) ∧ ((relN sc scope.names).lookup (N.getD i x) = some .cell ∨ (relN sc scope.names).lookup (N.getD i x) = some .free))
instance (sc scope : Scope) (x : Str) (ns N : List Str) (idx : List Nat) : Decidable (CompP sc scope x ns N idx) := by unfold CompP; infer_instance
theorem some_of_mem {y : Str} : ∀ {cl : List (Str × Addr)}, y ∈ cl.map (·.1) → ∃ c, cl.lookup y = some c
  | [], h => by simp at h
  | (n, c) :: r, h => by
    by_cases e : y = n
    · exact ⟨c, by simp [List.lookup, e]⟩
    · have h' : y ∈ r.map (·.1) := by
        rw [List.map_cons] at h
        rcases List.mem_cons.mp h with z | z
        · exact absurd z e
        · exact z
      obtain ⟨c', q⟩ := some_of_mem h'
      have hb : (y == n) = false := beq_eq_false_iff_ne.mpr e
      exact ⟨c', by simp only [List.lookup, hb]; exact q⟩
theorem comp_ok {X : Cx} {sc scope : Scope} {cl : List (Str × Addr)} {x : Str} {ns N : List Str} {idx : List Nat} (hsc : X.env.scope = sc) (hN : X.N = N) (hk : scope.kind = .function) (p : CompP sc scope x ns N idx) (hn : cl.map (·.1) = ns)
    (hclos : closureFor scope X.env = pure cl) (hsub : ∀ q ∈ cl, X.env.cells.lookup q.1 = some q.2) : CompOk X scope cl x idx (x :: idx.map fun i => N.getD i x) := by
  obtain ⟨p1, p2, p3, p4, p5, p6⟩ := p
  have re : (relabel scope X.env).names = relN sc scope.names := by subst hsc; rfl
  subst hsc hN hn
  refine ⟨hclos, fun y c q => hsub (y, c) (PySem.mem_of_lookup q), fun y h => ?_, p1, hk, p2, p3, rfl, p5, fun i hi => ?_⟩
  · rw [re] at h
    refine some_of_mem ?_
    rcases h with h | h
    · exact p4 (y, .cell) (PySem.mem_of_lookup h) (.inl rfl)
    · exact p4 (y, .free) (PySem.mem_of_lookup h) (.inr rfl)
  · rw [re]
    exact p6 i hi
/-- a call out of which nothing comes -/
theorem passF {P : Program} {w : World} {X : Cx} : PassesX (CXE P w) X (fun _ _ _ _ => False) := fun _ _ _ _ _ _ _ ⟨_, _, _, _, _, _, _, _, _, q⟩ => q.elim
end L2
end
section
set_option Elab.async false
set_option linter.all false
set_option maxRecDepth 100000
set_option maxHeartbeats 4000000
namespace L2
open PySem PySem.Spec PyProof.Rows LX
section
variable {X : Cx} {scope : Scope} {cl : List (Str × Addr)} {x : Str} {idx : List Nat} {NC : List Str} {pins : List (Addr × Obj)} {σ : St} {H : Hp} {s : Shared}
/-! ### name = [comprehension]: the store comes ahead of the going of the block's names -/
theorem ps_comp {i : Nat} {y : Str} {elt iter : Expr} {px py pos spos : Pos} {wi : TI} {te : TE} (hN : X.N.Nodup) (hi' : X.N[i]? = some y) (hx : X.env.scope.names.lookup y = some .local) (c : CompOk X scope cl x idx NC) (hc : X.calm = true) (hi : PI X (.Name x px) iter wi)
    (he : ∀ C fp s₀ H₀, PE (cxC X scope cl NC C fp s₀ H₀) elt te) (hsw : swapsWith (.ListComp elt [⟨.Name x px, iter, [], 0⟩] scope pos) (some (.Name y py)) spos.line X.env = pure true := by rfl)
    (hs : ∀ x, foldedSetIterable iter X.env x = pure x := by intro _; rfl) : PS X (.Assign [.Name y py] (.ListComp elt [⟨.Name x px, iter, [], 0⟩] scope pos) spos) (tAsg (tComp wi idx te) (gName i)) := by
  intro pins s σ H D0 I h
  rw [exec_Assign_Name_used _ _ _ _ hsw]
  refine wpAny_bind (wpAny_standAt (wpAny_bind ?_))
  show wpAny _ _ (do let _ ← comprehension (.ListComp elt [⟨.Name x px, iter, [], 0⟩] scope pos) scope X.env _ (newList []) false (eval iter X.env) (some (assign (.Name y py) X.env))) _ _ s
  refine wpAny_bind (wpAny_mono (wpAny_comprehension_free (use := some (assign (.Name y py) X.env)) (Q := fun _ s' => SP X pins D0 .next s') rfl hs c.clos c.kind c.loc
    (thn (hi pins s σ H _ I h) fun v s1 h1 => thn h1 fun itv s2 h2 => ?_)) (fun _ s' hq => wpAny_pure (wpAny_pure hq)) fun _ _ e => e)
  obtain ⟨it, fp, tn, J, H2, rfl, I2, T, st2, f2, q⟩ := h2
  refine wpAny_newObj_type (wpAny_newFunctionEnv c.nocell (by intro y hy; simp at hy) (fun h₁ hns₁ hsb₁ => ?_) c.kind)
  dsimp only at hns₁ hsb₁ ⊢
  have I3 : Inv X pins σ (upd H2 s2.heap.objs.size (.lst [])) { s2 with heap := s2.heap.push { cls := .type "list", data := .seq ([] : List Value).toArray }, toks := s2.toks } := I2.lnew (ys := []) (its := []) .nil (Nat.zero_le _)
  obtain ⟨W, ⟨m0, w0⟩, turn⟩ := q s2.heap.objs.size I2.fresh
  generalize hD : s2.heap.objs.size = D at *
  generalize hH : s2.heap.push { cls := .type "list", data := .seq ([] : List Value).toArray } = h3 at *
  have hlt2 : ∀ b ∈ fp, b < D := fun b hb => by
    obtain ⟨o, e, _⟩ := T.obj _ _ st2 b hb
    rw [← hD]
    exact Heap.lt_size e
  have hlt : ∀ b ∈ fp, b < h3.objs.size := fun b hb => by
    rw [← hH, Heap.size_push, hD]
    exact Nat.lt_succ_of_lt (hlt2 b hb)
  have hf : ∀ b ∈ fp, FpOk X pins (upd H2 D (.lst [])) b := fun b hb => ⟨by rw [upd_ne (Nat.ne_of_lt (hlt2 b hb))]; exact (f2 b hb).1, (f2 b hb).2⟩
  have kp : ∀ b o, h3.get? b = some o → h₁.get? b = some o := fun b o e => hsb₁.extBut b o (Nat.ne_of_lt (Heap.lt_size e)) (Heap.get?_push_of_some _ e)
  have I4 : Inv (cxC X scope cl NC h3.objs.size fp { s2 with heap := h3, toks := s2.toks } (upd H2 D (.lst []))) [] (none :: caps σ idx) (upd H2 D (.lst [])) { s2 with heap := h₁, toks := s2.toks + ([] : List (Str × Value)).length } :=
    inv_comp (s := { s2 with heap := h3, toks := s2.toks }) c I3 hf hlt hns₁ kp
  have stat : ∀ {H' : Hp}, (∀ b ∈ fp, H' b = none) → ∀ b ∈ fp, FpOk (cxC X scope cl NC h3.objs.size fp { s2 with heap := h3, toks := s2.toks } (upd H2 D (.lst []))) [] H' b := fun hn b hb =>
    ⟨hn b hb, Nat.ne_of_lt (hlt b hb), fun z => (List.mem_cons.mp (I3.stkSub b z)).elim (hf b hb).2.1 (hf b hb).2.2.1, .inl hb, fun y a q => (hf b hb).2.2.2.2.1 y a (c.sub _ _ q), fun p hp => (by cases hp)⟩
  have st1 : tn 0 h₁ := T.keep 0 _ _ st2 fun b hb o e => kp b o (by rw [← hH]; exact Heap.get?_push_of_some _ e)
  have loop : ∀ s4 : Shared, s4 = { s2 with heap := h₁, toks := s2.toks + ([] : List (Str × Value)).length } →
      codeAny (model X.prog X.w) X.A (.compLoop (.ListComp elt [⟨.Name x px, iter, [], 0⟩] scope pos) 0 (.ref it) (.ref D) (compEnvC scope cl h3.objs.size X.env)) (compPost (model X.prog X.w) X.A X.xe (some (assign (.Name y py) X.env)) (fun _ s' => SP X pins D0 .next s') (.ref D) h3.objs.size) s4 := by
    rintro s4 rfl
    refine compLoop_any (fun n s' => ∃ i ys H' v0, Inv (cxC X scope cl NC h3.objs.size fp { s2 with heap := h3, toks := s2.toks } (upd H2 D (.lst []))) [] (v0 :: caps σ idx) H' s' ∧ tn i s'.heap ∧ (∀ b ∈ fp, H' b = none) ∧ W i n ys H')
      ?_ m0 ⟨0, [], _, none, I4, st1, fun b hb => (hf b hb).1, w0⟩
    rintro n s5 ⟨i5, ys, H5, v0, I5, st5, fr5, w5⟩
    obtain ⟨hDl, alt⟩ := turn i5 n ys H5 w5
    rcases alt with ⟨stop, qn⟩ | ⟨go, hz, N, hN', step⟩
    · refine thn (T.done (cxC X scope cl NC h3.objs.size fp { s2 with heap := h3, toks := s2.toks } (upd H2 D (.lst []))) rfl rfl rfl hc i5 [] s5 _ H5 _ I5 (stat fr5) st5 stop) fun r s6 ⟨hr, I6⟩ => ?_
      subst hr
      obtain ⟨m, ns6, _⟩ := id I6.loc
      have J6 : Inv X pins σ H5 s6 := I3.call' (ch := fp) I6.os I6.base I6.hok I6.bare fun b hb => ⟨(hf b hb).2.2.2.1, (hf b hb).2.1, (hf b hb).2.2.2.2.1, (hf b hb).2.2.2.2.2⟩
      have fC : FpOk X pins H5 h3.objs.size := I3.fpOk (Nat.le_refl _) I6.free
      obtain ⟨o, es, ep, ho, rr⟩ := ns6
      have od : ∀ v, o.data ≠ .cell v := fun v z => by
        rw [rr.1] at z
        cases z
      show wpAny _ _ (assign (.Name y py) X.env (.ref D)) (fun _ s'' => ∃ m, s''.heap.Ns h3.objs.size m ∧ ∀ h', Heap.SameBut h3.objs.size s''.heap h' → SP X pins D0 .next { s'' with heap := h' }) X.xe s6
      have J7 := J6.pinned (fp := [h3.objs.size]) (fun b hb => by rw [List.mem_singleton.mp hb]; exact fC) (fun b hb => by rw [List.mem_singleton.mp hb]; exact ⟨o, ho, od⟩)
      refine wpAny_mono (pg_name (pos := py) hN hi' (.inl hx) (.inr hx) _ s6 _ H5 (.ref D) (.ref D) D0.nx J7 rfl qn) (fun _ s7 ⟨σ7, H7, I7, q7⟩ => ?_) (fun _ _ z => z)
      have pC := I7.pin (h3.objs.size, o) (List.mem_append_right _ (List.mem_append_right _ (mem_pinsAt (List.mem_singleton.mpr rfl) ho)))
      refine ⟨m, ⟨o, es, ep, pC.1, rr⟩, fun h' hs' => ⟨σ7, H7, ?_, q7⟩⟩
      exact I7.unpinned.turned (t' := s7.toks) (it := h3.objs.size) (fun b o hb e => hs'.extBut b o hb e) pC.2.1 fC.2.1 fC.2.2.2.1 fC.2.2.2.2.1 fC.2.2.2.2.2
    · refine thn (T.item (cxC X scope cl NC h3.objs.size fp { s2 with heap := h3, toks := s2.toks } (upd H2 D (.lst []))) rfl rfl rfl hc i5 [] s5 _ H5 _ I5 (stat fr5) st5 go) fun r s6 ⟨u, hr, h6⟩ => ?_
      subst hr
      refine thn h6 fun _ s7 ⟨y, H7, I7, r7, y7, st7, fr7⟩ => ?_
      have I7' := I7.pinned (stat fr7) (T.obj _ _ st7)
      have hnl : (relabel scope X.env).names.lookup x = some .local := lookup_relabel_local c.xl
      refine wpAny_mono (pg_name (X := cxC X scope cl NC h3.objs.size fp { s2 with heap := h3, toks := s2.toks } (upd H2 D (.lst []))) (i := 0) (x := x) (pos := px) c.nd (by show NC[0]? = some x; rw [c.nc]; rfl) (.inl hnl) (.inr hnl) _ s7 _ H7 y u
        (fun σ' H' => σ' = some y :: caps σ idx ∧ H' = H7) I7' r7 ⟨rfl, rfl⟩) (fun _ s8 ⟨σ8, H8, I8, e8, e8'⟩ => ?_) fun _ _ z => z.elim
      subst e8 e8'
      refine wpAny_mono (he _ _ _ _ _ s8 _ H8 _ I8 (step y H8 y7)) (fun w s9 ⟨v, H9, I9, r9, hD9, n9⟩ => ?_) fun _ _ z => z.elim
      obtain ⟨m', hm, w9⟩ := hN' _ _ n9
      refine wpAny_mono (appended (X := (cxC X scope cl NC h3.objs.size fp { s2 with heap := h3, toks := s2.toks } (upd H2 D (.lst [])))) I9 hD9 hz r9) (fun _ s10 I10 => ?_) fun _ _ z => z.elim
      refine ⟨m', hm, i5 + 1, ys ++ [v], _, some y, I10.unpinned, T.keep _ _ _ st7 fun b hb o e => (I10.pin (b, o) (List.mem_append_right _ (List.mem_append_right _ (mem_pinsAt hb e)))).1, fun b hb => ?_, w9⟩
      obtain ⟨o, e, d⟩ := T.obj _ _ st7 b hb
      exact (I10.pin (b, o) (List.mem_append_right _ (List.mem_append_right _ (mem_pinsAt hb e)))).2.1
  exact codeAny_compStart_list (loop _ rfl) (T.self _ 0 _ _ _ st1 (loop _ rfl))
/-! ### != of two lists of flat items, as long as one another -/
def rNeL (K : PySem.W.Frag) : R2 := fun x y H Q => ∃ a b xs ys, x = .ref a ∧ y = .ref b ∧ SqL K H a xs ∧ SqL K H b ys ∧ xs.length = ys.length ∧ xs.all flatV = true ∧ ys.all flatV = true ∧ Q (.bl (!eqAll xs ys)) H
theorem op_neL {X : Cx} (hu : X.A.units < cLine) : OpR X (compareOp .NotEq) (rNeL X.K) := by
  intro pins s σ H x y v u Q I rx ry h
  obtain ⟨a, b, xs, ys, rfl, rfl, ha, hb, hl, fx, fy, q⟩ := h
  cases rx
  cases ry
  obtain ⟨vs, r1, ⟨o1, n1, e1, c1, _, g1⟩, _⟩ := I.list ha
  obtain ⟨ws, r2, ⟨o2, n2, e2, c2, _, g2⟩, _⟩ := I.list hb
  have l1 := r1.length
  have l2 := r2.length
  refine SeqAt.RcNeAt.lists (e := fun j => eqV (xs.getD j .non) (ys.getD j .non)) ⟨o1, e1, c1, n1, g1⟩ ⟨o2, e2, c2, n2, g2⟩ (by simp only [List.size_toArray]; omega) hu (fun j h1 h2 => ?_) _ _ _ _ ⟨.bl _, H, I, rfl, ?_⟩
  · simp only [List.size_toArray] at h1 h2
    obtain ⟨w1, z1, rz1⟩ := r1.get (i := j) (x := xs[j]'(by omega)) (List.getElem?_eq_getElem (by omega))
    obtain ⟨w2, z2, rz2⟩ := r2.get (i := j) (x := ys[j]'(by omega)) (List.getElem?_eq_getElem (by omega))
    have a1 : vs.toArray[j] = w1 := by
      have := (List.getElem?_eq_some_iff.mp z1).2
      simpa using this
    have a2 : ws.toArray[j] = w2 := by
      have := (List.getElem?_eq_some_iff.mp z2).2
      simpa using this
    rw [a1, a2]
    have d1 : xs.getD j .non = xs[j]'(by omega) := by simp [List.getD, List.getElem?_eq_getElem (show j < xs.length by omega)]
    have d2 : ys.getD j .non = ys[j]'(by omega) := by simp [List.getD, List.getElem?_eq_getElem (show j < ys.length by omega)]
    show SeqAt.EqAt _ _ _ _ (eqV (xs.getD j .non) (ys.getD j .non))
    rw [d1, d2]
    exact eqAt_V rz1 rz2 (List.all_eq_true.mp fx _ (List.getElem_mem _)) (List.all_eq_true.mp fy _ (List.getElem_mem _))
  · have : vs.toArray.size = xs.length := by simp only [List.size_toArray]; omega
    rw [this]
    exact q
/-! ### sum of a list of numbers -/
theorem ints_of : ∀ {ns : List Int} {us : List Value}, Vals (ns.map V.int) us → ∃ ps : List (Int × Tok), us = ps.map (fun p => Value.int p.1 p.2)
  | [], _, .nil => ⟨[], rfl⟩
  | n :: r, _, .cons h t => by
    obtain ⟨k, rfl⟩ := h
    obtain ⟨ps, e⟩ := ints_of t
    exact ⟨(n, k) :: ps, by rw [e]; rfl⟩
def rSum (K : PySem.W.Frag) : List V → Hp → VK → Prop := fun vs H Q => ∃ (p : Addr) (ns : List Int), vs = [.ref p] ∧ SqL K H p (ns.map V.int) ∧ ∀ n : Int, Q (.int n) H
theorem call_sum (hc : X.calm = true) : CallR X (.builtin "sum") (rSum X.K) := by
  rintro pins s σ H xs us Q I r ⟨p, ns, rfl, hq, q⟩
  obtain ⟨u, rfl, ru⟩ := r.one
  cases (show u = Value.ref p from ru)
  obtain ⟨its, rv, ⟨o, n, e1, e2, e3, e4⟩, hz⟩ := I.list hq
  obtain ⟨ps, e⟩ := ints_of rv
  have hl : s.heap.IsList p (intItems ps.toArray) := by
    refine ⟨o, e1, e2, n, ?_⟩
    rw [e4, e]
    simp [intItems]
  exact sum_intListG (I.ok.hd hc) hl fun h' tk t' hk => ⟨.int _, H, I.kept (t' := tk) hk, ⟨_, rfl⟩, q _⟩
/-! ### isinstance with a tuple of classes -/
end
end L2
end
section
set_option Elab.async false
set_option linter.all false
set_option maxRecDepth 100000
set_option maxHeartbeats 4000000
namespace L2
open PySem PySem.Spec PyProof.Rows LX
/-! ### sorted(x) of a list of numbers, of a dict whose keys are numbers -/
theorem ints_by : ∀ {us : List Value} {ks : List Int}, us.length = ks.length → (∀ (j : Nat) (v : Value), us[j]? = some v → ∃ t, v = Value.int (ks.getD j 0) t) → IntsAre us ks
  | [], [], _, _ => .nil
  | [], _ :: _, h, _ => by simp at h
  | _ :: _, [], h, _ => by simp at h
  | u :: us, k :: ks, h, f => by
    obtain ⟨t, e⟩ := f 0 u rfl
    subst e
    exact .cons k t (ints_by (by simpa using h) fun j v q => f (j + 1) v q)
section
variable {X : Cx}
def rSortL (K : PySem.W.Frag) : List V → Hp → VK → Prop := fun vs H Q => ∃ (p : Addr) (ns : List Int), vs = [.ref p] ∧ SqL K H p (ns.map V.int) ∧ ns.length < 64 ∧ ∀ (l : Addr) (ns' : List Int), H l = none → ns'.Perm ns → ns'.Pairwise (· ≤ ·) → Q (.ref l) (upd H l (.lst (ns'.map V.int)))
theorem call_sortedL : CallR X (.builtin "sorted") (rSortL X.K) := by
  rintro pins s σ H xs us Q I r ⟨p, ns, rfl, hq, h64, q⟩
  obtain ⟨u, rfl, ru⟩ := r.one
  cases (show u = Value.ref p from ru)
  obtain ⟨its, rv, pl, hz⟩ := I.list hq
  have hI := intsAre_of rv
  have hlen := rv.length
  rw [List.length_map] at hlen hz
  refine sorted_ints pl.isList hI (by omega) fun out ns' a1 a2 a3 => ?_
  obtain ⟨e, he⟩ := sortedAll_at s.heap its out
  refine ⟨.ref (s.heap.objs.size + 1), _, I.laid (a := s.heap.objs.size + 1) (o := .lst (ns'.map V.int)) (t' := s.toks) (fun _ _ => sortedAll_old) (Nat.le_succ _) ?_, rfl, q _ ns' (I.hok.fresh (Nat.le_succ _)) a2 a3⟩
  refine ⟨by rw [List.length_map, a2.length_eq]; exact hz, out.toList, e, vals_ints a1, ?_⟩
  rw [he]
theorem dict_ints {P : Program} {w : World} {vs : List (Key × Value)} {ks : List Int} {acc : Array Value} (hk : vs.map (·.1) = ks.map Sum.inl) (ha : acc.size = vs.length) (h : ∀ (j : Nat) (v : Value), acc[j]? = some v → ∃ k x, vs[j]? = some (k, x) ∧ (mixKind P w).is k v = true) : IntsAre acc.toList ks := by
  have hl : vs.length = ks.length := by
    have := congrArg List.length hk
    simpa using this
  refine ints_by (by rw [Array.length_toList]; omega) fun j v e => ?_
  obtain ⟨k, x, h1, h2⟩ := h j v (by rw [← Array.getElem?_toList]; exact e)
  have h3 : (vs.map (·.1))[j]? = some k := by rw [List.getElem?_map, h1]; rfl
  rw [hk, List.getElem?_map] at h3
  obtain ⟨i, hi, rfl⟩ := Option.map_eq_some_iff.mp h3
  have h4 : keyIs (.inl i) v = true := h2
  rcases keyIs_shape h4 with ⟨i', t, e1, e2⟩ | ⟨y, t, e1, _⟩
  · injection e1 with e1
    subst e1
    exact ⟨t, by rw [e2]; simp [List.getD, hi]⟩
  · cases e1
end
/-- two rising orders of the same numbers are one -/
theorem rising_eq {xs ys : List Int} (p : xs.Perm ys) (hx : xs.Pairwise (· ≤ ·)) (hy : ys.Pairwise (· ≤ ·)) : xs = ys :=
  p.eq_of_pairwise (fun a b _ _ h1 h2 => Int.le_antisymm h1 h2) hx hy
/-! ### ==, != of things that are the same through and through -/
inductive Deep (K : PySem.W.Frag) (H : Hp) : Nat → V → V → Prop
  | flat {n : Nat} {x : V} : flatV x = true → Deep K H n x x
  | lst {n : Nat} {a b : Addr} {xs ys : List V} : SqL K H a xs → SqL K H b ys → xs.length = ys.length → (∀ j (h1 : j < xs.length) (h2 : j < ys.length), Deep K H n xs[j] ys[j]) → Deep K H (n + 1) (.ref a) (.ref b)
  | tup {n : Nat} {a b : Addr} {xs ys : List V} : SqT K H a xs → SqT K H b ys → xs.length = ys.length → (∀ j (h1 : j < xs.length) (h2 : j < ys.length), Deep K H n xs[j] ys[j]) → Deep K H (n + 1) (.ref a) (.ref b)
theorem eqV_id {v : V} (h : flatV v = true) : eqV v v = true := by
  cases v with
  | non => rfl
  | bl b => cases b <;> rfl
  | int n => simp [eqV]
  | str z => simp [eqV]
  | _ => exact absurd (show false = true from h) Bool.false_ne_true
theorem all_true (l : List Nat) : (l.all fun _ => true) = true := List.all_eq_true.mpr fun _ _ => rfl
theorem Deep.eqAt {X : Cx} {pins : List (Addr × Obj)} {σ : St} {H : Hp} {s : Shared} (I : Inv X pins σ H s) {n : Nat} {x y : V} (d : Deep X.K H n x y) : ∀ {A : Around} {u v : Value}, RelV x u → RelV y v → A.units + n < cLine → SeqAt.EqAt A s u v true := by
  induction d with
  | flat h =>
    intro A u v rx ry hu
    have := eqAt_V (A := A) (s := s) rx ry h h
    rw [eqV_id h] at this
    exact this
  | @lst n a b xs ys ha hb hl hd ih =>
    intro A u v rx ry hu
    cases rx
    cases ry
    by_cases e : a = b
    · subst e
      exact SeqAt.EqAt.same _
    · refine SeqAt.EqAt.of_refs e ?_
      obtain ⟨vs, r1, ⟨o1, n1, e1, c1, _, g1⟩, _⟩ := I.list ha
      obtain ⟨ws, r2, ⟨o2, n2, e2, c2, _, g2⟩, _⟩ := I.list hb
      have l1 := r1.length
      have l2 := r2.length
      have := SeqAt.RcAt.lists (A := A) (s := s) (e := fun _ => true) ⟨o1, e1, c1, n1, g1⟩ ⟨o2, e2, c2, n2, g2⟩ (by simp only [List.size_toArray]; omega) (by omega) (fun j h1 h2 => by
        simp only [List.size_toArray] at h1 h2
        obtain ⟨w1, z1, rz1⟩ := r1.get (i := j) (x := xs[j]'(by omega)) (List.getElem?_eq_getElem (by omega))
        obtain ⟨w2, z2, rz2⟩ := r2.get (i := j) (x := ys[j]'(by omega)) (List.getElem?_eq_getElem (by omega))
        have a1 : vs.toArray[j] = w1 := by
          have := (List.getElem?_eq_some_iff.mp z1).2
          simpa using this
        have a2 : ws.toArray[j] = w2 := by
          have := (List.getElem?_eq_some_iff.mp z2).2
          simpa using this
        rw [a1, a2]
        exact ih j (by omega) (by omega) rz1 rz2 (by rw [Around.in1_units]; omega))
      rw [all_true] at this
      exact this
  | @tup n a b xs ys ha hb hl hd ih =>
    intro A u v rx ry hu
    cases rx
    cases ry
    by_cases e : a = b
    · subst e
      exact SeqAt.EqAt.same _
    · refine SeqAt.EqAt.of_refs e ?_
      obtain ⟨vs, r1, t1, _⟩ := I.tuple ha
      obtain ⟨ws, r2, t2, _⟩ := I.tuple hb
      have l1 := r1.length
      have l2 := r2.length
      have hs : vs.length = ws.length := by omega
      have := SeqAt.RcAt.tuples (A := A) (s := s) (e := fun _ => true) t1 t2 (by omega) (fun j h1 h2 => by
        simp only [List.size_toArray] at h1 h2
        obtain ⟨w1, z1, rz1⟩ := r1.get (i := j) (x := xs[j]'(by omega)) (List.getElem?_eq_getElem (by omega))
        obtain ⟨w2, z2, rz2⟩ := r2.get (i := j) (x := ys[j]'(by omega)) (List.getElem?_eq_getElem (by omega))
        have a1 : vs.toArray[j] = w1 := by
          have := (List.getElem?_eq_some_iff.mp z1).2
          simpa using this
        have a2 : ws.toArray[j] = w2 := by
          have := (List.getElem?_eq_some_iff.mp z2).2
          simpa using this
        rw [a1, a2]
        exact ih j (by omega) (by omega) rz1 rz2 (by rw [Around.in1_units]; omega))
      rw [all_true] at this
      simpa [hs] using this
section
variable {X : Cx}
/-- a list == [] -/
def rEq0 (K : PySem.W.Frag) : R2 := fun x y H Q => ∃ a b xs, x = .ref a ∧ y = .ref b ∧ SqL K H a xs ∧ SqL K H b [] ∧ Q (.bl xs.isEmpty) H
theorem op_eq0 (hu : X.A.units < cLine) : OpR X (compareOp .Eq) (rEq0 X.K) := by
  rintro pins s σ H x y v u Q I rx ry ⟨a, b, xs, rfl, rfl, ha, hb, q⟩
  cases rx
  cases ry
  obtain ⟨vs, r1, ⟨o1, n1, e1, c1, _, g1⟩, _⟩ := I.list ha
  obtain ⟨ws, r2, ⟨o2, n2, e2, c2, _, g2⟩, _⟩ := I.list hb
  have l1 := r1.length
  have l2 := r2.length
  rw [List.length_nil] at l2
  cases xs with
  | nil =>
    rw [List.length_nil] at l1
    refine SeqAt.eq_listAt (e := fun _ => true) ⟨o1, e1, c1, n1, g1⟩ ⟨o2, e2, c2, n2, g2⟩ (by simp only [List.size_toArray]; omega) hu (fun j h1 h2 => ?_) ⟨.bl true, H, I, by simp [RelV], q⟩
    simp only [List.size_toArray] at h1
    omega
  | cons z zs =>
    rw [List.length_cons] at l1
    refine SeqAt.eq_list_lengthsAt ⟨o1, e1, c1, n1, g1⟩ ⟨o2, e2, c2, n2, g2⟩ ?_ hu ⟨.bl false, H, I, rfl, q⟩
    simp only [List.size_toArray, bne_iff_ne, ne_eq]
    omega
end
end L2
end
section
set_option Elab.async false
set_option linter.all false
set_option maxRecDepth 100000
set_option maxHeartbeats 4000000
namespace L2
open PySem PySem.Spec PyProof.Rows LX
section
variable {X : Cx} {tg : Expr}
/-! ### range(a, b, c), c a written positive number -/
end
end L2
end
section
set_option Elab.async false
set_option linter.all false
set_option maxRecDepth 100000
set_option maxHeartbeats 4000000
namespace L2
open PySem PySem.Spec PyProof.Rows LX
section
variable {X : Cx} {scope : Scope} {cl : List (Str × Addr)} {x : Str} {idx : List Nat} {NC : List Str} {pins : List (Addr × Obj)} {σ : St} {H : Hp} {s : Shared}
/-! ### name = [comprehension with one test] -/
theorem ps_compT {i : Nat} {y : Str} {elt iter ct : Expr} {px py pos spos : Pos} {wi : TI} {tc : TT} {te : TE} (hN : X.N.Nodup) (hi' : X.N[i]? = some y) (hx : X.env.scope.names.lookup y = some .local) (c : CompOk X scope cl x idx NC) (hc : X.calm = true) (hi : PI X (.Name x px) iter wi)
    (ht : ∀ C fp s₀ H₀, PT (cxC X scope cl NC C fp s₀ H₀) ct tc) (he : ∀ C fp s₀ H₀, PE (cxC X scope cl NC C fp s₀ H₀) elt te) (hsw : swapsWith (.ListComp elt [⟨.Name x px, iter, [ct], 0⟩] scope pos) (some (.Name y py)) spos.line X.env = pure true := by rfl)
    (hs : ∀ x, foldedSetIterable iter X.env x = pure x := by intro _; rfl) : PS X (.Assign [.Name y py] (.ListComp elt [⟨.Name x px, iter, [ct], 0⟩] scope pos) spos) (tAsg (tCompT wi idx tc te) (gName i)) := by
  intro pins s σ H D0 I h
  rw [exec_Assign_Name_used _ _ _ _ hsw]
  refine wpAny_bind (wpAny_standAt (wpAny_bind ?_))
  show wpAny _ _ (do let _ ← comprehension (.ListComp elt [⟨.Name x px, iter, [ct], 0⟩] scope pos) scope X.env _ (newList []) false (eval iter X.env) (some (assign (.Name y py) X.env))) _ _ s
  refine wpAny_bind (wpAny_mono (wpAny_comprehension_free (use := some (assign (.Name y py) X.env)) (Q := fun _ s' => SP X pins D0 .next s') rfl hs c.clos c.kind c.loc
    (thn (hi pins s σ H _ I h) fun v s1 h1 => thn h1 fun itv s2 h2 => ?_)) (fun _ s' hq => wpAny_pure (wpAny_pure hq)) fun _ _ e => e)
  obtain ⟨it, fp, tn, J, H2, rfl, I2, T, st2, f2, q⟩ := h2
  refine wpAny_newObj_type (wpAny_newFunctionEnv c.nocell (by intro y hy; simp at hy) (fun h₁ hns₁ hsb₁ => ?_) c.kind)
  dsimp only at hns₁ hsb₁ ⊢
  have I3 : Inv X pins σ (upd H2 s2.heap.objs.size (.lst [])) { s2 with heap := s2.heap.push { cls := .type "list", data := .seq ([] : List Value).toArray }, toks := s2.toks } := I2.lnew (ys := []) (its := []) .nil (Nat.zero_le _)
  obtain ⟨W, ⟨m0, w0⟩, turn⟩ := q s2.heap.objs.size I2.fresh
  generalize hD : s2.heap.objs.size = D at *
  generalize hH : s2.heap.push { cls := .type "list", data := .seq ([] : List Value).toArray } = h3 at *
  have hlt2 : ∀ b ∈ fp, b < D := fun b hb => by
    obtain ⟨o, e, _⟩ := T.obj _ _ st2 b hb
    rw [← hD]
    exact Heap.lt_size e
  have hlt : ∀ b ∈ fp, b < h3.objs.size := fun b hb => by
    rw [← hH, Heap.size_push, hD]
    exact Nat.lt_succ_of_lt (hlt2 b hb)
  have hf : ∀ b ∈ fp, FpOk X pins (upd H2 D (.lst [])) b := fun b hb => ⟨by rw [upd_ne (Nat.ne_of_lt (hlt2 b hb))]; exact (f2 b hb).1, (f2 b hb).2⟩
  have kp : ∀ b o, h3.get? b = some o → h₁.get? b = some o := fun b o e => hsb₁.extBut b o (Nat.ne_of_lt (Heap.lt_size e)) (Heap.get?_push_of_some _ e)
  have I4 : Inv (cxC X scope cl NC h3.objs.size fp { s2 with heap := h3, toks := s2.toks } (upd H2 D (.lst []))) [] (none :: caps σ idx) (upd H2 D (.lst [])) { s2 with heap := h₁, toks := s2.toks + ([] : List (Str × Value)).length } :=
    inv_comp (s := { s2 with heap := h3, toks := s2.toks }) c I3 hf hlt hns₁ kp
  have stat : ∀ {H' : Hp}, (∀ b ∈ fp, H' b = none) → ∀ b ∈ fp, FpOk (cxC X scope cl NC h3.objs.size fp { s2 with heap := h3, toks := s2.toks } (upd H2 D (.lst []))) [] H' b := fun hn b hb =>
    ⟨hn b hb, Nat.ne_of_lt (hlt b hb), fun z => (List.mem_cons.mp (I3.stkSub b z)).elim (hf b hb).2.1 (hf b hb).2.2.1, .inl hb, fun y a q => (hf b hb).2.2.2.2.1 y a (c.sub _ _ q), fun p hp => (by cases hp)⟩
  have st1 : tn 0 h₁ := T.keep 0 _ _ st2 fun b hb o e => kp b o (by rw [← hH]; exact Heap.get?_push_of_some _ e)
  have loop : ∀ s4 : Shared, s4 = { s2 with heap := h₁, toks := s2.toks + ([] : List (Str × Value)).length } →
      codeAny (model X.prog X.w) X.A (.compLoop (.ListComp elt [⟨.Name x px, iter, [ct], 0⟩] scope pos) 0 (.ref it) (.ref D) (compEnvC scope cl h3.objs.size X.env)) (compPost (model X.prog X.w) X.A X.xe (some (assign (.Name y py) X.env)) (fun _ s' => SP X pins D0 .next s') (.ref D) h3.objs.size) s4 := by
    rintro s4 rfl
    refine compLoop_test (fun n s' => ∃ i ys H' v0, Inv (cxC X scope cl NC h3.objs.size fp { s2 with heap := h3, toks := s2.toks } (upd H2 D (.lst []))) [] (v0 :: caps σ idx) H' s' ∧ tn i s'.heap ∧ (∀ b ∈ fp, H' b = none) ∧ W i n ys H')
      ?_ m0 ⟨0, [], _, none, I4, st1, fun b hb => (hf b hb).1, w0⟩
    rintro n s5 ⟨i5, ys, H5, v0, I5, st5, fr5, w5⟩
    obtain ⟨hDl, alt⟩ := turn i5 n ys H5 w5
    rcases alt with ⟨stop, qn⟩ | ⟨go, hz, N, hN', step⟩
    · refine thn (T.done (cxC X scope cl NC h3.objs.size fp { s2 with heap := h3, toks := s2.toks } (upd H2 D (.lst []))) rfl rfl rfl hc i5 [] s5 _ H5 _ I5 (stat fr5) st5 stop) fun r s6 ⟨hr, I6⟩ => ?_
      subst hr
      obtain ⟨m, ns6, _⟩ := id I6.loc
      have J6 : Inv X pins σ H5 s6 := I3.call' (ch := fp) I6.os I6.base I6.hok I6.bare fun b hb => ⟨(hf b hb).2.2.2.1, (hf b hb).2.1, (hf b hb).2.2.2.2.1, (hf b hb).2.2.2.2.2⟩
      have fC : FpOk X pins H5 h3.objs.size := I3.fpOk (Nat.le_refl _) I6.free
      obtain ⟨o, es, ep, ho, rr⟩ := ns6
      have od : ∀ v, o.data ≠ .cell v := fun v z => by
        rw [rr.1] at z
        cases z
      show wpAny _ _ (assign (.Name y py) X.env (.ref D)) (fun _ s'' => ∃ m, s''.heap.Ns h3.objs.size m ∧ ∀ h', Heap.SameBut h3.objs.size s''.heap h' → SP X pins D0 .next { s'' with heap := h' }) X.xe s6
      have J7 := J6.pinned (fp := [h3.objs.size]) (fun b hb => by rw [List.mem_singleton.mp hb]; exact fC) (fun b hb => by rw [List.mem_singleton.mp hb]; exact ⟨o, ho, od⟩)
      refine wpAny_mono (pg_name (pos := py) hN hi' (.inl hx) (.inr hx) _ s6 _ H5 (.ref D) (.ref D) D0.nx J7 rfl qn) (fun _ s7 ⟨σ7, H7, I7, q7⟩ => ?_) (fun _ _ z => z)
      have pC := I7.pin (h3.objs.size, o) (List.mem_append_right _ (List.mem_append_right _ (mem_pinsAt (List.mem_singleton.mpr rfl) ho)))
      refine ⟨m, ⟨o, es, ep, pC.1, rr⟩, fun h' hs' => ⟨σ7, H7, ?_, q7⟩⟩
      exact I7.unpinned.turned (t' := s7.toks) (it := h3.objs.size) (fun b o hb e => hs'.extBut b o hb e) pC.2.1 fC.2.1 fC.2.2.2.1 fC.2.2.2.2.1 fC.2.2.2.2.2
    · refine thn (T.item (cxC X scope cl NC h3.objs.size fp { s2 with heap := h3, toks := s2.toks } (upd H2 D (.lst []))) rfl rfl rfl hc i5 [] s5 _ H5 _ I5 (stat fr5) st5 go) fun r s6 ⟨u, hr, h6⟩ => ?_
      subst hr
      refine thn h6 fun _ s7 ⟨y, H7, I7, r7, y7, st7, fr7⟩ => ?_
      have I7' := I7.pinned (stat fr7) (T.obj _ _ st7)
      have hnl : (relabel scope X.env).names.lookup x = some .local := lookup_relabel_local c.xl
      refine wpAny_mono (pg_name (X := cxC X scope cl NC h3.objs.size fp { s2 with heap := h3, toks := s2.toks } (upd H2 D (.lst []))) (i := 0) (x := x) (pos := px) c.nd (by show NC[0]? = some x; rw [c.nc]; rfl) (.inl hnl) (.inr hnl) _ s7 _ H7 y u
        (fun σ' H' => σ' = some y :: caps σ idx ∧ H' = H7) I7' r7 ⟨rfl, rfl⟩) (fun _ s8 ⟨σ8, H8, I8, e8, e8'⟩ => ?_) fun _ _ z => z.elim
      subst e8 e8'
      refine wpAny_mono (ht _ _ _ _ _ s8 _ H8 _ I8 (step y H8 y7)) (fun bb s11 ⟨H11, I11, q11⟩ => ?_) fun _ _ z => z.elim
      have fin : ∀ {H12 : Hp} {s12 : Shared} {zs : List V} {m' : Nat}, Inv (cxC X scope cl NC h3.objs.size fp { s2 with heap := h3, toks := s2.toks } (upd H2 D (.lst []))) ([] ++ pinsAt fp s7.heap) (some y :: caps σ idx) H12 s12 → m' < n → W (i5 + 1) m' zs H12 →
          ∃ m, m < n ∧ ∃ i ys H' v0, Inv (cxC X scope cl NC h3.objs.size fp { s2 with heap := h3, toks := s2.toks } (upd H2 D (.lst []))) [] (v0 :: caps σ idx) H' s12 ∧ tn i s12.heap ∧ (∀ b ∈ fp, H' b = none) ∧ W i m ys H' := fun {H12 s12 zs m'} I12 hm w12 => by
        refine ⟨m', hm, i5 + 1, zs, _, some y, I12.unpinned, T.keep _ _ _ st7 fun b hb o e => (I12.pin (b, o) (List.mem_append_right _ (List.mem_append_right _ (mem_pinsAt hb e)))).1, fun b hb => ?_, w12⟩
        obtain ⟨o, e, d⟩ := T.obj _ _ st7 b hb
        exact (I12.pin (b, o) (List.mem_append_right _ (List.mem_append_right _ (mem_pinsAt hb e)))).2.1
      cases bb with
      | false =>
        obtain ⟨m', hm, w9⟩ := hN' _ _ q11
        exact fin I11 hm w9
      | true =>
        refine wpAny_mono (he _ _ _ _ _ s11 _ H11 _ I11 q11) (fun w s9 ⟨v, H9, I9, r9, hD9, n9⟩ => ?_) fun _ _ z => z.elim
        obtain ⟨m', hm, w9⟩ := hN' _ _ n9
        refine wpAny_mono (appended (X := (cxC X scope cl NC h3.objs.size fp { s2 with heap := h3, toks := s2.toks } (upd H2 D (.lst [])))) I9 hD9 hz r9) (fun _ s10 I10 => ?_) fun _ _ z => z.elim
        exact fin I10 hm w9
  exact codeAny_compStart_list (loop _ rfl) (T.self _ 0 _ _ _ st1 (loop _ rfl))
/-- the list at D grows by an item where the test holds -/
def CompToT (J : It) (D : Addr) (τ : St) (tc : TT) (te : TE) (Q : VK) (H : Hp) : Prop := ∃ W : Nat → Nat → List V → Hp → Prop, (∃ m, W 0 m [] H) ∧ ∀ i m ys H2, W i m ys H2 → H2 D = some (.lst ys) ∧
  ((J.stop i H2 ∧ Q (.ref D) H2) ∨ (J.go i H2 ∧ ys.length < sizeLine ∧ ∃ N : List V → Hp → Prop, (∀ zs H', N zs H' → ∃ m', m' < m ∧ W (i + 1) m' zs H') ∧ ∀ y H3, J.yld i H2 y H3 → tc (some y :: τ) H3 fun b H4 => if b = true then te (some y :: τ) H4 fun v H5 => H5 D = some (.lst ys) ∧ N (ys ++ [v]) (upd H5 D (.lst (ys ++ [v])))
    else N ys H4))
def tCompU (wi : TI) (idx : List Nat) (tc : TT) (te : TE) : TE := fun σ H Q => wi σ H fun J H1 => ∀ D, H1 D = none → CompToT J D (caps σ idx) tc te Q (upd H1 D (.lst []))
theorem ps_compU {i : Nat} {y : Str} {elt iter ct : Expr} {px py pos spos : Pos} {wi : TI} {tc : TT} {te : TE} (hN : X.N.Nodup) (hi' : X.N[i]? = some y) (hx : X.env.scope.names.lookup y = some .local) (c : CompOk X scope cl x idx NC) (hc : X.calm = true) (hi : PI X (.Name x px) iter wi)
    (ht : ∀ C fp s₀ H₀, PT (cxC X scope cl NC C fp s₀ H₀) ct tc) (he : ∀ C fp s₀ H₀, PE (cxC X scope cl NC C fp s₀ H₀) elt te) (hsw : swapsWith (.ListComp elt [⟨.Name x px, iter, [ct], 0⟩] scope pos) (some (.Name y py)) spos.line X.env = pure true := by rfl)
    (hs : ∀ x, foldedSetIterable iter X.env x = pure x := by intro _; rfl) : PS X (.Assign [.Name y py] (.ListComp elt [⟨.Name x px, iter, [ct], 0⟩] scope pos) spos) (tAsg (tCompU wi idx tc te) (gName i)) :=
  ps_compT hN hi' hx c hc hi ht he hsw hs
theorem pe_compU {elt iter ct : Expr} {px pos : Pos} {wi : TI} {tc : TT} {te : TE} (c : CompOk X scope cl x idx NC) (hc : X.calm = true) (hi : PI X (.Name x px) iter wi) (ht : ∀ C fp s₀ H₀, PT (cxC X scope cl NC C fp s₀ H₀) ct tc) (he : ∀ C fp s₀ H₀, PE (cxC X scope cl NC C fp s₀ H₀) elt te)
    (hs : ∀ x, foldedSetIterable iter X.env x = pure x := by intro _; rfl) : PE X (.ListComp elt [⟨.Name x px, iter, [ct], 0⟩] scope pos) (tCompU wi idx tc te) :=
  pe_compT c hc hi ht he hs
end
/-! ### a comprehension with a test over a range -/
/-- over a list -/
theorem compT_list {K : PySem.W.Frag} {a : Addr} {xs : List V} {tc : TT} {te : TE} {Q : VK} {D : Addr} {τ : St} {H : Hp} (Pv : Nat → List V → Hp → Prop) (h0 : Pv 0 [] H) (hD : ∀ i ys H, i ≤ xs.length → Pv i ys H → H D = some (.lst ys) ∧ ys.length ≤ i) (hl : ∀ i ys H, i ≤ xs.length → Pv i ys H → SqL K H a xs) (hn : xs.length ≤ sizeLine)
    (hs : ∀ i x ys H, xs[i]? = some x → Pv i ys H → tc (some x :: τ) H fun b H4 => if b = true then te (some x :: τ) H4 fun v H5 => H5 D = some (.lst ys) ∧ Pv (i + 1) (ys ++ [v]) (upd H5 D (.lst (ys ++ [v]))) else Pv (i + 1) ys H4)
    (hd : ∀ ys H, Pv xs.length ys H → Q (.ref D) H) : CompToT (Itl K a) D τ tc te Q H := by
  refine ⟨fun i m ys H => m = xs.length - i ∧ i ≤ xs.length ∧ Pv i ys H, ⟨xs.length, by simp, Nat.zero_le _, h0⟩, ?_⟩
  rintro i m ys H2 ⟨rfl, hi, p⟩
  obtain ⟨d1, d2⟩ := hD i ys H2 hi p
  refine ⟨d1, ?_⟩
  have hS := hl i ys H2 hi p
  by_cases hlt : i < xs.length
  · refine .inr ⟨⟨xs, xs[i], hS, List.getElem?_eq_getElem hlt⟩, by omega, Pv (i + 1), fun zs H' p' => ⟨xs.length - (i + 1), by omega, rfl, hlt, p'⟩, fun y H3 q => ?_⟩
    obtain ⟨e1, e2⟩ := q
    subst e1
    exact hs i y ys _ (e2 xs (hl i ys _ hi p)) p
  · have e : i = xs.length := by omega
    subst e
    exact .inl ⟨⟨xs, hS, Nat.le_refl _⟩, hd ys H2 p⟩
end L2
end
section
set_option Elab.async false
set_option linter.all false
set_option maxRecDepth 100000
set_option maxHeartbeats 4000000
namespace L2
open PySem PySem.Spec PyProof.Rows LX
/-! ### a set's table: its places rise -/
def Ris (xs : Array Nat) : Prop := ∀ i k (h1 : i < k) (h2 : k < xs.size), xs[i] < xs[k]
theorem ris_of_pair {xs : Array Nat} (h : xs.toList.Pairwise (· < ·)) : Ris xs := fun i k h1 h2 => by
  have := List.pairwise_iff_getElem.mp h i k (by rw [Array.length_toList]; omega) (by rw [Array.length_toList]; omega) h1
  simpa using this
theorem ris_pair {xs : Array Nat} (h : Ris xs) : xs.toList.Pairwise (· < ·) := List.pairwise_iff_getElem.mpr fun i k h1 h2 h3 => by
  have := h i k h3 (by rw [← Array.length_toList]; exact h2)
  simpa using this
/-- where j would stand -/
def Cut (xs : Array Nat) (j r : Nat) : Prop := r ≤ xs.size ∧ (∀ i (h : i < xs.size), i < r → xs[i] < j) ∧ ∀ i (h : i < xs.size), r ≤ i → j ≤ xs[i]
theorem cut_one {xs : Array Nat} {j r q : Nat} (a : Cut xs j r) (b : Cut xs j q) : r = q := by
  obtain ⟨a0, a1, a2⟩ := a
  obtain ⟨b0, b1, b2⟩ := b
  rcases Nat.lt_trichotomy r q with h | h | h
  · have := b1 r (by omega) h
    have := a2 r (by omega) (Nat.le_refl _)
    omega
  · exact h
  · have := a1 q (by omega) h
    have := b2 q (by omega) (Nat.le_refl _)
    omega
theorem go_cut {xs : Array Nat} {j : Nat} (hr : Ris xs) : ∀ (fuel lo hi : Nat), lo ≤ hi → hi ≤ xs.size → hi - lo ≤ fuel → (∀ i (h : i < xs.size), i < lo → xs[i] < j) → (∀ i (h : i < xs.size), hi ≤ i → j ≤ xs[i]) → Cut xs j (SetTable.below.go xs j fuel lo hi)
  | 0, lo, hi, h1, h2, h3, a, b => by
    have : lo = hi := by omega
    subst this
    exact ⟨h2, a, b⟩
  | fuel + 1, lo, hi, h1, h2, h3, a, b => by
    unfold SetTable.below.go
    by_cases h : lo < hi
    · rw [if_pos h]
      have hm : (lo + hi) / 2 < xs.size := by omega
      have e : xs.getD ((lo + hi) / 2) j = xs[(lo + hi) / 2] := by simp [Array.getD, hm]
      dsimp only
      rw [e]
      by_cases q : xs[(lo + hi) / 2] < j
      · rw [if_pos q]
        refine go_cut hr fuel _ _ (by omega) h2 (by omega) (fun i hi' hlt => ?_) b
        by_cases z : i = (lo + hi) / 2
        · subst z; exact q
        · exact Nat.lt_trans (hr i _ (by omega) hm) q
      · rw [if_neg q]
        refine go_cut hr fuel _ _ (by omega) (by omega) (by omega) a fun i hi' hle => ?_
        by_cases z : i = (lo + hi) / 2
        · subst z; omega
        · have := hr ((lo + hi) / 2) i (by omega) hi'
          omega
    · rw [if_neg h]
      have : lo = hi := by omega
      subst this
      exact ⟨h2, a, b⟩
theorem below_cut {xs : Array Nat} (hr : Ris xs) (j : Nat) : Cut xs j (SetTable.below xs j) :=
  go_cut hr _ _ _ (Nat.zero_le _) (Nat.le_refl _) (by omega) (fun _ _ h => absurd h (Nat.not_lt_zero _)) fun i h h' => absurd h (by omega)
theorem ris_insert {xs : Array Nat} {j : Nat} (hr : Ris xs) (hn : xs[SetTable.below xs j]? ≠ some j) : Ris (SetTable.insertAt xs (SetTable.below xs j) j) := by
  obtain ⟨c0, c1, c2⟩ := below_cut hr j
  generalize SetTable.below xs j = r at *
  refine ris_of_pair ?_
  rw [SetTable.toList_insertAt, List.pairwise_append]
  have hp := ris_pair hr
  refine ⟨hp.sublist (List.take_sublist _ _), List.pairwise_cons.mpr ⟨fun y hy => ?_, hp.sublist (List.drop_sublist _ _)⟩, fun x hx y hy => ?_⟩
  · obtain ⟨i, hi, e⟩ := List.mem_iff_getElem.mp hy
    rw [List.getElem_drop] at e
    rw [List.length_drop, Array.length_toList] at hi
    have e' : xs[r + i]'(by omega) = y := by simpa using e
    have := c2 (r + i) (by omega) (by omega)
    by_cases z : i = 0
    · subst z
      have : xs[r]? = some y := by rw [Array.getElem?_eq_getElem (by omega)]; exact congrArg some e'
      rw [this] at hn
      have : y ≠ j := fun q => hn (by rw [q])
      omega
    · have h1 := hr r (r + i) (by omega) (by omega)
      have h2 := c2 r (by omega) (Nat.le_refl _)
      omega
  · obtain ⟨i, hi, e⟩ := List.mem_iff_getElem.mp hx
    rw [List.getElem_take] at e
    rw [List.length_take, Array.length_toList] at hi
    have e' : xs[i]'(by omega) = x := by simpa using e
    have h1 := c1 i (by omega) (by omega)
    rcases List.mem_cons.mp hy with q | q
    · omega
    · obtain ⟨k, hk, e2⟩ := List.mem_iff_getElem.mp q
      rw [List.getElem_drop] at e2
      rw [List.length_drop, Array.length_toList] at hk
      have e3 : xs[r + k]'(by omega) = y := by simpa using e2
      have := c2 (r + k) (by omega) (by omega)
      omega
theorem ris_range (n : Nat) : Ris (Array.range n) := fun i k h1 h2 => by simpa using h1
/-- a slot that the search found is none of the places -/
theorem probe_free {t : SetTable} {h : Int} : ∀ (fuel : Nat) (p : SetTable.Probe) (m : SetTable.Met), (∀ d, p.dummy = some d → t.place[SetTable.below t.place d]? ≠ some d) → SetTable.probe.go t (fun _ => h + 1) h fuel p = some m →
    ∃ j d, m = .empty j d ∧ t.place[SetTable.below t.place (d.getD j)]? ≠ some (d.getD j)
  | 0, p, m, _, e => by cases e
  | fuel + 1, p, m, hd, e => by
    unfold SetTable.probe.go at e
    have hs : ∀ j, t.slot j = (if t.place[SetTable.below t.place j]? == some j then .live (SetTable.below t.place j) else if SetTable.has t.dummies j then .dummy else .empty) := fun _ => rfl
    have nl : ∀ j, (∀ i, t.slot j ≠ .live i) → t.place[SetTable.below t.place j]? ≠ some j := fun j hj q => by
      rw [hs, q] at hj
      simp at hj
    cases hsl : t.slot p.j with
    | empty =>
      rw [hsl] at e
      cases e
      refine ⟨_, _, rfl, ?_⟩
      cases hq : p.dummy with
      | none => exact nl _ fun i z => by rw [show ((none : Option Nat).getD p.j) = p.j from rfl, hsl] at z; cases z
      | some d => exact hd d hq
    | dummy =>
      rw [hsl] at e
      refine probe_free fuel _ m (fun d q => ?_) e
      have : d = p.j := by
        unfold SetTable.advance at q
        split at q <;> simpa using q.symm
      subst this
      exact nl _ fun i z => by rw [hsl] at z; cases z
    | live i =>
      rw [hsl] at e
      have hne : ((h + 1 : Int) == h) = false := by
        rw [beq_eq_false_iff_ne]; omega
      dsimp only at e
      rw [hne] at e
      refine probe_free fuel _ m (fun d q => hd d ?_) e
      unfold SetTable.advance at q
      split at q <;> exact q
theorem free_new {t : SetTable} {h : Int} {j : Nat} {b : Bool} (e : t.freeSlot h = some (j, b)) : t.place[SetTable.below t.place j]? ≠ some j := by
  unfold SetTable.freeSlot at e
  cases hp : t.probe (fun _ => h + 1) h (t.probeStart h) with
  | none => rw [hp] at e; cases e
  | some m =>
    obtain ⟨j', d, rfl, q⟩ := probe_free (t := t) (h := h) _ (t.probeStart h) m (fun d z => by cases z) hp
    rw [hp] at e
    cases e
    exact q
/-- what is asked of a table: led or not, and rising places -/
def Tab (B : Bool) (t : SetTable) : Prop := t.led = B ∧ Ris t.place
theorem Tab.stand {B : Bool} {t : SetTable} (h : Tab B t) (n : Nat) : Tab B (t.standIn n) := ⟨h.1, ris_range n⟩
theorem Tab.orStand {B : Bool} {t : SetTable} (h : Tab B t) (n : Nat) : Tab B (t.orStandIn n) := by
  unfold SetTable.orStandIn
  split
  · exact h
  · exact h.stand n
theorem Tab.dull {B : Bool} {t : SetTable} (h : Tab B t) : Tab B { t with plain := false } := h
theorem Tab.lay {B : Bool} {t : SetTable} (h : Tab B t) (es : Array (Int × Value)) (k : Int) (x : Value) : Tab B (layNew t es k x).2.1 := by
  unfold layNew
  split
  · rename_i slot wd e
    refine Tab.orStand (B := B) (t := (t.put slot).1) ⟨h.1, ?_⟩ _
    exact ris_insert h.2 (free_new e)
  · exact h.stand _
theorem laid_tab {mask finger moves : Nat} {led plain : Bool} {hs : Array Int} {t : SetTable} {o : Array Nat} (e : SetTable.laid mask finger moves led plain hs = some (t, o)) : Tab led t := by
  unfold SetTable.laid at e
  cases hc : SetTable.layClean mask hs with
  | none => rw [hc] at e; cases e
  | some ow =>
    rw [hc] at e
    simp only [Option.bind_eq_bind, Option.bind_some, Option.pure_def, Option.some.injEq, Prod.mk.injEq] at e
    obtain ⟨e, _⟩ := e
    subst e
    refine ⟨rfl, ris_of_pair ?_⟩
    show List.Pairwise _ (List.map _ _)
    rw [List.pairwise_map]
    refine List.Pairwise.filterMap _ (R := (· < ·)) (fun a b hab x hx y hy => ?_) List.pairwise_lt_range
    simp only [Option.map_eq_some_iff] at hx hy
    obtain ⟨_, _, rfl⟩ := hx
    obtain ⟨_, _, rfl⟩ := hy
    exact hab
theorem Tab.relay {B : Bool} {t : SetTable} (h : Tab B t) (es : Array (Int × Value)) (n : Nat) : Tab B (relayAll t es n).2.1 := by
  unfold relayAll
  split
  · rename_i t' order e
    dsimp only
    split
    · have := laid_tab (show SetTable.laid _ _ _ _ _ _ = some (t', order) from e)
      rw [h.1] at this
      exact this
    · exact h.stand _
  · exact h.stand _
/-! ### orders -/
theorem erase_perm {α : Type} : ∀ (l : List α) (i : Nat) (h : i < l.length), (l[i] :: l.eraseIdx i).Perm l
  | x :: xs, 0, _ => .refl _
  | x :: xs, i + 1, h => (List.Perm.swap _ _ _).trans (List.Perm.cons x (erase_perm xs i (Nat.lt_of_succ_lt_succ h)))
theorem pickGo_perm {α : Type} (next : Nat → Nat) : ∀ (fuel k : Nat) (left : List α) (out : Array α), left.length = fuel → (pickOrder.go next fuel k left out).toList.Perm (out.toList ++ left)
  | 0, k, left, out, h => by
    have : left = [] := List.length_eq_zero_iff.mp h
    subst this
    unfold pickOrder.go
    simp
  | fuel + 1, k, left, out, h => by
    unfold pickOrder.go
    have hi : next k % left.length < left.length := Nat.mod_lt _ (by omega)
    rw [List.getElem?_eq_getElem hi]
    dsimp only
    refine (pickGo_perm next fuel _ _ _ (by rw [List.length_eraseIdx_of_lt hi]; omega)).trans ?_
    rw [Array.toList_push, List.append_assoc]
    exact List.Perm.append_left _ (erase_perm _ _ hi)
theorem pick_perm {α : Type} (next : Nat → Nat) (xs : Array α) : (pickOrder next xs).toList.Perm xs.toList := by
  have := pickGo_perm next xs.size 0 xs.toList #[] (by simp)
  rw [List.nil_append] at this
  exact this
theorem wpAny_chose {M : Model} {A : Around} {E : Value → Shared → Prop} {s : Shared} {src : Source} {n : Nat} {Q : Nat → Shared → Prop} (hn : n ≠ 0) (h : ∀ i d', i < n → Q i { s with drawn := d' }) : wpAny M A (choose src n) Q E s :=
  fun Γ p hΓ => ⟨hn, h _ _ (Nat.mod_lt _ (Nat.pos_of_ne_zero hn))⟩
theorem wpAny_order {M : Model} {A : Around} {E : Value → Shared → Prop} {α : Type} : ∀ (n : Nat) (xs : List α) (s : Shared) (Q : List α → Shared → Prop), xs.length = n → (∀ ys d', ys.Perm xs → Q ys { s with drawn := d' }) → wpAny M A (drawOrder n xs) Q E s
  | 0, xs, s, Q, h, q => by
    have : xs = [] := List.length_eq_zero_iff.mp h
    subst this
    unfold drawOrder
    exact wpAny_pure (q [] s.drawn (.refl _))
  | n + 1, [], s, Q, h, q => by simp at h
  | n + 1, x :: xs, s, Q, h, q => by
    unfold drawOrder
    refine wpAny_bind (m := choose .order (x :: xs).length) (wpAny_chose (by simp) fun i d' hi => ?_)
    rw [List.getElem?_eq_getElem hi]
    dsimp only
    refine wpAny_bind (wpAny_order n _ _ _ (by rw [List.length_eraseIdx_of_lt hi]; omega) fun ys d2 hp => wpAny_pure (q _ d2 ?_))
    exact (List.Perm.cons _ hp).trans (erase_perm _ _ hi)
end L2
end
section
set_option Elab.async false
set_option linter.all false
set_option maxRecDepth 100000
set_option maxHeartbeats 4000000
namespace L2
open PySem PySem.Spec PyProof.Rows LX
/-- a set of numbers, its table rising and led as the world has it -/
def SetT (P : Program) (w : World) (h : Heap) (a : Addr) (S : Int → Bool) (n : Nat) : Prop :=
  ∃ o es ep t, h.get? a = some o ∧ o.ExactSet ∧ o.data = .set es ep t ∧ ElemsOf (intKind P w) es.toList ∧ (∀ k, S k = true ↔ ∃ e ∈ es.toList, (intKind P w).is k e.2 = true)
    ∧ es.size < scanBound ∧ t.fits es.size = true ∧ es.size = n ∧ Tab (!w.params.followText "set-order") t
section
variable {P : Program} {w : World} {A : Around} {E : Value → Shared → Prop} {s : Shared} {a : Addr} {S : Int → Bool} {n : Nat}
theorem SetT.keep {h h' : Heap} (x : SetT P w h a S n) (k : ∀ o, h.get? a = some o → h'.get? a = some o) : SetT P w h' a S n :=
  let ⟨o, es, ep, t, e, r⟩ := x
  ⟨o, es, ep, t, k o e, r⟩
theorem SetT.as {h : Heap} {S' : Int → Bool} {n' : Nat} (x : SetT P w h a S n) (e : ∀ k, S k = S' k) (en : n = n') : SetT P w h a S' n' := by
  cases (funext e : S = S')
  cases en
  exact x
theorem SetT.typeIs (x : SetT P w s.heap a S n) : s.TypeIs (.ref a) "set" := let ⟨o, _, _, _, e, c, _⟩ := x; ⟨o, e, c.1⟩
theorem setT_put {h : Heap} {o : Obj} {es es' : Array (Int × Value)} {ep : Nat} {t t' : SetTable} {S' : Int → Bool} (ho : h.get? a = some o) (hx : o.ExactSet) (hd : o.data = .set es ep t) (he : ElemsOf (intKind P w) es'.toList)
    (hm : ∀ k, S' k = true ↔ ∃ e ∈ es'.toList, (intKind P w).is k e.2 = true) (hb : es'.size < scanBound) (hf : t'.fits es'.size = true) (ht : Tab (!w.params.followText "set-order") t') :
    (h.update a (Obj.putSet es' t')).get? a = some { o with data := .set es' (ep + 1) t' } ∧ SetT P w (h.update a (Obj.putSet es' t')) a S' es'.size := by
  have hg := (SetOf_store (knd := intKind P w) ho hx hd he hm hb hf).1
  exact ⟨hg, _, es', ep + 1, t', hg, hx, rfl, he, hm, hb, hf, rfl, ht⟩
theorem setT_tail {g : Bool → Sem Unit} (hg : ∀ (b : Bool) (u : Shared) (Z : Unit → Shared → Prop), Z () u → wpAny (model P w) A (g b) Z E u) {o : Obj} {es : Array (Int × Value)} {ep : Nat} {t : SetTable} (ho : s.heap.get? a = some o) (hx : o.ExactSet) (hd : o.data = .set es ep t)
    {e1 : Array (Int × Value)} {t2 : SetTable} {S' : Int → Bool} (he : ElemsOf (intKind P w) e1.toList) (hm : ∀ k, S' k = true ↔ ∃ e ∈ e1.toList, (intKind P w).is k e.2 = true) (hb : e1.size < scanBound) (hf : t2.fits e1.size = true)
    (ht : Tab (!w.params.followText "set-order") t2) {wd : Bool} {R : Option Bool → Shared → Prop} (q : ∀ h', Heap.SameBut a s.heap h' → SetT P w h' a S' e1.size → R (some true) { s with heap := h' }) :
    wpAny (model P w) A (do
        storeSet a e1 t2
        if (!wd && t2.tooFull) = true then do
            g (relayAll t2 e1 (SetTable.grown e1.size)).2.2
            storeSet a (relayAll t2 e1 (SetTable.grown e1.size)).1 (relayAll t2 e1 (SetTable.grown e1.size)).2.1
            pure (some true)
          else pure (some true)) R E s := by
  refine wpAny_bind (wpAny_storeSet_of ho hd ?_ (fits_of_scanBound hb))
  obtain ⟨o1, x1⟩ := setT_put (S' := S') ho hx hd he hm hb hf ht
  have k1 := Heap.SameBut.update s.heap a (Obj.putSet e1 t2)
  refine wpAny_ite_split (fun _ => ?_) (fun _ => wpAny_pure (q _ k1 x1))
  have r1 := relayAll_perm t2 e1 (SetTable.grown e1.size)
  have r2 := relayAll_fits t2 e1 (SetTable.grown e1.size)
  have r3 := ht.relay e1 (SetTable.grown e1.size)
  generalize relayAll t2 e1 (SetTable.grown e1.size) = Z at r1 r2 r3 ⊢
  have hz : Z.1.size = e1.size := by have := r1.length_eq; simpa using this
  have hbz : Z.1.size < scanBound := by omega
  refine wpAny_bind (hg _ _ _ (wpAny_bind (wpAny_storeSet_of o1 rfl ?_ (fits_of_scanBound hbz))))
  have x2 := (setT_put (S' := S') o1 hx rfl (he.perm r1) (fun k => (hm k).trans ⟨fun ⟨e, z, y⟩ => ⟨e, r1.mem_iff.mpr z, y⟩, fun ⟨e, z, y⟩ => ⟨e, r1.mem_iff.mp z, y⟩⟩) hbz r2 r3).2
  exact wpAny_pure (q _ (k1.trans (Heap.SameBut.update _ a _)) (x2.as (fun _ => rfl) hz))
theorem setT_add {k : Int} {x : Value} {Q : Bool → Shared → Prop} (hk : (intKind P w).is k x = true) (hsc : x.scannable = true) (hS : SetT P w s.heap a S n) (hroom : n + 1 < scanBound)
    (q : ∀ h', Heap.SameBut a s.heap h' → SetT P w h' a (fun k' => S k' || decide (k' = k)) (if S k then n else n + 1) → Q (!S k) { s with heap := h' }) :
    wpAny (model P w) A (setAddHashed a x ((intKind P w).hash k)) Q E s := by
  obtain ⟨o, es, ep, t, ho, hx, hd, he, hm, hb, hf, hn, ht⟩ := hS
  have hb1 : es.size + 1 < scanBound := by omega
  unfold setAddHashed setAddHashedIn
  refine wpAny_holding (wpAny_bind (wpAny_setState_of ho hd hf ?_))
  dsimp only
  rw [byScan_of hsc hb he, if_pos rfl]
  unfold setAddByScan
  refine wpAny_bind (wpAny_bind (wpAny_rule (wpAny_bind (wpAny_setScan_of hk ho hd hf he ?_))))
  cases hr : List.findIdx? (fun e => (intKind P w).is k e.2) es.toList with
  | some j =>
    dsimp only
    obtain ⟨hj, pj, _⟩ := List.findIdx?_eq_some_iff_getElem.mp hr
    have sk : S k = true := (hm k).mpr ⟨es.toList[j], List.getElem_mem hj, pj⟩
    refine wpAny_pure (wpAny_pure ?_)
    have := q s.heap (Heap.SameBut.refl a s.heap) ⟨o, es, ep, t, ho, hx, hd, he, fun k' => by
      rw [Bool.or_eq_true, decide_eq_true_eq, ← hm k']
      exact ⟨fun z => z.elim id fun e => by rw [e]; exact sk, .inl⟩, hb, hf, by rw [sk]; exact hn, ht⟩
    rw [sk] at this
    exact this
  | none =>
    dsimp only
    have sk : S k = false := by
      cases hz : S k with
      | false => rfl
      | true =>
        obtain ⟨e, z, y⟩ := (hm k).mp hz
        have := List.findIdx?_eq_none_iff.mp hr e z
        rw [y] at this
        cases this
    have gw : ∀ (b : Bool) {u : Shared} {Z : Unit → Shared → Prop}, Z () u → wpAny (model P w) A (match b with | true => rule "set.scan.the-table-gave-way" | false => pure ()) Z E u := fun b u Z z => by
      cases b
      · exact wpAny_pure z
      · exact wpAny_rule z
    have l1 := layNew_perm t es ((intKind P w).hash k) x
    have l2 := layNew_fits t es ((intKind P w).hash k) x
    have l3 := ht.lay es ((intKind P w).hash k) x
    generalize layNew t es ((intKind P w).hash k) x = L at l1 l2 l3 ⊢
    obtain ⟨e1, t1, wd, gave⟩ := L
    dsimp only at l1 l2 l3 ⊢
    rw [Array.toList_push] at l1
    have he1 : ElemsOf (intKind P w) e1.toList := (he.push hk hsc).perm l1
    have hm1 : ∀ k', (S k' || decide (k' = k)) = true ↔ ∃ e ∈ e1.toList, (intKind P w).is k' e.2 = true := mem_push_iff hk hm l1
    have hz1 : e1.size = n + 1 := by have := l1.length_eq; simp at this; omega
    have hb2 : e1.size < scanBound := by omega
    refine wpAny_bind (gw _ ?_)
    have fin : ∀ h', Heap.SameBut a s.heap h' → SetT P w h' a (fun k' => S k' || decide (k' = k)) e1.size → Q true { s with heap := h' } := fun h' z1 z2 => by
      have := q h' z1
      rw [sk] at this
      exact this (z2.as (fun _ => rfl) hz1)
    split
    · refine wpAny_bind ?_
      rw [hashByValue_scannable 8 hsc]
      refine wpAny_pure (setT_tail (fun b u Z z => gw b z) ho hx hd he1 hm1 hb2 ?_ ?_ fun h' z1 z2 => wpAny_pure (fin h' z1 z2))
      · split
        · exact l2
        · exact SetTable.fits_plain_off l2
      · split
        · exact l3
        · exact l3.dull
    · refine wpAny_bind (wpAny_pure ?_)
      rw [if_pos rfl]
      exact setT_tail (fun b u Z z => gw b z) ho hx hd he1 hm1 hb2 l2 l3 fun h' z1 z2 => wpAny_pure (fin h' z1 z2)
end
end L2
end
section
set_option Elab.async false
set_option linter.all false
set_option maxRecDepth 100000
set_option maxHeartbeats 4000000
namespace L2
open PySem PySem.Spec PyProof.Rows LX
section
variable {P : Program} {w : World} {A : Around} {R : Result → Shared → Prop} {I : Addr} {fp wr : List Addr} {G : Array GenState → Array GenState → Prop} {n : Nat} {p : Nat → Value → Prop} {St : Nat → Shared → Prop}
theorem setT_loop (W : WalksS P w A.in1 I fp wr G n p St) (D : Addr) (hD : D ∉ fp) (val : Nat → Int) (hv : ∀ i v, p i v → ∃ t, v = .int (val i) t) (hb : n + 1 < scanBound) : ∀ (k i : Nat) (s : Shared), n - i = k → i ≤ n → St i s →
    SetT P w s.heap D (fun z => (firstMet val i).any (· == z)) (firstMet val i).length → (∀ s', Moved (D :: wr) G s s' → SetT P w s'.heap D (fun z => (firstMet val n).any (· == z)) (firstMet val n).length → R (.ok (.ret .none)) s') →
    codeAny (model P w) A (.builtin "set.update.loop" ⟨[.ref D, .ref I], []⟩) R s := by
  have hw : D ∉ wr := fun h => hD (W.sub _ h)
  have hsub : ∀ b ∈ wr, b ∈ D :: wr := fun b z => List.mem_cons_of_mem _ z
  intro k
  induction k with
  | zero =>
    intro i s hk hi st hS q
    have e : i = n := by omega
    subst e
    refine codeAny_builtin PyProof.Rows.F.entry_set_update_loop ?_
    rw [Around.under_plainId PyProof.Rows.F.plain_set_update_loop _]
    show wpAny _ A.in1 (pyNext (.ref I) >>= _) _ _ s
    exact wpAny_bind (W.done s _ _ st fun s' hm => wpAny_pure (q s' (hm.mono hsub) (hS.keep fun o z => hm.heap D o hw z)))
  | succ k ih =>
    intro i s hk hi st hS q
    have hlt : i < n := by omega
    refine codeAny_builtin PyProof.Rows.F.entry_set_update_loop ?_
    rw [Around.under_plainId PyProof.Rows.F.plain_set_update_loop _]
    show wpAny _ A.in1 (pyNext (.ref I) >>= _) _ _ s
    refine wpAny_bind (W.item i s _ _ hlt st fun v s' hP st' hm => ?_)
    obtain ⟨t, rfl⟩ := hv i v hP
    have hS' := hS.keep (h' := s'.heap) fun o z => hm.heap D o hw z
    show wpAny _ A.in1 (holding [Value.int (val i) t] (setAdd D (.int (val i) t)) >>= _) _ _ s'
    refine wpAny_bind (wpAny_holding ?_)
    unfold setAdd
    refine wpAny_holding (wpAny_bind ((intKind P w).pyHash (k := val i) (intKind_is _ _ _ _) ?_))
    have hr : (firstMet val i).length + 1 < scanBound := by have := firstMet_length_le val i; omega
    refine setT_add (s := { s' with toks := s'.toks + 1 }) (intKind_is _ _ _ _) rfl hS' hr fun h' sb x2 => ?_
    have x3 : SetT P w h' D (fun z => (firstMet val (i + 1)).any (· == z)) (firstMet val (i + 1)).length := x2.as (fun z => by rw [firstMet_succ, step_any]) (by rw [firstMet_succ, step_length])
    refine wpAny_pure ⟨plainId_quiet PyProof.Rows.F.plain_set_update_loop _, ih (i + 1) _ (by omega) hlt (W.frame _ s' _ _ st' (Nat.le_succ _) fun b z o e => ?_) x3 fun s2 m2 y2 => ?_⟩
    · rw [sb.2 b (fun h : b = D => hD (by rw [← h]; exact z))]
      exact e
    · refine q s2 (Moved.trans W.gtrans ((hm.mono hsub).then_heap (Nat.le_succ _) fun b o z e => ?_) m2) y2
      rw [sb.2 b (fun h : b = D => z (by rw [h]; exact List.mem_cons_self))]
      exact e
end
section
variable {P : Program} {w : World} {A : Around} {E : Value → Shared → Prop} {s : Shared}
abbrev freshSet (w : World) : Obj := { cls := .type "set", dict := none, data := .set #[] 0 (.fresh 0 0 (!w.params.followText "set-order")) }
theorem setT_fresh {h : Heap} {a : Addr} (e : h.get? a = some (freshSet w)) : SetT P w h a (fun _ => false) 0 :=
  ⟨_, #[], 0, _, e, ⟨rfl, rfl, rfl⟩, rfl, fun _ z => by simp at z, fun k => by simp, by decide, by rfl, rfl, rfl, fun i k h1 h2 => absurd h2 (Nat.not_lt_zero _)⟩
theorem setT_new (a : Value) {Z : Value → Shared → Prop} (q : Z (.ref s.heap.objs.size) { s with heap := s.heap.push (freshSet w) }) :
    codeAny (model P w) A (.call (.builtin "set.__new__") ⟨[.type "set", a], []⟩) (wants Z E) s := by
  refine codeAny_of_tree ?_
  show wpAny _ A.in1 (do checkBuiltinCall "set.__new__" ⟨[.type "set", a], []⟩; again (.builtin "set.__new__" ⟨[.type "set", a], []⟩)) _ _ s
  refine wpAny_bind (wpAny_of_eq (PySem.F.newCall_set_1 a) (wpAny_pure ⟨plainId_quiet PySem.F.plain_set_new _, codeAny_builtin PySem.F.entry_set_new ?_⟩))
  rw [Around.under_plainId PySem.F.plain_set_new _]
  unfold Builtin.«set.__new__» Builtin.Frozenset.newClass
  have hs := sub_set_self
  obtain ⟨hp, g, d, tk, os⟩ := s
  dsimp only
  wp_walk
  refine wpAny_askSetting (wpAny_pure ?_)
  dsimp only
  simp only [newObj]
  exact wpAny_bind (wpAny_alloc (wpAny_pure (wpAny_pure q)))
/-- set(l), l a list of numbers -/
theorem setT_call {l : Addr} {items : Array Value} {ns : List Int} {Q : Value → Shared → Prop} (hh : A.handled = none) (hl : s.heap.IsList l items) (hi : IntsAre items.toList ns) (hb : items.size + 1 < scanBound)
    (q : ∀ (h' : Heap) (tk : Nat), SetT P w h' s.heap.objs.size (fun z => (firstMet (fun i => ns.getD i 0) items.size).any (· == z)) (firstMet (fun i => ns.getD i 0) items.size).length →
      (∀ b o, s.heap.get? b = some o → h'.get? b = some o) → Q (.ref s.heap.objs.size) { s with heap := h', toks := tk }) : wpAny (model P w) A (call (.type "set") [.ref l]) Q E s := by
  obtain ⟨c, tl, hmro⟩ := PySem.F.called_set.mro
  have hmade := PySem.F.called_set.made
  have hsub := PySem.F.called_set.sub
  refine wpAny_call (codeAny_of_tree ?_)
  show wpAny _ _ (callAny (.type "set") _) _ _ _
  refine wpAny_pure ⟨Code.quiet_builtin _ (by decide +kernel), codeAny_builtin PySem.F.entry_type_call ?_⟩
  rw [Around.under_plain (weight_type_call_type "set" [.ref l] []) rfl]
  have h1 := PySem.F.called_set.notType
  have h2 := PySem.F.called_set.canCreate
  have hct := PySem.F.typeCall_set_1 (.ref l)
  (repeat (any_goals (first | assumption | wp_step)))
  refine codeAny_mono (setT_new (.ref l) (E := E) (Z := fun v u => v = .ref s.heap.objs.size ∧ u = { s with heap := s.heap.push (freshSet w) }) ⟨rfl, rfl⟩) fun r u hr => ?_
  cases r with
  | error e => exact hr
  | ok fl =>
    cases fl with
    | ret obj =>
      obtain ⟨rfl, rfl⟩ := hr
      have hS : (s.heap.push (freshSet w)).get? s.heap.objs.size = some (freshSet w) := Heap.get?_push_size _ rfl
      have hT : Shared.TypeIs { s with heap := s.heap.push (freshSet w) } (.ref s.heap.objs.size) "set" := ⟨_, hS, rfl⟩
      have hli := PySem.F.called_set.init.lookup
      have hbi := PySem.F.called_set.init.bind (.ref s.heap.objs.size)
      (repeat (any_goals (first | assumption | wp_step)))
      refine codeAny_mono (codeAny_call_builtin (R := wants (fun r u => r = .none ∧ ∃ h' tk, u = { s with heap := h', toks := tk } ∧ SetT P w h' s.heap.objs.size (fun z => (firstMet (fun i => ns.getD i 0) items.size).any (· == z)) (firstMet (fun i => ns.getD i 0) items.size).length ∧
          (∀ b o, s.heap.get? b = some o → h'.get? b = some o)) E) PySem.F.called_set.init.plain PySem.F.entry_set_init (check_set_init_1 hT ?_)) fun r₂ s₂ hr₂ => ?_
      · obtain ⟨⟨oc, od, oD, os⟩, hol, hcl, nl, hdl⟩ := hl
        simp only at hcl hdl
        subst hcl hdl
        have hol' : (s.heap.push (freshSet w)).get? l = some { cls := .type "list", dict := od, data := .seq items nl, slots := os } := Heap.get?_push_of_some _ hol
        have z1 := PySem.F.sub_list_set
        have z2 := PySem.F.sub_list_frozenset
        have z3 : (Value.type "list" == Value.type "dict") = false := by decide
        have hl1 : (s.heap.push (freshSet w)).IsList l items := ⟨_, hol', rfl, nl, rfl⟩
        unfold Builtin.«set.__init__» noKeywords Builtin.Frozenset.updateFrom
        generalize hPI : pyIter = PI
        wp_walk
        subst hPI
        refine wpAny_pyIter_list hl1 (wpAny_bind (wpAny_runValue ?_))
        have hlS : l < s.heap.objs.size := Heap.lt_size hol
        have h3 : A.in1.in1.in1.handled = none := by simp [hh]
        have hneI : l ≠ (s.heap.push (freshSet w)).objs.size := by
          rw [Heap.size_push]
          exact Nat.ne_of_lt (Nat.lt_succ_of_lt hlS)
        have hSf : s.heap.objs.size ∉ [(s.heap.push (freshSet w)).objs.size, l] := by
          rw [Heap.size_push]
          simp only [List.mem_cons, List.not_mem_nil, or_false, not_or]
          exact ⟨Nat.ne_of_lt (Nat.lt_succ_self _), fun z => Nat.lt_irrefl _ (Eq.mp (by rw [z]) hlS)⟩
        refine setT_loop ((Walks.list h3 _ l hneI items).toS) s.heap.objs.size hSf (fun i => ns.getD i 0) (fun i v hv => PyProof.Rows.IntsAre.int_at hi i v (by rw [Array.getElem?_toList]; exact hv)) hb (items.size - 0) 0 _ (by omega) (Nat.zero_le _)
          ⟨⟨_, Heap.get?_push_size _ rfl, rfl, rfl⟩, (hl1.push _)⟩ ?hS0 ?hR
        case hS0 => exact (setT_fresh (P := P) (Heap.get?_push_of_some _ hS)).as (fun _ => rfl) rfl
        case hR =>
          intro s' hm hS'
          obtain ⟨h', g', d', tk', os'⟩ := s'
          have eg : g' = s.gens := hm.gens
          have ed : d' = s.drawn := hm.drawn
          have eo : os' = s.os := hm.os
          subst eg ed eo
          show wpAny _ _ _ _ _ _
          refine wpAny_pure ?_
          show wpAny _ _ (ret Value.none) _ _ _
          refine wpAny_pure ⟨rfl, h', tk', rfl, hS', fun b o e => ?_⟩
          have hb0 := Heap.lt_size e
          exact hm.heap b o (by rw [Heap.size_push]; simp only [List.mem_cons, List.not_mem_nil, or_false, not_or]; exact ⟨Nat.ne_of_lt hb0, Nat.ne_of_lt (Nat.lt_succ_of_lt hb0)⟩) (Heap.get?_push_of_some _ (Heap.get?_push_of_some _ e))
      · cases r₂ with
        | error e => exact hr₂
        | ok fl₂ =>
          cases fl₂ with
          | ret r =>
            obtain ⟨rfl, h', tk, rfl, hS', hk'⟩ := hr₂
            (repeat (any_goals (first | assumption | wp_step)))
            exact q _ _ hS' hk'
          | _ => exact hr₂.elim
    | _ => exact hr.elim
end
end L2
end
section
set_option Elab.async false
set_option linter.all false
set_option maxRecDepth 100000
set_option maxHeartbeats 4000000
namespace L2
open PySem PySem.Spec PyProof.Rows LX
/-! ### what the library has of a set's iterator -/
theorem so_next : Slot "set_iterator" "__next__" "set_iterator.__next__" := .of (owner := "set_iterator") (n := "__next__") (by rw [typeLookup_type, builtinLookup_eq_fast]; kernel_rfl) (by decide +kernel) (by decide +kernel) (by decide +kernel) (by first | exact .inl (by decide +kernel) | exact .inr (by decide +kernel)) (by rw [isSubtype_type]; kernel_rfl)
theorem so_iter : Slot "set_iterator" "__iter__" "set_iterator.__iter__" := .of (owner := "set_iterator") (n := "__iter__") (by rw [typeLookup_type, builtinLookup_eq_fast]; kernel_rfl) (by decide +kernel) (by decide +kernel) (by decide +kernel) (by first | exact .inl (by decide +kernel) | exact .inr (by decide +kernel)) (by rw [isSubtype_type]; kernel_rfl)
theorem en_next : entryFor table "set_iterator.__next__" = some Builtin.«set_iterator.__next__» := entryFor_of_tree (by kernel_rfl)
theorem en_iter : entryFor table "set_iterator.__iter__" = some Builtin.«dict_keyiterator.__iter__» := entryFor_alias (id' := "dict_keyiterator.__iter__") (by kernel_rfl) rfl (by decide +kernel) (by kernel_rfl)
theorem en_siter : entryFor table "set.__iter__" = some Builtin.«frozenset.__iter__» := entryFor_alias (id' := "frozenset.__iter__") (by kernel_rfl) rfl (by decide +kernel) (by kernel_rfl)
theorem ow_si : Manifest.owners.lookup (String.ofList ['r', 'o', 't', 'a', 'r', 'e', 't', 'i', '_', 't', 'e', 's'].reverse) = some Manifest.sig_set_iterator := by kernel_rfl
theorem ar_next (a : Value) : argsOk "set_iterator.__next__" ⟨[a], []⟩ := by
  unfold argsOk; rw [signature?_of (id := "set_iterator.__next__") (n := ['_', '_', 't', 'x', 'e', 'n', '_', '_']) (o := ['r', 'o', 't', 'a', 'r', 'e', 't', 'i', '_', 't', 'e', 's']) (by kernel_rfl) ow_si]; kernel_rfl
theorem ar_iter (a : Value) : argsOk "set_iterator.__iter__" ⟨[a], []⟩ := by
  unfold argsOk; rw [signature?_of (id := "set_iterator.__iter__") (n := ['_', '_', 'r', 'e', 't', 'i', '_', '_']) (o := ['r', 'o', 't', 'a', 'r', 'e', 't', 'i', '_', 't', 'e', 's']) (by kernel_rfl) ow_si]; kernel_rfl
theorem ar_siter (a : Value) : argsOk "set.__iter__" ⟨[a], []⟩ := by
  unfold argsOk; rw [signature?_of (id := "set.__iter__") (n := ['_', '_', 'r', 'e', 't', 'i', '_', '_']) (o := ['t', 'e', 's']) (by kernel_rfl) PySem.F.owner_set]; kernel_rfl
/-- an iterator of the set at a -/
def SetIt (h : Heap) (it : Addr) (first : Value) (i : Nat) (a : Addr) (n ep : Nat) : Prop := ∃ o, h.get? it = some o ∧ o.cls = .type "set_iterator" ∧ o.data = .fields #[first, .int i 0, .ref a, .int n 0, .int ep 0]
section
variable {P : Program} {w : World} {A : Around} {E : Value → Shared → Prop} {s : Shared} {it a : Addr} {first : Value} {i n ep : Nat}
theorem SetIt.typeIs (x : SetIt s.heap it first i a n ep) : s.TypeIs (.ref it) "set_iterator" := let ⟨o, e, c, _⟩ := x; ⟨o, e, c⟩
theorem SetIt.keep {h h' : Heap} (x : SetIt h it first i a n ep) (k : ∀ o, h.get? it = some o → h'.get? it = some o) : SetIt h' it first i a n ep := let ⟨o, e, r⟩ := x; ⟨o, k o e, r⟩
theorem SetIt.self {Q : Value → Shared → Prop} (x : SetIt s.heap it first i a n ep) (q : Q (.ref it) s) : wpAny (model P w) A (pyIter (.ref it)) Q E s := by
  refine wpAny_pyIter_slot x.typeIs so_iter (wpAny_call_entry so_iter x.typeIs en_iter ?_ (ar_iter _))
  exact wpAny_pure ⟨_, rfl, "set_iterator", _, x.typeIs, so_next.lookup, q⟩
/-- StopIteration flies -/
theorem stop_flies {α : Type} {Q : α → Shared → Prop} (hh : A.handled = none) (q : ∀ h' e, (∀ b o, s.heap.get? b = some o → h'.get? b = some o) → (∃ o, h'.get? e = some o ∧ o.cls = .type "StopIteration") → E (.ref e) { s with heap := h' }) :
    wpAny (model P w) A (newExc (.type "StopIteration") [] >>= fun e => (raiseNew e : Sem α)) Q E s := by
  refine wpAny_bind ?_
  simp only [newExc, newTuple]
  refine wpAny_bind (wpAny_newObj_type ?_ (by size_fits))
  refine wpAny_bind (m := firstArgMember _ _) (wpAny_of_eq (a := Value.none) (by first | rfl | (simp only [firstArgMember]; rfl)) (wpAny_newObj_type ?_ (by size_fits)))
  simp only [raiseNew]
  refine wpAny_bind (wpAny_handled ?_)
  rw [hh]
  exact wpAny_bind (wpAny_pure (wpAny_throw (q _ _ (fun b o e => Heap.get?_push_of_some _ (Heap.get?_push_of_some _ e)) ⟨_, Heap.get?_push_size _ rfl, rfl⟩)))
/-- the set at a is this very object -/
structure SetAt (h : Heap) (a : Addr) (es : Array (Int × Value)) (ep : Nat) (t : SetTable) : Prop where
  ex : ∃ o, h.get? a = some o ∧ o.data = .set es ep t
  fit : t.fits es.size = true
theorem SetAt.keep {h h' : Heap} {es : Array (Int × Value)} {t : SetTable} (x : SetAt h a es ep t) (k : ∀ o, h.get? a = some o → h'.get? a = some o) : SetAt h' a es ep t :=
  ⟨let ⟨o, e, r⟩ := x.ex; ⟨o, k o e, r⟩, x.fit⟩
theorem SetAt.state {es : Array (Int × Value)} {t : SetTable} {Q : (Array (Int × Value) × Nat × SetTable) → Shared → Prop} (x : SetAt s.heap a es ep t) (q : Q (es, ep, t) s) : wpAny (model P w) A (setState a) Q E s :=
  let ⟨_, e, r⟩ := x.ex
  wpAny_setState_of e r x.fit q
theorem SetAt.entries {es : Array (Int × Value)} {t : SetTable} {Q : Array (Int × Value) → Shared → Prop} (x : SetAt s.heap a es ep t) (q : Q es s) : wpAny (model P w) A (setEntries a) Q E s :=
  let ⟨_, e, r⟩ := x.ex
  wpAny_setEntries_of e r x.fit q
theorem SetAt.epoch {es : Array (Int × Value)} {t : SetTable} {Q : Nat → Shared → Prop} (x : SetAt s.heap a es ep t) (q : Q ep s) : wpAny (model P w) A (setEpoch a) Q E s :=
  let ⟨_, e, r⟩ := x.ex
  wpAny_setEpoch_of e r x.fit q
theorem wpAny_byText {Q : Bool → Shared → Prop} (q : Q (w.params.followText "set-order") s) : wpAny (model P w) A setsByText Q E s := by
  unfold setsByText
  exact wpAny_bind (wpAny_askSetting (wpAny_pure q))
/-- what the next turn tells, by slots -/
def Slots (P : Program) (w : World) (a : Addr) (es : Array (Int × Value)) (ep : Nat) (t : SetTable) (sl : Nat → Nat) (vs : List Value) : Prop :=
  vs.length = es.size ∧ sl 0 = 0 ∧ ∀ (A : Around) (E : Value → Shared → Prop) (s : Shared) (i : Nat) (Q : Option (Value × Nat) → Shared → Prop), SetAt s.heap a es ep t → i ≤ vs.length → Q (vs[i]?.map fun v => (v, sl (i + 1))) s → wpAny (model P w) A (setNext a (sl i) i ep) Q E s
end
end L2
end
section
set_option Elab.async false
set_option linter.all false
set_option maxRecDepth 100000
set_option maxHeartbeats 4000000
namespace L2
open PySem PySem.Spec PyProof.Rows LX
section
variable {P : Program} {w : World} {A : Around} {E : Value → Shared → Prop} {s : Shared} {it a : Addr} {first : Value} {i n ep : Nat} {es : Array (Int × Value)} {t : SetTable}
theorem slots_text (hb : w.params.followText "set-order" = true) : Slots P w a es ep t (fun _ => 0) ((pickOrder (w.params.setOrder a ep) es).toList.map (·.2)) := by
  have hp := pick_perm (w.params.setOrder a ep) es
  refine ⟨by rw [List.length_map, hp.length_eq, Array.length_toList], rfl, fun A E s i Q x hi q => ?_⟩
  unfold setNext
  refine wpAny_bind (x.state ?_)
  dsimp only
  refine wpAny_bind (wpAny_byText ?_)
  rw [hb, if_pos rfl]
  refine wpAny_ite_split (fun h => absurd h (by simp)) (fun _ => ?_)
  unfold setWalk
  refine wpAny_bind (wpAny_bind (x.state ?_))
  dsimp only
  refine wpAny_bind (wpAny_byText ?_)
  rw [hb, if_pos rfl]
  refine wpAny_bind (wpAny_askSetting (wpAny_pure (wpAny_pure ?_)))
  rw [List.getElem?_map, Array.getElem?_toList] at q
  rw [Option.map_map] at q
  exact q
def slL (t : SetTable) : Nat → Nat
  | 0 => 0
  | k + 1 => t.place.getD k 0 + 1
theorem slots_led (hb : w.params.followText "set-order" = false) (ht : Tab (!w.params.followText "set-order") t) (hn : (!t.plain && decide (es.size > 1)) = false) (hf : t.fits es.size = true) :
    Slots P w a es ep t (slL t) (es.toList.map (·.2)) := by
  obtain ⟨hl, hr⟩ := ht
  have hz : t.place.size = es.size := by
    simp only [SetTable.fits, Bool.and_eq_true, beq_iff_eq] at hf
    exact hf.1
  refine ⟨by rw [List.length_map, Array.length_toList], rfl, fun A E s i Q x hi q => ?_⟩
  rw [List.length_map, Array.length_toList] at hi
  have hbl : SetTable.below t.place (slL t i) = i := by
    refine cut_one (below_cut hr _) ?_
    cases i with
    | zero => exact ⟨Nat.zero_le _, fun _ _ h => absurd h (Nat.not_lt_zero _), fun _ _ _ => Nat.zero_le _⟩
    | succ k =>
      have hk : k < t.place.size := by omega
      have e : t.place.getD k 0 = t.place[k] := by simp [Array.getD, hk]
      refine ⟨by omega, fun j h hj => ?_, fun j h hj => ?_⟩
      · show t.place[j] < t.place.getD k 0 + 1
        rw [e]
        by_cases z : j = k
        · subst z; omega
        · have := hr j k (by omega) hk
          omega
      · show t.place.getD k 0 + 1 ≤ t.place[j]
        rw [e]
        exact hr k j (by omega) h
  unfold setNext
  refine wpAny_bind (x.state ?_)
  dsimp only
  refine wpAny_bind (wpAny_byText ?_)
  rw [hb, if_neg Bool.false_ne_true]
  refine wpAny_ite_split (fun h => absurd h (by show ¬ (!t.plain && decide (es.size > 1)) = true; rw [hn]; exact Bool.false_ne_true)) (fun _ => ?_)
  refine wpAny_bind ?_
  show wpAny _ _ (if (!t.led && !es.isEmpty) = true then unsupported _ else pure ()) _ _ _
  rw [hl, hb]
  refine wpAny_pure ?_
  refine wpAny_pure ?_
  rw [hbl]
  rw [List.getElem?_map, Array.getElem?_toList] at q
  by_cases hlt : i < es.size
  · rw [Array.getElem?_eq_getElem hlt] at q ⊢
    rw [Array.getElem?_eq_getElem (show i < t.place.size by omega)]
    have e : t.place.getD i 0 = t.place[i]'(by omega) := by simp [Array.getD, show i < t.place.size by omega]
    dsimp only [Option.map] at q ⊢
    rw [show slL t (i + 1) = t.place.getD i 0 + 1 from rfl, e] at q
    exact q
  · have e : es[i]? = none := Array.getElem?_eq_none (by omega)
    rw [e] at q ⊢
    exact q
end
section
variable {P : Program} {w : World} {A : Around} {E : Value → Shared → Prop} {s : Shared} {I a : Addr} {ep : Nat} {es : Array (Int × Value)} {t : SetTable} {sl : Nat → Nat} {vs : List Value}
theorem next_slot {i : Nat} {Q : Option Value → Shared → Prop} {v : Value} (hs : Slots P w a es ep t sl vs) (hne : a ≠ I) (x : SetIt s.heap I (.int (sl i) 0) i a es.size ep) (y : SetAt s.heap a es ep t) (hv : vs[i]? = some v)
    (q : ∀ h', SetIt h' I (.int (sl (i + 1)) 0) (i + 1) a es.size ep → Heap.SameBut I s.heap h' → Q (some v) { s with heap := h' }) : wpAny (model P w) A (pyNext (.ref I)) Q E s := by
  obtain ⟨o, ho, hc, hd⟩ := id x
  unfold pyNext
  refine wpAny_bind (wpAny_attempt (wpAny_callSpecial?_slot (name := Str.ofString "__next__") x.typeIs so_next (wpAny_call_entry so_next x.typeIs en_next ?_ (ar_next _))))
  unfold Builtin.«set_iterator.__next__»
  refine wpAny_bind (wpAny_pure ?_)
  refine wpAny_bind (wpAny_fieldsOf ho hd ?_)
  dsimp only
  refine wpAny_bind (y.entries ?_)
  refine wpAny_ite_split (fun h => absurd h (by simp)) (fun _ => ?_)
  refine wpAny_bind (hs.2.2 _ _ _ i _ y (by have := (List.getElem?_eq_some_iff.mp hv).1; omega) ?_)
  rw [hv]
  dsimp only [Option.map]
  refine wpAny_bind (wpAny_setField ho hd (by simp) ?_)
  have o1 := Heap.get?_update_self (Obj.mapFields fun vs => vs.setIfInBounds 0 (rawInt (sl (i + 1)))) ho (Obj.isFreed_of_fields (Obj.data_mapFields hd _))
  have d1 := Obj.data_mapFields hd fun vs => vs.setIfInBounds 0 (rawInt (sl (i + 1)))
  refine wpAny_bind (wpAny_setField o1 d1 (by simp) ?_)
  have o2 := Heap.get?_update_self (Obj.mapFields fun vs => vs.setIfInBounds 1 (rawInt ((i : Int) + 1))) o1 (Obj.isFreed_of_fields (Obj.data_mapFields d1 _))
  refine wpAny_pure ⟨v, rfl, wpAny_pure (q _ ⟨_, o2, ?_, ?_⟩ ((Heap.SameBut.update ..).trans (Heap.SameBut.update ..)))⟩
  · rw [Obj.cls_mapFields, Obj.cls_mapFields]
    exact hc
  · rw [Obj.data_mapFields d1]
    simp [rawInt]
theorem end_slot {Q : Option Value → Shared → Prop} (hs : Slots P w a es ep t sl vs) (hh : A.handled = none) (x : SetIt s.heap I (.int (sl es.size) 0) es.size a es.size ep) (y : SetAt s.heap a es ep t)
    (q : ∀ h', (∀ b o, b ≠ I → s.heap.get? b = some o → h'.get? b = some o) → Q none { s with heap := h' }) : wpAny (model P w) A (pyNext (.ref I)) Q E s := by
  obtain ⟨o, ho, hc, hd⟩ := id x
  unfold pyNext
  refine wpAny_bind (wpAny_attempt (wpAny_callSpecial?_slot (name := Str.ofString "__next__") x.typeIs so_next (wpAny_call_entry so_next x.typeIs en_next ?_ (ar_next _))))
  unfold Builtin.«set_iterator.__next__»
  refine wpAny_bind (wpAny_pure ?_)
  refine wpAny_bind (wpAny_fieldsOf ho hd ?_)
  dsimp only
  refine wpAny_bind (y.entries ?_)
  refine wpAny_ite_split (fun h => absurd h (by simp)) (fun _ => ?_)
  refine wpAny_bind (hs.2.2 _ _ _ es.size _ y (by rw [hs.1]; exact Nat.le_refl _) ?_)
  rw [List.getElem?_eq_none (by rw [hs.1]; exact Nat.le_refl _)]
  dsimp only [Option.map]
  refine wpAny_bind (wpAny_setField ho hd (by simp) ?_)
  refine stop_flies (by rw [Around.in1_handled]; exact hh) fun h' e k ⟨oe, he, hce⟩ => ?_
  refine wpAny_bind (wpAny_isInstance (T := "StopIteration") (b := true) ⟨oe, he, hce⟩ isSubtype_stop ?_)
  exact wpAny_pure (q _ fun b o hb e => k b o ((Heap.get?_update_other _ _ (Ne.symm hb)).trans e))
theorem walk_slots (hs : Slots P w a es ep t sl vs) (hh : A.handled = none) (hne : a ≠ I) : Walks P w A I [I, a] [I] es.size (fun i v => vs[i]? = some v) (fun i h => SetIt h I (.int (sl i) 0) i a es.size ep ∧ SetAt h a es ep t) where
  sub := fun b hb => by simp at hb; simp [hb]
  frame := fun _ _ _ st hk => ⟨st.1.keep fun o e => hk I (by simp) o e, st.2.keep fun o e => hk a (by simp) o e⟩
  item := fun i s Q E hi st hQ => by
    have hv : vs[i]? = some (vs[i]'(by rw [hs.1]; exact hi)) := List.getElem?_eq_getElem _
    refine next_slot hs hne st.1 st.2 hv fun h' x' sb => ?_
    exact hQ _ h' s.toks hv ⟨x', st.2.keep fun o e => by rw [sb.2 a hne]; exact e⟩ fun b o hb e => by rw [sb.2 b fun z => hb (by simp [z])]; exact e
  done := fun s Q E st hQ => end_slot hs hh st.1 st.2 fun h' k => hQ h' s.toks fun b o hb e => k b o (fun z => hb (by simp [z])) e
  self := fun _ _ _ _ st hQ => st.1.self hQ
/-! the drawn way: the places lie in a tuple -/
def TupAt (h : Heap) (T : Addr) (ys : List Nat) : Prop := ∃ o, h.get? T = some o ∧ ∃ n, o.data = .seq (ys.map fun (i : Nat) => rawInt i).toArray n
theorem TupAt.keep {h h' : Heap} {T : Addr} {ys : List Nat} (x : TupAt h T ys) (k : ∀ o, h.get? T = some o → h'.get? T = some o) : TupAt h' T ys := let ⟨o, e, r⟩ := x; ⟨o, k o e, r⟩
theorem next_drawn {i j : Nat} {T : Addr} {ys : List Nat} {Q : Option Value → Shared → Prop} {e : Int × Value} (x : SetIt s.heap I (.ref T) i a es.size ep) (y : SetAt s.heap a es ep t) (z : TupAt s.heap T ys) (hj : ys[i]? = some j) (he : es[j]? = some e)
    (q : ∀ h', SetIt h' I (.ref T) (i + 1) a es.size ep → Heap.SameBut I s.heap h' → Q (some e.2) { s with heap := h' }) : wpAny (model P w) A (pyNext (.ref I)) Q E s := by
  obtain ⟨o, ho, hc, hd⟩ := id x
  obtain ⟨oT, hT, nT, dT⟩ := z
  unfold pyNext
  refine wpAny_bind (wpAny_attempt (wpAny_callSpecial?_slot (name := Str.ofString "__next__") x.typeIs so_next (wpAny_call_entry so_next x.typeIs en_next ?_ (ar_next _))))
  unfold Builtin.«set_iterator.__next__»
  refine wpAny_bind (wpAny_pure ?_)
  refine wpAny_bind (wpAny_fieldsOf ho hd ?_)
  dsimp only
  refine wpAny_bind (y.entries ?_)
  refine wpAny_ite_split (fun h => absurd h (by simp)) (fun _ => ?_)
  refine wpAny_bind (wpAny_seqItems hT dT ?_)
  dsimp only
  have hg : (ys.map fun (i : Nat) => rawInt i).toArray[((i : Nat) : Int).toNat]? = some (Value.int j 0) := by
    rw [List.getElem?_toArray, List.getElem?_map, Int.toNat_natCast, hj]; rfl
  rw [hg]
  dsimp only
  unfold setNextDrawn
  refine wpAny_bind (wpAny_bind (y.state ?_))
  dsimp only
  refine wpAny_ite_split (fun h => absurd h (by simp)) (fun _ => ?_)
  rw [Int.toNat_natCast, he]
  refine wpAny_pure ?_
  refine wpAny_bind (wpAny_setField ho hd (by simp) ?_)
  have o2 := Heap.get?_update_self (Obj.mapFields fun vs => vs.setIfInBounds 1 (rawInt ((i : Int) + 1))) ho (Obj.isFreed_of_fields (Obj.data_mapFields hd _))
  refine wpAny_pure ⟨_, rfl, wpAny_pure (q _ ⟨_, o2, ?_, ?_⟩ (Heap.SameBut.update ..))⟩
  · rw [Obj.cls_mapFields]
    exact hc
  · rw [Obj.data_mapFields hd]
    simp [rawInt]
theorem end_drawn {T : Addr} {ys : List Nat} {Q : Option Value → Shared → Prop} (hh : A.handled = none) (x : SetIt s.heap I (.ref T) es.size a es.size ep) (y : SetAt s.heap a es ep t) (z : TupAt s.heap T ys) (hl : ys.length = es.size)
    (q : ∀ h', (∀ b o, b ≠ I → s.heap.get? b = some o → h'.get? b = some o) → Q none { s with heap := h' }) : wpAny (model P w) A (pyNext (.ref I)) Q E s := by
  obtain ⟨o, ho, hc, hd⟩ := id x
  obtain ⟨oT, hT, nT, dT⟩ := z
  unfold pyNext
  refine wpAny_bind (wpAny_attempt (wpAny_callSpecial?_slot (name := Str.ofString "__next__") x.typeIs so_next (wpAny_call_entry so_next x.typeIs en_next ?_ (ar_next _))))
  unfold Builtin.«set_iterator.__next__»
  refine wpAny_bind (wpAny_pure ?_)
  refine wpAny_bind (wpAny_fieldsOf ho hd ?_)
  dsimp only
  refine wpAny_bind (y.entries ?_)
  refine wpAny_ite_split (fun h => absurd h (by simp)) (fun _ => ?_)
  refine wpAny_bind (wpAny_seqItems hT dT ?_)
  dsimp only
  have hg : (ys.map fun (i : Nat) => rawInt i).toArray[((es.size : Nat) : Int).toNat]? = none := by
    rw [List.getElem?_toArray, List.getElem?_map, Int.toNat_natCast, List.getElem?_eq_none (by omega)]; rfl
  rw [hg]
  dsimp only
  refine wpAny_bind (wpAny_setField ho hd (by simp) ?_)
  have o1 := Heap.get?_update_self (Obj.mapFields fun vs => vs.setIfInBounds 0 (rawInt 0)) ho (Obj.isFreed_of_fields (Obj.data_mapFields hd _))
  have d1 := Obj.data_mapFields hd fun vs => vs.setIfInBounds 0 (rawInt 0)
  refine wpAny_bind (wpAny_setField o1 d1 (by simp) ?_)
  refine stop_flies (by rw [Around.in1_handled]; exact hh) fun h' e k ⟨oe, he, hce⟩ => ?_
  refine wpAny_bind (wpAny_isInstance (T := "StopIteration") (b := true) ⟨oe, he, hce⟩ isSubtype_stop ?_)
  exact wpAny_pure (q _ fun b o hb e => k b o ((Heap.get?_update_other _ _ (Ne.symm hb)).trans ((Heap.get?_update_other _ _ (Ne.symm hb)).trans e)))
theorem walk_drawn {T : Addr} {ys : List Nat} (hh : A.handled = none) (hne : a ≠ I) (hnT : T ≠ I) (hp : ys.Perm (List.range es.size)) : Walks P w A I [I, a, T] [I] es.size (fun i v => ∃ j e, ys[i]? = some j ∧ es[j]? = some e ∧ v = e.2) (fun i h => SetIt h I (.ref T) i a es.size ep ∧ SetAt h a es ep t ∧ TupAt h T ys) where
  sub := fun b hb => by simp at hb; simp [hb]
  frame := fun _ _ _ st hk => ⟨st.1.keep fun o e => hk I (by simp) o e, st.2.1.keep fun o e => hk a (by simp) o e, st.2.2.keep fun o e => hk T (by simp) o e⟩
  item := fun i s Q E hi st hQ => by
    have hl : ys.length = es.size := by rw [hp.length_eq, List.length_range]
    have hv : ys[i]? = some (ys[i]'(by omega)) := List.getElem?_eq_getElem _
    have hlt : ys[i]'(by omega) < es.size := List.mem_range.mp (hp.mem_iff.mp (List.getElem_mem _))
    have he : es[ys[i]'(by omega)]? = some (es[ys[i]'(by omega)]) := Array.getElem?_eq_getElem hlt
    refine next_drawn st.1 st.2.1 st.2.2 hv he fun h' x' sb => ?_
    exact hQ _ h' s.toks ⟨_, _, hv, he, rfl⟩ ⟨x', st.2.1.keep fun o e => by rw [sb.2 a hne]; exact e, st.2.2.keep fun o e => by rw [sb.2 T hnT]; exact e⟩ fun b o hb e => by rw [sb.2 b fun z => hb (by simp [z])]; exact e
  done := fun s Q E st hQ => end_drawn hh st.1 st.2.1 st.2.2 (by rw [hp.length_eq, List.length_range]) fun h' k => hQ h' s.toks fun b o hb e => k b o (fun z => hb (by simp [z])) e
  self := fun _ _ _ _ st hQ => st.1.self hQ
end
end L2
end
section
set_option Elab.async false
set_option linter.all false
set_option maxRecDepth 100000
set_option maxHeartbeats 4000000
namespace L2
open PySem PySem.Spec PyProof.Rows LX PySem.W
theorem items_list {p : Nat → Value → Prop} {acc : Array Value} {n : Nat} {vs : List Value} (h : ItemsOf p acc n) (hl : vs.length = n) (hp : ∀ i v, p i v → vs[i]? = some v) : acc.toList = vs := by
  refine List.ext_getElem? fun i => ?_
  by_cases hi : i < n
  · have hi' : i < acc.size := by rw [h.1]; exact hi
    rw [Array.getElem?_toList, Array.getElem?_eq_getElem hi', hp i _ (h.2 i _ (Array.getElem?_eq_getElem hi'))]
  · rw [List.getElem?_eq_none (by rw [Array.length_toList, h.1]; omega), List.getElem?_eq_none (by omega)]
section
variable {P : Program} {w : World} {A : Around} {E : Value → Shared → Prop} {s : Shared} {a : Addr} {ep : Nat} {es : Array (Int × Value)} {t : SetTable}
/-- iter(s) -/
theorem iter_set {Q : Value → Shared → Prop} (hh : A.handled = none) (y : SetAt s.heap a es ep t) (hT : s.TypeIs (.ref a) "set") (hz : es.size ≤ sizeLine) (ht : Tab (!w.params.followText "set-order") t)
    (q : ∀ (I : Addr) (h' : Heap) (d' : Drawn) (fp : List Addr) (p : Nat → Value → Prop) (St : Nat → Heap → Prop), Walks P w A I fp [I] es.size p St → St 0 h' → (∀ b o, s.heap.get? b = some o → h'.get? b = some o) → s.heap.objs.size ≤ I → (∀ b ∈ fp, b = a ∨ s.heap.objs.size ≤ b) →
      (∀ acc, ItemsOf p acc es.size → acc.toList.Perm (es.toList.map (·.2))) → Q (.ref I) { s with heap := h', drawn := d' }) : wpAny (model P w) A (pyIter (.ref a)) Q E s := by
  have ha : a < s.heap.objs.size := let ⟨_, e, _⟩ := y.ex; Heap.lt_size e
  have hab : ∀ k, a ≠ s.heap.objs.size + k := fun k z => absurd ha (by rw [z]; exact Nat.not_lt.mpr (Nat.le_add_right _ _))
  refine wpAny_pyIter_slot hT PySem.F.slot_set_iter (wpAny_call_entry PySem.F.slot_set_iter hT en_siter ?_ (ar_siter _))
  unfold Builtin.«frozenset.__iter__» Builtin.Frozenset.slot0
  refine wpAny_bind (wpAny_bind (wpAny_pure (wpAny_pure ?_)))
  unfold Builtin.Frozenset.sizeOf
  refine wpAny_bind (wpAny_bind (y.entries (wpAny_pure ?_)))
  unfold setDrawn
  refine wpAny_bind (wpAny_bind (y.state ?_))
  dsimp only
  refine wpAny_bind (wpAny_byText (wpAny_pure ?_))
  show wpAny _ _ (if (!w.params.followText "set-order" && (!t.plain && decide (es.size > 1))) = true then _ else _) _ _ _
  refine wpAny_ite_split (fun hc => ?_) (fun hc => wpAny_bind (wpAny_pure ?_))
  · refine wpAny_bind (wpAny_order _ _ _ _ (by rw [List.length_range]) fun ys d' hp => ?_)
    have hl : ys.length = es.size := by rw [hp.length_eq, List.length_range]
    refine wpAny_bind (wpAny_newTuple ?_ (by rw [List.length_map, hl]; exact hz))
    have y1 := y.keep (h' := s.heap.push { cls := .type "tuple", data := .seq (ys.map fun (i : Nat) => rawInt i).toArray }) fun o e => Heap.get?_push_of_some _ e
    refine wpAny_bind (y1.epoch (wpAny_bind (wpAny_newObj_type (wpAny_pure ⟨_, rfl, "set_iterator", _, ⟨_, Heap.get?_push_size _ rfl, rfl⟩, so_next.lookup, ?_⟩))))
    refine q _ _ d' _ _ _ (walk_drawn (T := s.heap.objs.size) hh ?_ ?_ hp) ⟨⟨_, Heap.get?_push_size _ rfl, rfl, rfl⟩, y1.keep fun o e => Heap.get?_push_of_some _ e, ⟨_, Heap.get?_push_of_some _ (Heap.get?_push_size _ rfl), _, rfl⟩⟩ (fun b o e => Heap.get?_push_of_some _ (Heap.get?_push_of_some _ e)) ?_ (fun b hb => ?_) fun acc hi => ?_
    · rw [Heap.size_push]; exact hab 1
    · rw [Heap.size_push]; exact Nat.ne_of_lt (Nat.lt_succ_self _)
    · rw [Heap.size_push]; exact Nat.le_succ _
    · rw [Heap.size_push] at hb
      simp only [List.mem_cons, List.not_mem_nil, or_false] at hb
      rcases hb with rfl | rfl | rfl
      · exact .inr (Nat.le_succ _)
      · exact .inl rfl
      · exact .inr (Nat.le_refl _)
    · have e1 : acc.toList = (ys.filterMap fun j => es.toList[j]?).map (·.2) := by
        have hlen : (ys.filterMap fun j => es.toList[j]?).length = es.size ∧ ∀ (i j : Nat), ys[i]? = some j → (ys.filterMap fun j => es.toList[j]?)[i]? = es.toList[j]? := by
          have gen : ∀ zs : List Nat, (∀ j ∈ zs, j < es.size) → (zs.filterMap fun j => es.toList[j]?).length = zs.length ∧ ∀ (i j : Nat), zs[i]? = some j → (zs.filterMap fun j => es.toList[j]?)[i]? = es.toList[j]? := by
            intro zs
            induction zs with
            | nil => exact fun _ => ⟨rfl, fun i j z => by simp at z⟩
            | cons z zs ih =>
              intro hz'
              obtain ⟨i1, i2⟩ := ih fun j hj => hz' j (.tail _ hj)
              have hz0 : z < es.toList.length := by rw [Array.length_toList]; exact hz' z (.head _)
              rw [List.filterMap_cons_some (List.getElem?_eq_getElem hz0)]
              refine ⟨by simp [i1], fun i j e => ?_⟩
              cases i with
              | zero => cases e; rw [List.getElem?_eq_getElem hz0]; rfl
              | succ i => exact i2 i j e
          obtain ⟨g1, g2⟩ := gen ys fun j hj => List.mem_range.mp (hp.mem_iff.mp hj)
          exact ⟨g1.trans hl, g2⟩
        refine items_list hi (by rw [List.length_map]; exact hlen.1) fun i v ⟨j, e, z1, z2, z3⟩ => ?_
        rw [List.getElem?_map, hlen.2 i j z1, Array.getElem?_toList, z2, z3]
        rfl
      rw [e1]
      refine List.Perm.map _ ((hp.filterMap _).trans ?_)
      have := List.filterMap_getElem?_range_length es.toList
      rw [Array.length_toList] at this
      rw [this]
  · refine wpAny_bind (y.epoch (wpAny_bind (wpAny_newObj_type (wpAny_pure ⟨_, rfl, "set_iterator", _, ⟨_, Heap.get?_push_size _ rfl, rfl⟩, so_next.lookup, ?_⟩))))
    have fin : ∀ (sl : Nat → Nat) (vs : List Value), Slots P w a es ep t sl vs → vs.Perm (es.toList.map (·.2)) → Q (.ref s.heap.objs.size) { s with heap := s.heap.push { cls := .type "set_iterator", data := .fields [rawInt 0, rawInt 0, Value.ref a, rawInt es.size, rawInt ep].toArray } } := fun sl vs hs hp => by
      refine q _ _ s.drawn _ _ _ (walk_slots hs hh (hab 0)) ⟨⟨_, Heap.get?_push_size _ rfl, rfl, ?_⟩, y.keep fun o e => Heap.get?_push_of_some _ e⟩ (fun b o e => Heap.get?_push_of_some _ e) (Nat.le_refl _) (fun b hb => ?_) fun acc hi => ?_
      · rw [hs.2.1]; rfl
      · simp only [List.mem_cons, List.not_mem_nil, or_false] at hb
        exact hb.symm.imp id fun z => Nat.le_of_eq z.symm
      · rw [items_list hi hs.1 fun i v z => z]
        exact hp
    by_cases hb : w.params.followText "set-order" = true
    · exact fin _ _ (slots_text hb) ((pick_perm _ es).map _)
    · have hb' : w.params.followText "set-order" = false := by simpa using hb
      rw [hb'] at hc
      exact fin _ _ (slots_led hb' ht (by simpa using hc) y.fit) (.refl _)
end
end L2
end
section
set_option Elab.async false
set_option linter.all false
set_option maxRecDepth 100000
set_option maxHeartbeats 4000000
namespace L2
open PySem PySem.Spec PyProof.Rows LX PySem.W
section
variable {P : Program} {w : World} {A : Around} {E : Value → Shared → Prop} {s : Shared} {a : Addr} {ep : Nat} {es : Array (Int × Value)} {t : SetTable}
theorem hint_set {Q : Bool → Shared → Prop} (hT : s.TypeIs (.ref a) "set") (q : Q false s) : wpAny (model P w) A (Builtin.List.listLengthHint (.ref a)) Q E s := by
  unfold Builtin.List.listLengthHint
  refine wpAny_bind (wpAny_specialOf hT PySem.F.slot_set_len.lookup ?_)
  generalize hid : ("set.__len__" : String) = k
  wp_delta
  rw [show splitId k = some ("set", "__len__") from by subst hid; decide +kernel]
  subst hid
  refine wpAny_bind (wpAny_isInstance (T := "set") (b := true) hT (by rw [isSubtype_type]; kernel_rfl) ?_)
  refine wpAny_ite_split (fun z => absurd z (by decide)) (fun _ => ?_)
  refine wpAny_ite_split (fun _ => wpAny_bind (wpAny_typeOf hT (wpAny_pure q))) (fun z => absurd (by decide +kernel) z)
theorem ext_set {R : Result → Shared → Prop} (hh : A.handled = none) (y : SetAt s.heap a es ep t) (hT : s.TypeIs (.ref a) "set") (hz : es.size ≤ sizeLine) (ht : Tab (!w.params.followText "set-order") t) (D : Addr) (hDa : D ≠ a) (res : Value) (c₀ : Nat)
    (hD : s.heap.get? D = some { cls := .type "list", data := .seq #[] c₀ })
    (q : ∀ h' tk d' acc' c', (∀ b o, b ≠ D → s.heap.get? b = some o → h'.get? b = some o) → h'.get? D = some { cls := .type "list", dict := none, data := .seq acc' c', slots := #[] } → acc'.toList.Perm (es.toList.map (·.2)) → R (.ok (.ret res)) { s with heap := h', toks := tk, drawn := d' }) :
    wpAny (model P w) A.in1 (Builtin.List.listExtendWith (.ref D) (.ref a) res) (fun fin s' => match fin with | .done f => R (.ok f) s' | .again c' => c'.quiet = true ∧ codeAny (model P w) A c' R s') (fun e s' => R (.error e) s') s := by
  unfold Builtin.List.listExtendWith
  refine wpAny_bind (wpAny_typeOf (T := "set") hT ?_)
  have h1 : Builtin.List.listSameRef (.ref D) (.ref a) = false := by simp [Builtin.List.listSameRef, hDa]
  have n1 : (Value.type "set" == Value.type "list") = false := by decide
  have n2 : (Value.type "set" == Value.type "tuple") = false := by decide
  simp only [h1, n1, n2, Bool.or_false, Bool.false_eq_true, if_false]
  have hD0 : D < s.heap.objs.size := Heap.lt_size hD
  refine wpAny_bind (iter_set (by rw [Around.in1_handled]; exact hh) y hT hz ht fun I h1' d1 fp p St W st k1 hI hfp hacc => ?_)
  have hDf : D ∉ fp := fun z => (hfp D z).elim hDa fun le => absurd hD0 (Nat.not_lt.mpr le)
  have hDI : D ≠ I := fun z => absurd hD0 (by rw [z]; exact Nat.not_lt.mpr hI)
  have key : ∀ (h : Heap) (c₁ tk : Nat), St 0 h → (∀ b o, b ≠ D → s.heap.get? b = some o → h.get? b = some o) → h.get? D = some { cls := .type "list", data := .seq #[] c₁ } →
      codeAny (model P w) A (.builtin "list.extend.loop" ⟨[.ref D, .ref I, res], []⟩) R { s with heap := h, toks := tk, drawn := d1 } := by
    intro h c₁ tk hst hk hS₁
    refine codeAny_extend_loopS W.toS hz D hDf res es.size 0 _ #[] c₁ rfl (Nat.zero_le _) hst hS₁ (ItemsOf.nil _) fun s' acc' c' hm hS' hit => ?_
    rw [Moved.eq_with hm]
    refine q s'.heap s'.toks d1 acc' c' (fun b o hb e => hm.heap b o (fun hmem => ?_) (hk b o hb e)) hS' (hacc _ hit)
    rcases List.mem_cons.mp hmem with e' | hmem
    · exact hb e'
    · exact absurd (Heap.lt_size e) (by rw [List.mem_singleton.mp hmem]; exact Nat.not_lt.mpr hI)
  have hD1 := k1 _ _ hD
  have hT1 : Shared.TypeIs { s with heap := h1', drawn := d1 } (.ref a) "set" := let ⟨o, e, c⟩ := hT; ⟨o, k1 _ _ e, c⟩
  refine wpAny_bind (wpAny_holding (hint_set hT1 ?_))
  refine wpAny_ite_split (fun _ => ?_) (fun _ => wpAny_pure ⟨plainId_quiet PySem.F.plain_extend_loop _, key _ c₀ _ st (fun b o _ e => k1 b o e) hD1⟩)
  refine wpAny_bind (wpAny_rule (wpAny_bind ?_))
  show wpAny _ _ (updateSeq D (·.push .none) >>= fun _ => updateSeq D (·.pop)) _ _ _
  refine wpAny_bind (wpAny_updateSeq hD1 rfl ?_)
  have hD2 := Heap.get?_update_self (Obj.mapSeq (·.push Value.none)) hD1 rfl
  refine wpAny_updateSeq (hz := by seq_fits) hD2 rfl ?_
  have hD3 := Heap.get?_update_self (Obj.mapSeq (·.pop)) hD2 rfl
  refine wpAny_pure ⟨plainId_quiet PySem.F.plain_extend_loop _, key _ _ _ (W.frame 0 _ _ st fun b hb o e => ?_) (fun b o hb e => ?_) hD3⟩
  · have hbD : b ≠ D := fun h => hDf (h ▸ hb)
    exact (Heap.get?_update_other _ _ (Ne.symm hbD)).trans ((Heap.get?_update_other _ _ (Ne.symm hbD)).trans e)
  · exact (Heap.get?_update_other _ _ (Ne.symm hb)).trans ((Heap.get?_update_other _ _ (Ne.symm hb)).trans (k1 _ _ e))
theorem collect_set {R : List Value → Shared → Prop} (hh : A.handled = none) (y : SetAt s.heap a es ep t) (hT : s.TypeIs (.ref a) "set") (hz : es.size ≤ sizeLine) (ht : Tab (!w.params.followText "set-order") t)
    (q : ∀ (h' : Heap) (tk : Nat) (d' : Drawn) (acc : Array Value), (∀ b o, s.heap.get? b = some o → h'.get? b = some o) → acc.toList.Perm (es.toList.map (·.2)) → R acc.toList { s with heap := h', toks := tk, drawn := d' }) : wpAny (model P w) A (collect (.ref a)) R E s := by
  have ha : a < s.heap.objs.size := let ⟨_, e, _⟩ := y.ex; Heap.lt_size e
  unfold collect
  refine wpAny_bind (wpAny_runValue (codeAny_builtin entry_proto_collect' ?_))
  rw [Around.under_plainId PySem.F.plain_proto_collect _]
  show wpAny _ A.in1 (newList [] >>= fun l => again (.builtin "list.__iadd__" ⟨[l, .ref a], []⟩)) _ _ s
  refine wpAny_bind (wpAny_newObj_type (wpAny_pure ⟨plainId_quiet PySem.F.plain_list_iadd _, codeAny_builtin entry_list_iadd' ?_⟩))
  rw [Around.under_plainId PySem.F.plain_list_iadd _]
  have h1 : (s.heap.push { cls := .type "list", data := .seq ([] : List Value).toArray }).get? s.heap.objs.size = some { cls := .type "list", data := .seq #[] } := Heap.get?_push_size _ rfl
  show wpAny _ A.in1 (Builtin.List.listExtendWith (.ref s.heap.objs.size) (.ref a) (.ref s.heap.objs.size)) _ _ _
  have hT1 : Shared.TypeIs { s with heap := s.heap.push { cls := .type "list", data := .seq ([] : List Value).toArray } } (.ref a) "set" := let ⟨o, e, c⟩ := hT; ⟨o, Heap.get?_push_of_some _ e, c⟩
  have key := ext_set (P := P) (A := A) (s := { s with heap := s.heap.push { cls := .type "list", data := .seq ([] : List Value).toArray } })
    (R := fun (r : Result) (s' : Shared) => ∃ (h' : Heap) (tk : Nat) (d' : Drawn) (acc' : Array Value) (c' : Nat), r = .ok (.ret (.ref s.heap.objs.size)) ∧ s' = { s with heap := h', toks := tk, drawn := d' } ∧
      (∀ b o, s.heap.get? b = some o → h'.get? b = some o) ∧ h'.get? s.heap.objs.size = some { cls := .type "list", dict := none, data := .seq acc' c', slots := #[] } ∧ acc'.toList.Perm (es.toList.map (·.2)))
    hh (y.keep fun o e => Heap.get?_push_of_some _ e) hT1 hz ht s.heap.objs.size (Nat.ne_of_gt ha) (.ref s.heap.objs.size) 0 h1
    (fun h' tk d' acc' c' hk hS' hacc => ⟨h', tk, d', acc', c', rfl, rfl, fun b o e => hk b o (Nat.ne_of_lt (Heap.lt_size e)) (Heap.get?_push_of_some _ e), hS', hacc⟩)
  refine wpAny_mono key (fun fin s' x => ?_) fun e s' x => ?_
  · cases fin with
    | done f =>
      obtain ⟨h', tk, d', acc', c', e, rfl, hk, hS', hacc⟩ := x
      cases e
      show wpAny _ A (load s.heap.objs.size >>= _) _ _ _
      exact wpAny_bind (wpAny_load hS' (wpAny_pure (q h' tk d' acc' hk hacc)))
    | again c₁ =>
      refine ⟨x.1, codeAny_mono x.2 fun r s₂ z => ?_⟩
      obtain ⟨h', tk, d', acc', c', rfl, rfl, hk, hS', hacc⟩ := z
      show wpAny _ A (load s.heap.objs.size >>= _) _ _ _
      exact wpAny_bind (wpAny_load hS' (wpAny_pure (q h' tk d' acc' hk hacc)))
  · obtain ⟨_, _, _, _, _, e', _⟩ := x
    cases e'
end
end L2
end
section
set_option Elab.async false
set_option linter.all false
set_option maxRecDepth 100000
set_option maxHeartbeats 4000000
namespace L2
open PySem PySem.Spec PyProof.Rows LX PySem.W
/-! ### numbers without doubles -/
def dd (ns : List Int) : List Int := firstMet (fun i => ns.getD i 0) ns.length
theorem range_getD : ∀ ns : List Int, (List.range ns.length).map (fun i => ns.getD i 0) = ns := fun ns => by
  refine List.ext_getElem (by simp) fun i h1 h2 => ?_
  simp [List.getD, List.getElem?_eq_getElem h2]
theorem mem_dd {ns : List Int} {k : Int} : k ∈ dd ns ↔ k ∈ ns := by
  have := firstMet_any (fun i => ns.getD i 0) ns.length k
  rw [range_getD] at this
  have e : ∀ l : List Int, l.any (· == k) = true ↔ k ∈ l := fun l => by simp
  rw [← e, ← e]
  unfold dd
  rw [this]
theorem dedup_nodup {l : List Int} {v : Int} (h : l.Nodup) : (step_dedup l v).Nodup := by
  unfold step_dedup
  split
  · exact h
  · rename_i q
    have hv : v ∉ l := fun z => q (by simpa using z)
    refine List.nodup_append.mpr ⟨h, by simp, fun x hx y hy e => ?_⟩
    rw [List.mem_singleton] at hy
    subst hy e
    exact hv hx
theorem dd_nodup (ns : List Int) : (dd ns).Nodup := by
  have gen : ∀ i, (firstMet (fun i => ns.getD i 0) i).Nodup := by
    intro i
    induction i with
    | zero => exact List.nodup_nil
    | succ i ih => rw [firstMet_succ]; exact dedup_nodup ih
  exact gen _
theorem nodup_len : ∀ {l m : List Int}, l.Nodup → (∀ k ∈ l, k ∈ m) → l.length ≤ m.length
  | [], m, _, _ => Nat.zero_le _
  | x :: l, m, h, s => by
    have hx : x ∈ m := s x (.head _)
    have hl := List.nodup_cons.mp h
    have := nodup_len (l := l) (m := m.erase x) hl.2 fun k hk => (List.mem_erase_of_ne fun e => hl.1 (by rw [← e]; exact hk)).mpr (s k (.tail _ hk))
    rw [List.length_erase_of_mem hx] at this
    have : 0 < m.length := List.length_pos_of_mem hx
    simp only [List.length_cons]
    omega
theorem dd_le {ns ms : List Int} (h : ∀ k ∈ ns, k ∈ ms) : (dd ns).length ≤ ms.length := nodup_len (dd_nodup ns) fun k hk => h k (mem_dd.mp hk)
theorem nodup_perm : ∀ {l m : List Int}, l.Nodup → (∀ k ∈ l, k ∈ m) → m.length ≤ l.length → l.Perm m
  | [], m, _, _, h => by
    have : m = [] := List.length_eq_zero_iff.mp (Nat.le_zero.mp h)
    subst this
    exact .nil
  | x :: l, m, h, s, z => by
    have hx : x ∈ m := s x (.head _)
    have hl := List.nodup_cons.mp h
    have := nodup_perm (l := l) (m := m.erase x) hl.2 (fun k hk => (List.mem_erase_of_ne fun e => hl.1 (by rw [← e]; exact hk)).mpr (s k (.tail _ hk))) (by rw [List.length_erase_of_mem hx]; simp only [List.length_cons] at z; omega)
    exact (List.Perm.cons x this).trans (List.perm_cons_erase hx).symm
/-- two strictly rising lists with the same members are one -/
theorem rise_one {l m : List Int} (hl : l.Pairwise (· < ·)) (hm : m.Pairwise (· < ·)) (h : ∀ k, k ∈ l ↔ k ∈ m) : l = m := by
  have nl : l.Nodup := hl.imp fun h => Int.ne_of_lt h
  have nm : m.Nodup := hm.imp fun h => Int.ne_of_lt h
  refine rising_eq (nodup_perm nl (fun k => (h k).mp) (nodup_len nm fun k => (h k).mpr)) (hl.imp Int.le_of_lt) (hm.imp Int.le_of_lt)
theorem rise_of {l : List Int} (h : l.Pairwise (· ≤ ·)) (n : l.Nodup) : l.Pairwise (· < ·) :=
  (h.and n).imp fun ⟨a, b⟩ => Int.lt_iff_le_and_ne.mpr ⟨a, b⟩
theorem ints_perm {vs us : List Value} (p : vs.Perm us) : ∀ {ks : List Int}, IntsAre us ks → ∃ js, IntsAre vs js ∧ js.Perm ks := by
  induction p with
  | nil => intro ks h; cases h; exact ⟨[], .nil, .nil⟩
  | cons x _ ih =>
    intro ks h
    cases h with
    | cons k t r =>
      obtain ⟨js, a, b⟩ := ih r
      exact ⟨k :: js, .cons k t a, b.cons k⟩
  | swap x y l =>
    intro ks h
    cases h with
    | cons k t r =>
      cases r with
      | cons k' t' r => exact ⟨k' :: k :: _, .cons k' t' (.cons k t r), .swap _ _ _⟩
  | trans _ _ i1 i2 =>
    intro ks h
    obtain ⟨js, a, b⟩ := i2 h
    obtain ⟨is, c, d⟩ := i1 a
    exact ⟨is, c, d.trans b⟩
/-! ### set(l), sorted(s) -/
def setM (ns : List Int) : Int → Bool := fun z => (dd ns).any (· == z)
def SetO (P : Program) (w : World) (a : Addr) (ns : List Int) : HO := .ext fun h => SetT P w h a (setM ns) (dd ns).length
theorem elems_ints {P : Program} {w : World} : ∀ {l : List (Int × Value)}, ElemsOf (intKind P w) l → ∃ ks, IntsAre (l.map (·.2)) ks ∧ ∀ k, k ∈ ks ↔ ∃ e ∈ l, (intKind P w).is k e.2 = true
  | [], _ => ⟨[], .nil, fun k => by simp⟩
  | e :: l, h => by
    obtain ⟨ks, a, b⟩ := elems_ints h.tail
    obtain ⟨⟨k, hk, _⟩, _⟩ := h.head
    obtain ⟨t, et⟩ : ∃ t, e.2 = Value.int k t := by
      have hk' : Value.isInt k e.2 = true := hk
      cases hv : e.2 <;> rw [hv] at hk' <;> simp [Value.isInt] at hk'
      exact ⟨_, by rw [hk']⟩
    refine ⟨k :: ks, by rw [List.map_cons, et]; exact .cons k t a, fun z => ?_⟩
    rw [List.mem_cons, b z]
    constructor
    · rintro (rfl | ⟨e', h1, h2⟩)
      · exact ⟨e, .head _, hk⟩
      · exact ⟨e', .tail _ h1, h2⟩
    · rintro ⟨e', h1, h2⟩
      rcases List.mem_cons.mp h1 with q | q
      · subst q
        exact .inl ((intKind P w).inj _ z k h2 hk)
      · exact .inr ⟨e', q, h2⟩
section
variable {X : Cx}
theorem Inv.drew {pins : List (Addr × Obj)} {σ : List (Option V)} {H : Hp} {s : Shared} {d' : Drawn} (I : Inv X pins σ H s) : Inv X pins σ H { s with drawn := d' } :=
  ⟨I.ok, I.os, I.bare, I.base, I.loc, I.cell, I.free, I.freeC, I.pin, I.hok, I.len⟩
def rSet (X : Cx) : List V → Hp → VK → Prop := fun vs H Q => ∃ (p : Addr) (ns : List Int), vs = [.ref p] ∧ SqL X.K H p (ns.map V.int) ∧ ns.length + 1 < 4096 ∧ ∀ l : Addr, H l = none → Q (.ref l) (upd H l (SetO X.prog X.w l ns))
theorem call_set (hc : X.calm = true) : CallR X (.type "set") (rSet X) := by
  rintro pins s σ H xs us Q I r ⟨p, ns, rfl, hq, hz, q⟩
  obtain ⟨u, rfl, ru⟩ := r.one
  cases (show u = Value.ref p from ru)
  obtain ⟨its, rv, pl, _⟩ := I.list hq
  have hI := intsAre_of rv
  have hlen := rv.length
  rw [List.length_map] at hlen
  have hsz : its.toArray.size = ns.length := by simpa using hlen.symm
  refine setT_call (I.ok.hd hc) pl.isList hI (by rw [hsz]; exact hz) fun h' tk x k => ?_
  rw [hsz] at x
  refine ⟨.ref s.heap.objs.size, _, I.laid (a := s.heap.objs.size) (o := SetO X.prog X.w s.heap.objs.size ns) (t' := tk) k (Nat.le_refl _) ?_, rfl, q _ (I.hok.fresh (Nat.le_refl _))⟩
  exact ⟨x, let ⟨o, _, _, _, e, _⟩ := x; ⟨o, e⟩, fun h1 h2 y k => SetT.keep y k⟩
def rSortS (X : Cx) : List V → Hp → VK → Prop := fun vs H Q => ∃ (p : Addr) (ns : List Int), vs = [.ref p] ∧ H p = some (SetO X.prog X.w p ns) ∧ (dd ns).length < 64 ∧
  ∀ (l : Addr) (rs : List Int), H l = none → rs.Pairwise (· < ·) → (∀ k, k ∈ rs ↔ k ∈ ns) → Q (.ref l) (upd H l (.lst (rs.map V.int)))
theorem call_sortedS (hc : X.calm = true) : CallR X (.builtin "sorted") (rSortS X) := by
  rintro pins s σ H xs us Q I r ⟨p, ns, rfl, hp, h64, q⟩
  obtain ⟨u, rfl, ru⟩ := r.one
  cases (show u = Value.ref p from ru)
  have x : SetT X.prog X.w s.heap p (setM ns) (dd ns).length := (show _ ∧ _ from I.hok p _ hp).1
  have hT := x.typeIs
  obtain ⟨o, es, ep, t, ho, _, hd, he, hm, hb, hf, hn, ht⟩ := x
  have y : SetAt s.heap p es ep t := ⟨⟨o, ho, hd⟩, hf⟩
  obtain ⟨ks, hks, hmem⟩ := elems_ints he
  have hkl : ks.length = (dd ns).length := by
    have := hks.length
    rw [List.length_map, Array.length_toList] at this
    omega
  have hp2 : (dd ns).Perm ks := nodup_perm (dd_nodup ns) (fun k hk => (hmem k).mpr ((hm k).mp (by unfold setM; simpa using hk))) (by omega)
  refine Calls.call_function_entry kind_sorted plain_sorted entry_sorted (args_sorted1 _) ?_
  unfold Builtin.«sorted»
  refine wpAny_bind (m := checkCount "sorted" 1 1 _) (wpAny_pure ?_)
  refine wpAny_bind (collect_set (A := X.A.in1) (I.ok.hd hc) y hT (fits_of_scanBound hb) ht fun h' tk d' acc hkp hperm => ?_)
  obtain ⟨js, hI, hjs⟩ := ints_perm hperm hks
  have hlen := hI.length
  have hjl : js.length = (dd ns).length := by rw [hjs.length_eq, hkl]
  have I1 : Inv X pins σ H { s with heap := h', toks := tk, drawn := d' } := (I.drew (d' := d')).kept (t' := tk) hkp
  refine wpAny_bind (wpAny_newList ?_)
  have hoL : (h'.push (seqObj "list" acc.toList.toArray 0)).get? h'.objs.size = some (seqObj "list" acc.toList.toArray 0) := Heap.get?_push_size _ rfl
  show wpAny _ _ _ _ _ { s with heap := h'.push (seqObj "list" acc.toList.toArray 0), toks := tk, drawn := d' }
  refine wpAny_bind (wpAny_holding (wpAny_call_entry slot_list_sort ⟨_, hoL, rfl⟩ entry_list_sort (list_sort_tree hoL hI (by omega) fun out ns' a1 a2 a3 => ⟨_, rfl, ?_⟩) (args_list_sort _)))
  refine wpAny_pure ⟨_, rfl, ?_⟩
  obtain ⟨e, he'⟩ := sortedHeap_at (out := out) hoL
  have hdd : ns'.Perm (dd ns) := a2.trans (hjs.trans hp2.symm)
  refine ⟨.ref h'.objs.size, _, I1.laid (a := h'.objs.size) (o := .lst (ns'.map V.int)) (t' := tk) (fun b o hb => ?_) (Nat.le_refl _) ?_, rfl, q _ ns' (I1.hok.fresh (Nat.le_refl _)) (rise_of a3 (hdd.nodup_iff.mpr (dd_nodup ns))) fun k => hdd.mem_iff.trans mem_dd⟩
  · have hlt := Heap.lt_size hb
    rw [sortedHeap_old (Nat.ne_of_lt hlt) (by rw [size_push']; exact Nat.lt_succ_of_lt hlt), Heap.get?_push_ne _ _ _ (Nat.ne_of_lt hlt)]
    exact hb
  · refine ⟨by rw [List.length_map, hdd.length_eq]; exact Nat.le_trans (Nat.le_of_lt h64) (by show 64 ≤ sizeLine; decide), out.toList, e, vals_ints a1, ?_⟩
    rw [he']
end
end L2
end
section
set_option Elab.async false
set_option linter.all false
set_option maxRecDepth 100000
set_option maxHeartbeats 4000000
namespace L2
open PySem PySem.Spec PyProof.Rows LX
section
variable {X : Cx} {pins : List (Addr × Obj)} {σ : St} {H : Hp} {s : Shared} {d : Addr} {kvs : List (Key × V)}
/-! ### a dict that is read only from here on -/
theorem Inv.frozen (I : Inv X pins σ H s) (hd : H d = some (.dK kvs)) : ∃ o, Inv X pins σ (upd H d (.frz o (.dK kvs))) s := by
  obtain ⟨hz, h0, vs, rel, o, es, ep, ho, r⟩ := dk_of I.hok hd
  have nn : ∀ {b : Addr}, H b = none → upd H d (.frz o (.dK kvs)) b = none := fun {b} q => by
    rw [upd_ne fun z => by rw [z, hd] at q; cases q]
    exact q
  have ns : ∀ {b : Addr} {u : HO}, H b = some u → u ≠ .dK kvs → upd H d (.frz o (.dK kvs)) b = some u := fun {b u} q n => by
    rw [upd_ne fun z => n (by rw [z, hd] at q; exact (Option.some.inj q).symm)]
    exact q
  refine ⟨o, I.ok, I.os, I.bare, ⟨I.base.keep, I.base.slot, fun b ob q n e => nn (I.base.free b ob q n e), I.base.there, fun b xs q => ns (I.base.tups b xs q) (by intro z; cases z), fun b ob u q => ns (I.base.frzs b ob u q) (by intro z; cases z), fun b ps q => ?_⟩, I.loc, I.cell, nn I.free, fun x c q => nn (I.freeC x c q), fun p hp => ?_, fun a u q => ?_, I.len⟩
  · obtain ⟨more, q'⟩ := I.base.tbls b ps q
    exact ⟨more, ns q' (by intro z; cases z)⟩
  · obtain ⟨p1, p2, p3⟩ := I.pin p hp
    exact ⟨p1, nn p2, p3⟩
  · have st : ∀ {a : Addr} {u : HO}, ObjOk X.prog X.w H s.heap a u → ObjOk X.prog X.w (upd H d (.frz o (.dK kvs))) s.heap a u := fun x => x.stay (fun _ _ _ z => z) (fun b z => ns z (by intro y; cases y)) fun b xs z => ns z (by intro y; cases y)
    by_cases e : a = d
    · subst e
      rw [upd_same] at q
      cases q
      exact ⟨ho, st (I.hok a _ hd)⟩
    · rw [upd_ne e] at q
      exact st (I.hok a u q)
/-- an expression's value, and a dict frozen after it -/
def tFrz (te : TE) : TE := fun σ H Q => te σ H fun v H1 => ∃ d kvs, H1 d = some (.dK kvs) ∧ ∀ o, Q v (upd H1 d (.frz o (.dK kvs)))
theorem pe_frz {e : Expr} {te : TE} (h : PE X e te) : PE X e (tFrz te) := by
  intro pins s σ H Q I t
  refine wpAny_mono (h pins s σ H _ I t) (fun u s1 ⟨v, H1, I1, r, q⟩ => ?_) fun _ _ z => z
  obtain ⟨d, kvs, hd, q⟩ := q
  obtain ⟨o, I2⟩ := I1.frozen hd
  exact ⟨v, _, I2, r, q o⟩
/-! ### for k in d -/
def Itd (d : Addr) (o : Obj) (kvs : List (Key × V)) : It :=
  ⟨fun i H => H d = some (.frz o (.dK kvs)) ∧ i < kvs.length, fun i H x H' => H' = H ∧ ∃ p, kvs[i]? = some p ∧ x = kV p.1, fun i H => H d = some (.frz o (.dK kvs)) ∧ kvs.length ≤ i⟩
theorem kV_rel {P : Program} {w : World} {k : Key} {u : Value} (h : (mixKind P w).is k u = true) : RelV (kV k) u := by
  have h4 : keyIs k u = true := h
  rcases keyIs_shape h4 with ⟨i, t, e1, e2⟩ | ⟨y, t, e1, e2⟩
  · subst e1 e2
    exact ⟨t, rfl⟩
  · subst e1 e2
    exact ⟨t, rfl⟩
theorem frz_at {o : Obj} (I : Inv X pins σ H s) (hd : H d = some (.frz o (.dK kvs))) {es : Array DictEntry} {ep : Nat} (eo : o.data = .dict es ep) : kvs.length ≤ sizeLine ∧ (d == sysModules) = false ∧ ∃ vs, KV kvs vs ∧ s.heap.DictAt (mixKind X.prog X.w) d vs ep := by
  obtain ⟨ho, hz, h0, vs, rel, o', es', ep', ho', c1, c2, c3⟩ := (show ObjOk X.prog X.w H s.heap d (.frz o (.dK kvs)) from I.hok d _ hd)
  have e : o' = o := Option.some.inj (ho'.symm.trans ho)
  subst e
  rw [eo] at c2
  injection c2 with e1 e2
  subst e1 e2
  exact ⟨hz, h0, vs, rel, o', es, ho', c1, eo, c3⟩
theorem frz_data {o : Obj} (I : Inv X pins σ H s) (hd : H d = some (.frz o (.dK kvs))) : ∃ es ep, o.data = .dict es ep := by
  obtain ⟨ho, hz, h0, vs, rel, o', es', ep', ho', c1, c2, c3⟩ := (show ObjOk X.prog X.w H s.heap d (.frz o (.dK kvs)) from I.hok d _ hd)
  have e : o' = o := Option.some.inj (ho'.symm.trans ho)
  subst e
  exact ⟨es', ep', c2⟩
theorem kv_get : ∀ {kvs : List (Key × V)} {vs : List (Key × Value)}, KV kvs vs → ∀ {i : Nat} {p : Key × V}, kvs[i]? = some p → ∃ x, vs[i]? = some (p.1, x)
  | _, _, .nil, _, _, h => by simp at h
  | (k, v) :: _, (k', x) :: _, .cons a r, 0, p, h => by
    have h1 : (k, v) = p := by simpa using h
    subst h1
    obtain ⟨e, _⟩ := a
    have e' : k = k' := e
    subst e'
    exact ⟨x, rfl⟩
  | _ :: _, _ :: _, .cons _ r, i + 1, p, h => by
    have := kv_get r (i := i) (p := p) (by simpa using h)
    simpa using this
theorem turn_dict {P : Program} {w : World} {K : PySem.W.Frag} {tg : Expr} (d it : Addr) (o : Obj) (kvs : List (Key × V)) (ne : d ≠ it) : Turn P w K tg (Itd d o kvs) [it] it (fun i h => ∃ es ep, o.data = .dict es ep ∧ h.IsKeyIter it d i kvs.length ep) where
  mem := by simp
  obj := fun i h st b hb => by
    have e : b = it := by simpa using hb
    subst e
    obtain ⟨es, ep, _, o, e, c, d⟩ := st
    exact ⟨o, e, fun v z => by rw [d] at z; cases z⟩
  keep := fun i h h' ⟨es, ep, eo, st⟩ k => ⟨es, ep, eo, st.at fun o e => k it (by simp) o e⟩
  item := by
    rintro X hP hw hK hc i pins s σ H E I hf ⟨es, ep, eo, st⟩ ⟨hd, hi⟩
    subst hP hw hK
    obtain ⟨hz, h0, vs, rel, hat⟩ := frz_at I hd eo
    have hl := rel.length
    obtain ⟨x, hx⟩ := kv_get rel (List.getElem?_eq_getElem hi)
    obtain ⟨f0, f1, f2, f3, f4, f5⟩ := hf it (by simp)
    rw [hl] at st
    refine wpAny_pyNext_dict_item st hat hx fun key h' hk st' sb => ?_
    have I1 : Inv X pins σ H { s with heap := h' } := I.turned (t' := s.toks) (fun b o hb e => (sb.2 b hb).trans e) f0 f1 f3 f4 f5
    exact ⟨key, rfl, letGo_keyiter (s' := { s with heap := h' }) st' ⟨kV (kvs[i]'hi).1, H, I1, kV_rel hk, ⟨rfl, _, List.getElem?_eq_getElem hi, rfl⟩, ⟨es, ep, eo, by rw [hl]; exact st'⟩, fun b hb => (hf b hb).1⟩⟩
  done := by
    rintro X hP hw hK hc i pins s σ H E I hf ⟨es, ep, eo, st⟩ ⟨hd, hi⟩
    subst hP hw hK
    obtain ⟨hz, h0, vs, rel, hat⟩ := frz_at I hd eo
    have hl := rel.length
    obtain ⟨f0, f1, f2, f3, f4, f5⟩ := hf it (by simp)
    rw [hl] at st
    exact wpAny_pyNext_dict_end (I.ok.hd hc) st hat (List.getElem?_eq_none (by omega)) fun h' eb => ⟨rfl, I.turned (t' := s.toks) (fun b o hb e => eb b o hb e) f0 f1 f3 f4 f5⟩
  self := fun _ _ _ _ _ ⟨_, _, _, st⟩ h => wpAny_pyIter_keyiter st h
def iDict (td : TE) : TI := fun σ H R => td σ H fun x H1 => ∃ d o kvs, x = .ref d ∧ H1 d = some (.frz o (.dK kvs)) ∧ R (Itd d o kvs) H1
theorem pi_dict {tg l : Expr} {tl : TE} (hl : PE X l tl) : PI X tg l (iDict tl) := by
  intro pins s σ H R I h
  refine thn (hl pins s σ H _ I h) fun v s1 ⟨x, H1, I1, r1, q1⟩ => ?_
  obtain ⟨d, o, kvs, e, hd, q⟩ := q1
  subst e
  cases r1
  obtain ⟨es, ep, eo⟩ := frz_data I1 hd
  obtain ⟨hz, h0, vs, rel, hat⟩ := frz_at I1 hd eo
  have hl := rel.length
  refine wpAny_pyIter_dict h0 hat ?_
  rw [← hl]
  refine ⟨s1.heap.objs.size, [s1.heap.objs.size], _, _, H1, rfl, I1.kept (t' := s1.toks) fun b o e => Heap.get?_push_of_some _ e, turn_dict d _ o kvs (Nat.ne_of_lt hat.lt_size), ⟨es, ep, eo, _, Heap.get?_push_size _ rfl, rfl, rfl⟩, fun b hb => ?_, q⟩
  have e : b = s1.heap.objs.size := by simpa using hb
  subst e
  exact I1.fpOk (Nat.le_refl _) (I1.hok.fresh (Nat.le_refl _))
end
/-- over a dict -/
theorem for_dict {d : Addr} {o : Obj} {kvs : List (Key × V)} {g : TG} {tb : TS} {D : Ends} {σ : St} {H : Hp} (Pv : Nat → St → Hp → Prop) (h0 : Pv 0 σ H) (hl : ∀ i σ H, i ≤ kvs.length → Pv i σ H → H d = some (.frz o (.dK kvs)))
    (hs : ∀ i p σ H, kvs[i]? = some p → Pv i σ H → g (kV p.1) σ H fun σ2 H2 => tb { D with nx := Pv (i + 1), ct := Pv (i + 1), bk := D.nx } σ2 H2) (hd : ∀ σ H, Pv kvs.length σ H → D.nx σ H) :
    ∃ W : Nat → Nat → St → Hp → Prop, (∃ m, W 0 m σ H) ∧ ∀ i m σ H, W i m σ H →
      ((Itd d o kvs).stop i H ∧ D.nx σ H) ∨ ((Itd d o kvs).go i H ∧ ∃ N : St → Hp → Prop, (∀ σ' H', N σ' H' → ∃ m', m' < m ∧ W (i + 1) m' σ' H') ∧ ∀ x H', (Itd d o kvs).yld i H x H' → g x σ H' fun σ2 H2 => tb { D with nx := N, ct := N, bk := D.nx } σ2 H2) := by
  refine ⟨fun i m σ H => m = kvs.length - i ∧ i ≤ kvs.length ∧ Pv i σ H, ⟨kvs.length, by simp, Nat.zero_le _, h0⟩, ?_⟩
  rintro i m σ H ⟨rfl, hi, p⟩
  by_cases hlt : i < kvs.length
  · refine .inr ⟨⟨hl i σ H hi p, hlt⟩, Pv (i + 1), fun σ' H' p' => ⟨kvs.length - (i + 1), by omega, rfl, hlt, p'⟩, fun x H' y => ?_⟩
    obtain ⟨e1, q, e2, e3⟩ := y
    subst e1 e3
    exact hs i q σ _ e2 p
  · have e : i = kvs.length := by omega
    subst e
    exact .inl ⟨⟨hl _ σ H hi p, Nat.le_refl _⟩, hd σ H p⟩
section
variable {X : Cx}
/-! ### len(d), sorted(d) -/
def rSortR : List V → Hp → VK → Prop := fun vs H Q => ∃ (p : Addr) (kvs : List (Key × V)) (ks : List Int), vs = [.ref p] ∧ Rd H p (.dK kvs) ∧ kvs.map (·.1) = ks.map Sum.inl ∧ ks.length < 64 ∧
  ∀ (l : Addr) (ns' : List Int), H l = none → ns'.Perm ks → ns'.Pairwise (· ≤ ·) → Q (.ref l) (upd H l (.lst (ns'.map V.int)))
theorem call_sortedR (hc : X.calm = true) : CallR X (.builtin "sorted") rSortR := by
  rintro pins s σ H xs us Q I r ⟨p, kvs, ks, rfl, hp, hk, h64, q⟩
  obtain ⟨u, rfl, ru⟩ := r.one
  cases (show u = Value.ref p from ru)
  obtain ⟨hz, hd, vs, rel, dd⟩ := dk_rd I.hok hp
  obtain ⟨ep, hat⟩ := dd.dictAt
  have hh := I.ok.hd hc
  have hl : ks.length = kvs.length := by
    have := congrArg List.length hk
    simpa using this.symm
  refine Calls.call_function_entry kind_sorted plain_sorted entry_sorted (args_sorted1 _) ?_
  unfold Builtin.«sorted»
  refine wpAny_bind (m := checkCount "sorted" 1 1 _) (wpAny_pure ?_)
  refine wpAny_bind (PySem.W.kdu_collect (A := X.A.in1) (PySem.W.kdl_dict (knd := mixKind X.prog X.w) (kvs := vs) (ep := ep) hd) hh hat (by rw [← rel.length]; exact hz) fun h' tk acc hkp hacc => ?_)
  have hI : IntsAre acc.toList ks := dict_ints (by rw [← rel.keys]; exact hk) hacc.1 hacc.2
  have hlen := hI.length
  have I1 : Inv X pins σ H { s with heap := h', toks := tk } := I.kept (t' := tk) hkp
  refine wpAny_bind (wpAny_newList ?_)
  have hoL : (h'.push (seqObj "list" acc.toList.toArray 0)).get? h'.objs.size = some (seqObj "list" acc.toList.toArray 0) := Heap.get?_push_size _ rfl
  show wpAny _ _ _ _ _ { s with heap := h'.push (seqObj "list" acc.toList.toArray 0), toks := tk }
  refine wpAny_bind (wpAny_holding (wpAny_call_entry slot_list_sort ⟨_, hoL, rfl⟩ entry_list_sort (list_sort_tree hoL hI (by omega) fun out ns' a1 a2 a3 => ⟨_, rfl, ?_⟩) (args_list_sort _)))
  refine wpAny_pure ⟨_, rfl, ?_⟩
  obtain ⟨e, he⟩ := sortedHeap_at (out := out) hoL
  refine ⟨.ref h'.objs.size, _, I1.laid (a := h'.objs.size) (o := .lst (ns'.map V.int)) (t' := tk) (fun b o hb => ?_) (Nat.le_refl _) ?_, rfl, q _ ns' (I1.hok.fresh (Nat.le_refl _)) a2 a3⟩
  · have hlt := Heap.lt_size hb
    rw [sortedHeap_old (Nat.ne_of_lt hlt) (by rw [size_push']; exact Nat.lt_succ_of_lt hlt), Heap.get?_push_ne _ _ _ (Nat.ne_of_lt hlt)]
    exact hb
  · refine ⟨by rw [List.length_map, a2.length_eq, hl]; exact hz, out.toList, e, vals_ints a1, ?_⟩
    rw [he]
end
end L2
end
section
set_option Elab.async false
set_option linter.all false
set_option maxRecDepth 100000
set_option maxHeartbeats 4000000
namespace L2
open PySem PySem.Spec PyProof.Rows LX
/-! ### == of two dicts, of two tuples of a list and a dict -/
theorem pairs_any {P P' : Program} {w w' : World} : ∀ {es : List DictEntry} {kvs : List (Key × Value)}, Pairs (mixKind P w) es kvs → Pairs (mixKind P' w') es kvs
  | _, _, .nil => .nil
  | _, _, .cons a b r => .cons a b (pairs_any r)
theorem pairs_key {P : Program} {w : World} : ∀ {es : List DictEntry} {kvs : List (Key × Value)}, Pairs (mixKind P w) es kvs → ∀ e ∈ es, ∃ kv ∈ kvs, keyIs kv.1 e.key = true
  | _, _, .nil, _, h => nomatch h
  | _, _, .cons (kv := kv) a b r, e, h => by
    rcases List.mem_cons.mp h with z | z
    · subst z
      exact ⟨kv, List.mem_cons_self .., a⟩
    · obtain ⟨kv', h1, h2⟩ := pairs_key r e z
      exact ⟨kv', List.mem_cons_of_mem _ h1, h2⟩
theorem dict_any {P P' : Program} {w w' : World} {h : Heap} {a : Addr} {kvs : List (Key × Value)} (x : h.DictOf (mixKind P w) a kvs) (hi : ∀ p ∈ kvs, ∃ i, p.1 = Sum.inl i) : h.DictOf (mixKind P' w') a kvs := by
  obtain ⟨o, es, ep, h1, h2, h3, h4, h5, h6⟩ := x
  have h4' : ∀ e ∈ es, ∃ k, keyIs k e.key = true ∧ e.hash = keyH w k := h4
  refine ⟨o, es, ep, h1, h2, h3, fun e he => ?_, pairs_any h5, h6⟩
  obtain ⟨k, g1, g2⟩ := h4' e he
  obtain ⟨kv, g3, g4⟩ := pairs_key h5 e (by simpa using he)
  obtain ⟨i, ei⟩ := hi kv g3
  have ek : k = kv.1 := (mixKind P w).inj _ _ _ g1 g4
  rw [ei] at ek
  subst ek
  exact ⟨.inl i, g1, g2⟩
theorem hits_all {A : Around} {s : Shared} {kb : List (Key × Value)} : ∀ {ka : List (Key × Value)}, (∀ p ∈ ka, ∃ y, valueAt kb p.1 = some y ∧ SeqAt.EqAt A s p.2 y true) → PySem.W.KeqHits A s kb ka true
  | [], _ => .nil
  | (k, v) :: r, h => by
    obtain ⟨y, e1, e2⟩ := h (k, v) (List.mem_cons_self ..)
    exact .hit (e := true) (b := true) e1 e2 (hits_all fun p hp => h p (List.mem_cons_of_mem _ hp))
theorem kv_mem : ∀ {kvs : List (Key × V)} {vs : List (Key × Value)}, KV kvs vs → ∀ q ∈ vs, ∃ p ∈ kvs, p.1 = q.1 ∧ RelV p.2 q.2
  | _, _, .nil, _, h => nomatch h
  | p :: _, q :: _, .cons a r, q', h => by
    rcases List.mem_cons.mp h with e | h
    · subst e
      exact ⟨p, List.mem_cons_self .., a⟩
    · obtain ⟨p', h1, h2⟩ := kv_mem r q' h
      exact ⟨p', List.mem_cons_of_mem _ h1, h2⟩
theorem ki {kvs : List (Key × V)} {vs : List (Key × Value)} (r : KV kvs vs) (hi : ∀ p ∈ kvs, ∃ i, p.1 = Sum.inl i) : ∀ q ∈ vs, ∃ i, q.1 = Sum.inl i := fun q hq => by
  obtain ⟨p, h1, h2, _⟩ := kv_mem r q hq
  obtain ⟨i, e⟩ := hi p h1
  exact ⟨i, by rw [← h2, e]⟩
section
variable {X : Cx} {pins : List (Addr × Obj)} {σ : St} {H : Hp} {s : Shared}
theorem eqAt_dict (I : Inv X pins σ H s) {A : Around} {n : Nat} {a b : Addr} {kvs kvs' : List (Key × V)} (ha : Rd H a (.dK kvs)) (hb : Rd H b (.dK kvs')) (hl : kvs.length = kvs'.length) (hi : ∀ p ∈ kvs, ∃ i, p.1 = Sum.inl i) (hj : ∀ p ∈ kvs', ∃ i, p.1 = Sum.inl i) (hd : ∀ p ∈ kvs, ∃ y, valV kvs' p.1 = some y ∧ Deep X.K H n p.2 y) (hu : A.units + n + 1 < cLine) : SeqAt.EqAt A s (.ref a) (.ref b) true := by
  by_cases e : a = b
  · subst e
    exact SeqAt.EqAt.same _
  · refine SeqAt.EqAt.of_refs e fun prog w E Q h => ?_
    obtain ⟨_, h1, vs, r1, d1⟩ := dk_rd I.hok ha
    obtain ⟨_, h2, us, r2, d2⟩ := dk_rd I.hok hb
    have l1 := r1.length
    have l2 := r2.length
    refine PySem.W.keq_eq (knd := mixKind prog w) (r := true) h1 h2 (dict_any d1 fun q hq => ki r1 hi q hq) (dict_any d2 fun q hq => ki r2 hj q hq) (by omega) (fun _ => hits_all fun q hq => ?_) ?_
    · obtain ⟨p, hp, e1, rp⟩ := kv_mem r1 q hq
      obtain ⟨y, hy, dp⟩ := hd p hp
      have rv := r2.val p.1
      rw [hy] at rv
      rw [← e1]
      cases hu' : valueAt us p.1 with
      | none =>
        rw [hu'] at rv
        exact absurd rv (by intro z; cases z)
      | some u =>
        rw [hu'] at rv
        exact ⟨u, rfl, dp.eqAt I rp (by first | exact rv | simpa using rv) (by rw [Around.in1_units]; omega)⟩
    · have e : (vs.length == us.length && true) = true := by simp; omega
      rw [e]
      exact h
end
end L2
end
section
set_option Elab.async false
set_option linter.all false
set_option maxRecDepth 100000
set_option maxHeartbeats 4000000
namespace L2
open PySem PySem.Spec PyProof.Rows LX
/-! ### != of two lists of numbers, of any lengths -/
theorem eqAll_ints : ∀ {ms ns : List Int}, ms.length = ns.length → eqAll (ms.map V.int) (ns.map V.int) = decide (ms = ns) := by
  intro ms ns hl
  rw [Bool.eq_iff_iff, decide_eq_true_eq]
  unfold eqAll
  rw [List.all_eq_true]
  constructor
  · intro h
    refine List.ext_getElem hl fun j h1 h2 => ?_
    have := h j (by rw [List.length_map]; exact List.mem_range.mpr h1)
    simpa [List.getD, h1, h2, eqV] using this
  · rintro rfl j hj
    rw [List.length_map] at hj
    have hj := List.mem_range.mp hj
    simp [List.getD, hj, eqV]
theorem flat_ints (ns : List Int) : (ns.map V.int).all flatV = true := by simp [flatV]
def rNeI (K : PySem.W.Frag) : R2 := fun x y H Q => ∃ a b, ∃ ms ns : List Int, x = .ref a ∧ y = .ref b ∧ SqL K H a (ms.map V.int) ∧ SqL K H b (ns.map V.int) ∧ Q (.bl (!decide (ms = ns))) H
theorem op_neI {X : Cx} (hu : X.A.units < cLine) : OpR X (compareOp .NotEq) (rNeI X.K) := by
  rintro pins s σ H x y v u Q I rx ry ⟨a, b, ms, ns, rfl, rfl, ha, hb, q⟩
  by_cases hl : ms.length = ns.length
  · refine op_neL hu pins s σ H _ _ v u Q I rx ry ⟨a, b, _, _, rfl, rfl, ha, hb, by simpa using hl, flat_ints _, flat_ints _, ?_⟩
    rw [eqAll_ints hl]
    exact q
  · cases rx
    cases ry
    obtain ⟨vs, r1, ⟨o1, n1, e1, c1, _, g1⟩, _⟩ := I.list ha
    obtain ⟨ws, r2, ⟨o2, n2, e2, c2, _, g2⟩, _⟩ := I.list hb
    have l1 := r1.length
    have l2 := r2.length
    rw [List.length_map] at l1 l2
    refine SeqAt.RcNeAt.lists_lengths ⟨o1, e1, c1, n1, g1⟩ ⟨o2, e2, c2, n2, g2⟩ (by simp; omega) hu _ _ _ _ ⟨.bl true, H, I, rfl, ?_⟩
    have e : (!decide (ms = ns)) = true := by
      rw [decide_eq_false fun z => hl (by rw [z])]
      rfl
    rw [e] at q
    exact q
section
variable {X : Cx}
/-! ### l.insert(i, y) -/
theorem vals_two : ∀ {x y : V} {us : List Value}, Vals [x, y] us → ∃ u v, us = [u, v] ∧ RelV x u ∧ RelV y v
  | _, _, _, .cons a (.cons b .nil) => ⟨_, _, rfl, a, b⟩
/-! ### e[::-1] -/
end
end L2
end
section
set_option Elab.async false
set_option linter.all false
set_option maxRecDepth 100000
set_option maxHeartbeats 4000000
namespace L2
open PySem PySem.Spec PyProof.Rows LX
section
variable {X : Cx}
/-! ### list(d), d a dict whose keys are numbers -/
def rListR : List V → Hp → VK → Prop := fun vs H Q => ∃ (p : Addr) (kvs : List (Key × V)) (ks : List Int), vs = [.ref p] ∧ Rd H p (.dK kvs) ∧ kvs.map (·.1) = ks.map Sum.inl ∧ ∀ l : Addr, H l = none → Q (.ref l) (upd H l (.lst (ks.map V.int)))
theorem call_listR (hc : X.calm = true) : CallR X (.type "list") rListR := by
  rintro pins s σ H xs us Q I r ⟨p, kvs, ks, rfl, hp, hk, q⟩
  obtain ⟨u, rfl, ru⟩ := r.one
  cases (show u = Value.ref p from ru)
  obtain ⟨hz, hd, vs, rel, dd⟩ := dk_rd I.hok hp
  obtain ⟨ep, hat⟩ := dd.dictAt
  have hl : ks.length = kvs.length := by
    have := congrArg List.length hk
    simpa using this.symm
  refine PySem.W.kdl_call (PySem.W.kdl_dict (knd := mixKind X.prog X.w) (kvs := vs) (ep := ep) hd) (I.ok.hd hc) hat (by rw [← rel.length]; exact hz) fun h' tk acc c hkp hS hacc => ?_
  have hI : IntsAre acc.toList ks := dict_ints (by rw [← rel.keys]; exact hk) hacc.1 hacc.2
  refine ⟨.ref s.heap.objs.size, _, I.laid (a := s.heap.objs.size) (o := .lst (ks.map V.int)) (t' := tk) hkp (Nat.le_refl _) ?_, rfl, q _ (I.hok.fresh (Nat.le_refl _))⟩
  refine ⟨by rw [List.length_map, hl]; exact hz, acc.toList, c, vals_ints hI, ?_⟩
  rw [hS]
/-! ### != of two tuples of a list and a dict that are the same -/
def rNeVw (K : PySem.W.Frag) (n : Nat) : R2 := fun x y H Q => ∃ a b r d r' d' kvs kvs', x = .ref a ∧ y = .ref b ∧ SqT K H a [.ref r, .ref d] ∧ SqT K H b [.ref r', .ref d'] ∧ Deep K H n (.ref r) (.ref r') ∧ Rd H d (.dK kvs) ∧ Rd H d' (.dK kvs') ∧ kvs.length = kvs'.length ∧ (∀ p ∈ kvs, ∃ i, p.1 = Sum.inl i) ∧ (∀ p ∈ kvs', ∃ i, p.1 = Sum.inl i) ∧ (∀ p ∈ kvs, ∃ y, valV kvs' p.1 = some y ∧ Deep K H n p.2 y) ∧ Q (.bl false) H
theorem op_neVw {n : Nat} (hu : X.A.units + n + 2 < cLine) : OpR X (compareOp .NotEq) (rNeVw X.K n) := by
  rintro pins s σ H x y v u Q I rx ry ⟨a, b, r, d, r', d', kvs, kvs', rfl, rfl, ha, hb, h1, h2, h3, h4, h6, h7, h5, q⟩
  cases rx
  cases ry
  obtain ⟨vs, r1, t1, _⟩ := I.tuple ha
  obtain ⟨ws, r2, t2, _⟩ := I.tuple hb
  cases r1 with
  | cons x1 xr =>
    cases xr with
    | cons x2 xr =>
      cases xr
      cases r2 with
      | cons y1 yr =>
        cases yr with
        | cons y2 yr =>
          cases yr
          cases x2
          cases y2
          refine SeqAt.RcNeAt.tuples (e := fun _ => true) t1 t2 (by omega) (fun j g1 g2 => ?_) _ _ _ _ ⟨.bl false, H, I, by simp [RelV], q⟩
          match j, g1, g2 with
          | 0, _, _ => exact h1.eqAt I x1 y1 (by rw [Around.in1_units]; omega)
          | 1, _, _ => exact eqAt_dict I h2 h3 h4 h6 h7 h5 (by rw [Around.in1_units]; omega)
          | j + 2, g1, _ => exact absurd (show j + 2 < 2 from g1) (by omega)
end
end L2
end
section
set_option Elab.async false
set_option linter.all false
set_option maxRecDepth 100000
set_option maxHeartbeats 4000000
namespace L2
open PySem PySem.Spec PyProof.Rows LX
section
variable {X : Cx}
/-! ### dict(d) -/
end
/-! ### a comprehension with a test over a dict -/
end L2
end
section
set_option Elab.async false
set_option linter.all false
set_option maxRecDepth 100000
set_option maxHeartbeats 4000000
namespace L2
open PySem PySem.Spec PyProof.Rows LX
theorem list_keys_none : typeLookup (Value.type "list") (Str.ofString "keys") = pure none := am_miss_of_fast (by decide +kernel)
theorem list_getattr_none : typeLookup (Value.type "list") (Str.ofString "__getattr__") = pure none := am_miss_of_fast (by decide +kernel)
section
variable {P : Program} {w : World} {A : Around} {E : Value → Shared → Prop}
theorem ga_miss {h : Heap} {g : Array GenState} {d : Drawn} {t : Nat} {os : OsState} {a : Addr} {its : Array Value} {n : Nat} {u : Tok} {Q : PySem.Fin → Shared → Prop} (hx : h.get? a = some { cls := .type "list", data := .seq its n }) (hA : A.handled = none)
    (q : ∀ (h' : Heap) (tk : Nat) (e : Addr), h.NewAttrErr h' e (.ref a) (Str.ofString "keys") → E (.ref e) { heap := h', gens := g, drawn := d, toks := tk, os := os }) :
    wpAny (model P w) A (Builtin.«object.__getattribute__» { pos := [.ref a, .str (Str.ofString "keys") u] }) Q E { heap := h, gens := g, drawn := d, toks := t, os := os } := by
  have hT : Shared.TypeIs { heap := h, gens := g, drawn := d, toks := t, os := os } (.ref a) "list" := ⟨_, hx, rfl⟩
  have f1 := list_keys_none
  unfold Builtin.«object.__getattribute__»
  wp_walk
  exact wpAny_raiseAttrError hA q (by decide +kernel)
theorem keys_miss {h : Heap} {g : Array GenState} {d : Drawn} {t : Nat} {os : OsState} {a : Addr} {its : Array Value} {n : Nat} {Q : Option Value → Shared → Prop} (hx : h.get? a = some { cls := .type "list", data := .seq its n }) (hA : A.handled = none)
    (q : ∀ (h' : Heap) (tk : Nat), (∀ b o, h.get? b = some o → h'.get? b = some o) → Q none { heap := h', gens := g, drawn := d, toks := tk, os := os }) :
    wpAny (model P w) A (getAttr? (.ref a) (Str.ofString "keys")) Q E { heap := h, gens := g, drawn := d, toks := t, os := os } := by
  have hT : ∀ t, Shared.TypeIs { heap := h, gens := g, drawn := d, toks := t, os := os } (.ref a) "list" := fun _ => ⟨_, hx, rfl⟩
  have hT0 := hT t
  have hT1 := hT (t + 1)
  have f2 := PySem.F.slot_list_getattribute.lookup
  have f3 := PySem.F.slot_list_getattribute.bind (Value.ref a)
  have f5 := list_getattr_none
  have f1 := sub_AttributeError
  unfold getAttr? getAttrBy?
  wp_walk
  refine codeAny_call_builtin PySem.F.slot_list_getattribute.plain PySem.F.entry_list_ga (PySem.F.slot_list_getattribute.check _ _ _ _ (Value.ref a) [Value.str (Str.ofString "keys") t] [] _ hT1 (PySem.F.args_list_getattribute_2 _ _) (ga_miss hx (by simp [hA]) fun h' tk e he => ?_))
  obtain ⟨t', u', hg⟩ := he.there
  have hTe : Shared.TypeIs { heap := h', gens := g, drawn := d, toks := tk, os := os } (.ref e) "AttributeError" := ⟨_, hg, rfl⟩
  have q' := q h' tk he.keeps
  show wpAny _ _ (getattributeRaised _ _ _ _ _ _ _) _ _ _
  unfold getattributeRaised
  wp_walk
  all_goals exact q'
end
theorem entry_dul : entryFor table "dict.update.loop" = some Builtin.«dict.update.loop» := entryFor_of_tree (by rfl)
theorem plain_dul : plainId "dict.update.loop" = true := by decide +kernel
section
variable {P : Program} {w : World} {A : Around} {R : Result → Shared → Prop} {KK : Type} [DecidableEq KK] {knd : KeyKind P w KK}
theorem stored_new {kvs : List (KK × Value)} {k : KK} {v : Value} (h : k ∉ kvs.map (·.1)) : stored kvs k v = kvs ++ [(k, v)] := by
  rw [stored.eq_1, if_neg]
  intro z
  obtain ⟨p, hp, e⟩ := List.any_eq_true.mp z
  exact h (List.mem_map.mpr ⟨p, hp, of_decide_eq_true e⟩)
theorem dict_keep {h h' : Heap} {D : Addr} {kvs : List (KK × Value)} (d : Heap.DictOf knd h D kvs) (k : ∀ o, h.get? D = some o → h'.get? D = some o) : Heap.DictOf knd h' D kvs := by
  obtain ⟨o, es, ep, h1, h2⟩ := d
  exact ⟨o, es, ep, k o h1, h2⟩
theorem dictP_loop {I l D : Addr} {items : Array Value} (hA : A.in1.handled = none) (hne : l ≠ I) (hDI : D ≠ I) (hDl : D ≠ l) (kv : List (KK × Value)) (hn : kv.length = items.size) (nd : (kv.map (·.1)).Nodup) (hz : kv.length ≤ sizeLine) :
    ∀ (k i : Nat) (s : Shared), items.size - i = k → i ≤ items.size → (s.heap.IsListIter I l i ∧ s.heap.IsList l items) → Heap.DictOf knd s.heap D (kv.take i) →
    (∀ j (hj : j < kv.length), ∃ (b : Addr) (o : Obj) (kx : Value) (n : Nat), items[j]? = some (.ref b) ∧ s.heap.get? b = some o ∧ o.cls = .type "tuple" ∧ o.data = .seq #[kx, kv[j].2] n ∧ knd.is kv[j].1 kx = true ∧ b ≠ D ∧ b ≠ I) →
    (∀ (h' : Heap) (tk : Nat), Heap.DictOf knd h' D kv → (∀ b o, b ≠ D → b ≠ I → s.heap.get? b = some o → h'.get? b = some o) → R (.ok (.ret .none)) { s with heap := h', toks := tk }) →
    codeAny (model P w) A (.builtin "dict.update.loop" ⟨[.ref D, .ref I, .int (i : Int) 0, .none], []⟩) R s := by
  have W := Walks.list (prog := P) (w := w) hA I l hne items
  intro k
  induction k with
  | zero =>
    intro i s hk hi st hS ht q
    have e : i = items.size := by omega
    subst e
    refine codeAny_builtin entry_dul ?_
    rw [Around.under_plainId plain_dul _]
    show wpAny _ A.in1 (pyNext (.ref I) >>= _) _ _ s
    refine wpAny_bind (W.done s _ _ st fun h' tk hm => ?_)
    rw [← hn, List.take_of_length_le (Nat.le_refl _)] at hS
    wp_walk
    exact q h' tk (dict_keep hS fun o z => hm D o (by simpa using hDI) z) fun b o _ nb z => hm b o (by simpa using nb) z
  | succ k ih =>
    intro i s hk hi st hS ht q
    have hlt : i < items.size := by omega
    refine codeAny_builtin entry_dul ?_
    rw [Around.under_plainId plain_dul _]
    show wpAny _ A.in1 (pyNext (.ref I) >>= _) _ _ s
    refine wpAny_bind (W.item i s _ _ hlt st fun v h' tk hP st' hm => ?_)
    obtain ⟨b, o, kx, n, hb, ho, hc, hd, hk1, nb1, nb2⟩ := ht i (by omega)
    have hv : v = .ref b := by
      have hP : items[i]? = some v := hP
      rw [hb] at hP
      exact (Option.some.inj hP).symm
    subst hv
    have ho' := hm b o (by simpa using nb2) ho
    have hT : Shared.TypeIs { s with heap := h', toks := tk } (.ref b) "tuple" := ⟨_, ho', hc⟩
    show wpAny _ A.in1 (holding [Value.ref b] _ >>= _) _ _ _
    refine wpAny_bind (wpAny_holding (wpAny_bind (wpAny_tryCatch ?_)))
    unfold Builtin.Dict.pairItems
    refine wpAny_bind (wpAny_typeOf hT ?_)
    rw [if_pos (by decide)]
    refine wpAny_bind (wpAny_seqItems ho' hd (wpAny_pure ?_))
    show wpAny _ A.in1 (holding [kx, kv[i].2] (dictSet D kx kv[i].2)) _ _ _
    have hS' := dict_keep (h' := h') hS fun o z => hm D o (by simpa using hDI) z
    have hi' : i < kv.length := by omega
    have tk1 : kv.take (i + 1) = kv.take i ++ [kv[i]] := List.take_succ_eq_append_getElem hi'
    have nk : kv[i].1 ∉ (kv.take i).map (·.1) := fun g => by
      have h1 : ((kv.take i).map (·.1) ++ [kv[i].1]).Nodup := by
        have e9 : (kv.take (i + 1)).map (·.1) = (kv.take i).map (·.1) ++ [kv[i].1] := by
          rw [tk1, List.map_append]; rfl
        rw [← e9]
        exact ((List.take_sublist _ _).map _).nodup nd
      exact (List.nodup_append.mp h1).2.2 _ g _ (List.mem_singleton.mpr rfl) rfl
    refine wpAny_holding (wpAny_dictSet_pairs hk1 hS' (fun h2 dd sb => ?_) (by rw [List.length_take]; omega))
    rw [stored_new nk, show kv.take i ++ [(kv[i].1, kv[i].2)] = kv.take (i + 1) from tk1.symm] at dd
    refine wpAny_pure ⟨plainId_quiet plain_dul _, ?_⟩
    show codeAny (model P w) A (.builtin "dict.update.loop" ⟨[.ref D, .ref I, .int ((i + 1 : Nat) : Int) 0, .none], []⟩) R _
    have keep : ∀ b o, b ≠ D → b ≠ I → s.heap.get? b = some o → h2.get? b = some o := fun b o n1 n2 z => (sb.2 b n1).trans (hm b o (by simpa using n2) z)
    refine ih (i + 1) _ (by omega) hlt (W.frame _ h' h2 st' fun b hb' o z => ?_) dd (fun j hj => ?_) fun h3 tk3 d3 k3 => q h3 tk3 d3 fun b o n1 n2 z => k3 b o n1 n2 (keep b o n1 n2 z)
    · rw [sb.2 b (fun e : b = D => ?_)]
      · exact z
      · rw [e] at hb'
        rcases List.mem_cons.mp hb' with g | g
        · exact hDI g
        · exact hDl (List.mem_singleton.mp g)
    · obtain ⟨b, o, kx, n, x1, x2, x3, x4, x5, x6, x7⟩ := ht j hj
      exact ⟨b, o, kx, n, x1, keep b o x6 x7 x2, x3, x4, x5, x6, x7⟩
end
section
variable {P : Program} {w : World} {A : Around} {E : Value → Shared → Prop} {KK : Type} [DecidableEq KK] {knd : KeyKind P w KK}
theorem dictP_call {s : Shared} {l : Addr} {items : Array Value} {nl : Nat} {Q : Value → Shared → Prop} (hA : A.handled = none) (hl : s.heap.get? l = some { cls := .type "list", data := .seq items nl }) (kv : List (KK × Value)) (hn : kv.length = items.size) (nd : (kv.map (·.1)).Nodup) (hz : kv.length ≤ sizeLine)
    (ht : ∀ j (hj : j < kv.length), ∃ (b : Addr) (o : Obj) (kx : Value) (n : Nat), items[j]? = some (.ref b) ∧ s.heap.get? b = some o ∧ o.cls = .type "tuple" ∧ o.data = .seq #[kx, kv[j].2] n ∧ knd.is kv[j].1 kx = true)
    (q : ∀ (h' : Heap) (tk : Nat), Heap.DictOf knd h' s.heap.objs.size kv → (∀ b o, s.heap.get? b = some o → h'.get? b = some o) → Q (.ref s.heap.objs.size) { s with heap := h', toks := tk }) :
    wpAny (model P w) A (call (.type "dict") [.ref l]) Q E s := by
  obtain ⟨h0, g, d, t, os⟩ := s
  dsimp only at hl ht q
  refine callType_codes PySem.F.kt_called_dict (PySem.F.kt_typeCall_dict_1 _) PySem.F.entry_dict_init (kt_code_dict_new (Q₁ := fun v u => v = .ref h0.objs.size ∧ u = { heap := h0.push { cls := .type "dict", data := .dict #[] }, gens := g, drawn := d, toks := t, os := os }) _ ⟨rfl, rfl⟩) fun obj s1 ⟨e1, e2⟩ => ?_
  subst e1 e2
  have hnew := Heap.DictOf.new (knd := knd) h0
  have hp : ∀ b o, h0.get? b = some o → (h0.push { cls := .type "dict", data := .dict #[] }).get? b = some o := fun b o z => Heap.get?_push_of_some _ z
  have hT := hnew.typeIs (s := { heap := h0.push { cls := .type "dict", data := .dict #[] }, gens := g, drawn := d, toks := t, os := os })
  have hTl : Shared.TypeIs { heap := h0.push { cls := .type "dict", data := .dict #[] }, gens := g, drawn := d, toks := t, os := os } (.ref l) "list" := ⟨_, hp _ _ hl, rfl⟩
  refine ⟨hT, PySem.F.args_dict_init_2 _ _, ?_⟩
  unfold Builtin.«dict.__init__» Builtin.Dict.selfAndRest
  refine wpAny_bind (wpAny_bind (wpAny_notOrdered_dict hT ?_))
  show wpAny _ _ (pure _) _ _ _
  refine wpAny_pure ?_
  show wpAny _ _ (Builtin.Dict.updateFrom _ _ _ _ _) _ _ _
  unfold Builtin.Dict.updateFrom
  refine wpAny_bind (wpAny_typeOf hTl ?_)
  dsimp only
  rw [if_pos (by decide)]
  refine wpAny_bind (keys_miss (hp _ _ hl) (by simp [hA]) fun h1 tk1 k1 => ?_)
  try dsimp only
  rw [if_pos (show (none : Option Value).isNone = true from rfl)]
  refine wpAny_bind (wpAny_rule ?_)
  have hl1 : h1.IsList l items := ⟨_, k1 _ _ (hp _ _ hl), rfl, _, rfl⟩
  refine wpAny_bind (wpAny_pyIter_list hl1 ?_)
  refine wpAny_pure ⟨plainId_quiet plain_dul _, ?_⟩
  have l0 : l < h0.objs.size := Heap.lt_size hl
  obtain ⟨oD, esD, epD, gD, restD⟩ := hnew
  have gD1 := k1 _ _ gD
  have s1 : h0.objs.size < h1.objs.size := Heap.lt_size gD1
  have up : ∀ b o, h0.get? b = some o → (h1.push { cls := Value.type "list_iterator", data := Data.fields #[Value.ref l, Value.int 0 0] }).get? b = some o := fun b o z => Heap.get?_push_of_some _ (k1 _ _ (hp _ _ z))
  refine dictP_loop (knd := knd) (I := h1.objs.size) (l := l) (D := h0.objs.size) (items := items) (by simp [hA]) (Nat.ne_of_lt (Nat.lt_trans l0 s1)) (Nat.ne_of_lt s1) (Nat.ne_of_gt l0) kv hn nd hz (items.size - 0) 0 _ rfl (Nat.zero_le _) ⟨⟨_, Heap.get?_push_size _ rfl, rfl, rfl⟩, hl1.push _⟩ ?_ (fun j hj => ?_) fun h' tk dd kk => ?_
  · exact ⟨oD, esD, epD, Heap.get?_push_of_some _ gD1, restD⟩
  · obtain ⟨b, o, kx, n, x1, x2, x3, x4, x5⟩ := ht j hj
    have b0 := Heap.lt_size x2
    exact ⟨b, o, kx, n, x1, up _ _ x2, x3, x4, x5, Nat.ne_of_lt b0, Nat.ne_of_lt (Nat.lt_trans b0 s1)⟩
  · refine ⟨rfl, q h' tk dd fun b o z => ?_⟩
    have b0 := Heap.lt_size z
    exact kk b o (Nat.ne_of_lt b0) (Nat.ne_of_lt (Nat.lt_trans b0 s1)) (up _ _ z)
end
section
variable {P : Program} {w : World} {A : Around} {E : Value → Shared → Prop}
end
end L2
end
section
set_option Elab.async false
set_option linter.all false
set_option maxRecDepth 100000
set_option maxHeartbeats 4000000
namespace L2
open PySem PySem.Spec PyProof.Rows LX
section
variable {X : Cx}
/-! ### dict([(k, v), ..]) -/
theorem pairs_of {pins : List (Addr × Obj)} {σ : St} {H : Hp} {s : Shared} (I : Inv X pins σ H s) : ∀ (xs : List Addr) (kvs : List (Key × V)), Paired (fun x (p : Key × V) => H x = some (.tup [kV p.1, p.2])) xs kvs →
    ∃ vs : List (Key × Value), KV kvs vs ∧ vs.map (·.1) = kvs.map (·.1) ∧ vs.length = xs.length ∧ ∀ j (h1 : j < vs.length) (h2 : j < xs.length), ∃ (o : Obj) (kx : Value) (n : Nat), s.heap.get? xs[j] = some o ∧ o.cls = .type "tuple" ∧ o.data = .seq #[kx, vs[j].2] n ∧ (mixKind X.prog X.w).is vs[j].1 kx = true
  | _, _, .nil => ⟨[], .nil, rfl, rfl, fun j h => absurd h (Nat.not_lt_zero _)⟩
  | x :: xs, p :: kvs, .cons h t => by
    obtain ⟨vs, r1, r2, r3, r4⟩ := pairs_of I xs kvs t
    obtain ⟨its, rv, ⟨o, ho, hc, n, hd⟩, _⟩ := I.tuple (SqT.of h)
    obtain ⟨u, v, rfl, ru, rv'⟩ := vals_two rv
    refine ⟨(p.1, v) :: vs, .cons ⟨rfl, rv'⟩ r1, by rw [List.map_cons, List.map_cons, r2], by rw [List.length_cons, List.length_cons, r3], fun j h1 h2 => ?_⟩
    cases j with
    | zero => exact ⟨o, u, n, ho, hc, hd, kV_is ru⟩
    | succ j => exact r4 j (Nat.lt_of_succ_lt_succ h1) (Nat.lt_of_succ_lt_succ h2)
theorem refs_are : ∀ {xs : List Addr} {its : List Value}, Vals (xs.map V.ref) its → its = xs.map Value.ref
  | [], _, .nil => rfl
  | x :: xs, _, .cons r t => by
    cases (show _ = Value.ref x from r)
    rw [List.map_cons, ← refs_are t]
def rDictP : List V → Hp → VK → Prop := fun vs H Q => ∃ (p : Addr) (xs : List Addr) (kvs : List (Key × V)), vs = [.ref p] ∧ H p = some (.lst (xs.map V.ref)) ∧ Paired (fun x (p : Key × V) => H x = some (.tup [kV p.1, p.2])) xs kvs ∧ (kvs.map (·.1)).Nodup ∧ ∀ l : Addr, H l = none → Q (.ref l) (upd H l (.dK kvs))
theorem call_dictP (hc : X.calm = true) : CallR X (.type "dict") rDictP := by
  rintro pins s σ H xs us Q I r ⟨p, xs, kvs, rfl, hp, hpr, nd, q⟩
  obtain ⟨u, rfl, ru⟩ := r.one
  cases (show u = Value.ref p from ru)
  obtain ⟨its, n, rv, ho, hz⟩ := I.lst hp
  obtain ⟨vs, r1, r2, r3, r4⟩ := pairs_of I xs kvs hpr
  have ei := refs_are rv
  subst ei
  rw [List.length_map] at hz
  have hl : kvs.length = vs.length := by
    have := congrArg List.length r2
    simpa using this.symm
  refine dictP_call (knd := mixKind X.prog X.w) (I.ok.hd hc) ho vs (by simp [r3]) (by rw [r2]; exact nd) (by omega) (fun j hj => ?_) fun h' tk dd k => ?_
  · obtain ⟨o, kx, n, x1, x2, x3, x4⟩ := r4 j hj (by omega)
    exact ⟨xs[j], o, kx, n, by simp [show j < xs.length by omega], x1, x2, x3, x4⟩
  · refine ⟨.ref s.heap.objs.size, _, I.laid (a := s.heap.objs.size) (o := .dK kvs) (t' := tk) k (Nat.le_refl _) ?_, rfl, q _ (I.hok.fresh (Nat.le_refl _))⟩
    exact dk_new (by omega) (beq_eq_false_iff_ne.mpr (Ne.symm (Nat.ne_of_lt I.big))) r1 dd
/-! ### list(reversed(l)) -/
/-! ### == of two lists of numbers, of any lengths -/
def rEqI (K : PySem.W.Frag) : R2 := fun x y H Q => ∃ a b, ∃ ms ns : List Int, x = .ref a ∧ y = .ref b ∧ SqL K H a (ms.map V.int) ∧ SqL K H b (ns.map V.int) ∧ Q (.bl (decide (ms = ns))) H
theorem op_eqI (hu : X.A.units < cLine) : OpR X (compareOp .Eq) (rEqI X.K) := by
  rintro pins s σ H x y v u Q I rx ry ⟨a, b, ms, ns, rfl, rfl, ha, hb, q⟩
  by_cases hl : ms.length = ns.length
  · refine op_eqL hu pins s σ H _ _ v u Q I rx ry ⟨a, b, _, _, rfl, rfl, ha, hb, by simpa using hl, flat_ints _, flat_ints _, ?_⟩
    rw [eqAll_ints hl]
    exact q
  · cases rx
    cases ry
    obtain ⟨vs, r1, ⟨o1, n1, e1, c1, _, g1⟩, _⟩ := I.list ha
    obtain ⟨ws, r2, ⟨o2, n2, e2, c2, _, g2⟩, _⟩ := I.list hb
    have l1 := r1.length
    have l2 := r2.length
    rw [List.length_map] at l1 l2
    refine SeqAt.eq_list_lengthsAt ⟨o1, e1, c1, n1, g1⟩ ⟨o2, e2, c2, n2, g2⟩ (by simp only [List.size_toArray, bne_iff_ne, ne_eq]; omega) hu ⟨.bl false, H, I, rfl, ?_⟩
    rw [decide_eq_false fun z => hl (by rw [z])] at q
    exact q
/-! ### != of two tuples that are the same through and through -/
def rNeDT (K : PySem.W.Frag) (n : Nat) : R2 := fun x y H Q => ∃ a b xs ys, x = .ref a ∧ y = .ref b ∧ SqT K H a xs ∧ SqT K H b ys ∧ xs.length = ys.length ∧ (∀ j (h1 : j < xs.length) (h2 : j < ys.length), Deep K H n xs[j] ys[j]) ∧ Q (.bl false) H
theorem op_neDT {n : Nat} (hu : X.A.units + n + 1 < cLine) : OpR X (compareOp .NotEq) (rNeDT X.K n) := by
  rintro pins s σ H x y v u Q I rx ry ⟨a, b, xs, ys, rfl, rfl, ha, hb, hl, hd, q⟩
  cases rx
  cases ry
  obtain ⟨vs, r1, t1, _⟩ := I.tuple ha
  obtain ⟨ws, r2, t2, _⟩ := I.tuple hb
  have l1 := r1.length
  have l2 := r2.length
  have hs : vs.length = ws.length := by omega
  refine SeqAt.RcNeAt.tuples (e := fun _ => true) t1 t2 (by omega) (fun j h1 h2 => ?_) _ _ _ _ ⟨.bl false, H, I, by simp [RelV, hs], q⟩
  simp only [List.size_toArray] at h1 h2
  obtain ⟨w1, z1, rz1⟩ := r1.get (i := j) (x := xs[j]'(by omega)) (List.getElem?_eq_getElem (by omega))
  obtain ⟨w2, z2, rz2⟩ := r2.get (i := j) (x := ys[j]'(by omega)) (List.getElem?_eq_getElem (by omega))
  have a1 : vs.toArray[j] = w1 := by
    have := (List.getElem?_eq_some_iff.mp z1).2
    simpa using this
  have a2 : ws.toArray[j] = w2 := by
    have := (List.getElem?_eq_some_iff.mp z2).2
    simpa using this
  rw [a1, a2]
  exact (hd j (by omega) (by omega)).eqAt I rz1 rz2 (by rw [Around.in1_units]; omega)
end
end L2
end
section
set_option Elab.async false
set_option linter.all false
set_option maxRecDepth 100000
set_option maxHeartbeats 4000000
namespace L2
open PySem PySem.Spec PyProof.Rows LX
/-! ### raising out of a loop of the def's own body -/
section
variable {P : Program} {w : World} {K : PySem.W.Frag} {mg : Str → Option Value} {base : Heap} {N : List Str} {qual : Str} {scope : Scope} {f : Addr} {cdv : Value} {A : Around} {outer : List Env} {s₀ : Shared} {H₀ : Hp} {E₀ : XK}
/-- an exception that the def's frame has not been noted at -/
def XO (P : Program) (w : World) (qual : Str) (scope : Scope) (f : Addr) (cdv : Value) (A : Around) (outer : List Env) (s₀ : Shared) (H₀ : Hp) (E₀ : XK) (base : Heap) (e : Value) (s : Shared) : Prop :=
  ∃ (ea : Addr) (c : Value) (od : Option Addr) (fs : Array Value) (sl : Array (Option Value)) (T0 : Option Addr), e = .ref ea ∧ (A.deeper (envOfC qual scope s₀.heap.objs.size f cdv)).frames = some (envOfC qual scope s₀.heap.objs.size f cdv :: outer) ∧ s.heap.FunFrames base (envOfC qual scope s₀.heap.objs.size f cdv :: outer) ∧ s.heap.get? ea = some (excRec c od fs sl) ∧ Trail s.heap ea fs T0 ∧
    ∀ (m : Heap) (T : Addr) (fs' : Array Value), s.heap.objs.size ≤ T → Kept (framesOf (envOfC qual scope s₀.heap.objs.size f cdv :: outer)) (ea :: T0.toList) s.heap m → m.get? ea = some (excRec c od fs' sl) → fs'[0]? = fs[0]? → Trail m ea fs' (some T) → CXE P w outer H₀ s₀ E₀ (.ref ea) { s with heap := m }
/-- one that came back from a loop -/
def XN (P : Program) (w : World) (outer : List Env) (s₀ : Shared) (H₀ : Hp) (E₀ : XK) (L : Addr) (e : Value) (s : Shared) : Prop :=
  ∃ (ea T : Addr) (c oc : Value) (od d : Option Addr) (fs ts : Array Value) (sl sm : Array (Option Value)), e = .ref ea ∧ s.heap.get? ea = some (excRec c od fs sl) ∧ fs[1]? = some (.ref T) ∧ T ≠ ea ∧ s.heap.get? T = some (excRec oc d ts sm) ∧ ts[3]? = some (rawInt L) ∧
    ∀ m : Heap, (∀ b o, b ≠ T → s.heap.get? b = some o → m.get? b = some o) → Trail m ea fs (some T) → m.get? ea = some (excRec c od fs sl) → CXE P w outer H₀ s₀ E₀ (.ref ea) { s with heap := m }
def XR (P : Program) (w : World) (qual : Str) (scope : Scope) (f : Addr) (cdv : Value) (A : Around) (outer : List Env) (s₀ : Shared) (H₀ : Hp) (E₀ : XK) (base : Heap) (e : Value) (s : Shared) : Prop :=
  XO P w qual scope f cdv A outer s₀ H₀ E₀ base e s ∨ XN P w outer s₀ H₀ E₀ s₀.heap.objs.size e s
theorem own_lies {pins : List (Addr × Obj)} {σ : St} {H H' : Hp} {s s' : Shared} {ea C T : Addr} {od : Option Addr} {fs : Array Value} {sl : Array (Option Value)} (I : Inv (cxE P w K mg base N qual scope f cdv A outer s₀ H₀ E₀) pins σ H s)
    (l : Lies P w (cxE P w K mg base N qual scope f cdv A outer s₀ H₀ E₀).stack H H' s ea C T od fs sl s') (hE : E₀ (.ref C) od H') : XO P w qual scope f cdv A outer s₀ H₀ E₀ base (.ref ea) s' := by
  refine ⟨ea, _, _, _, _, _, rfl, I.ok.frames, Lies.frames I l, l.at_, l.trail, fun m T' fs' z1 z2 z3 z4 z5 => ?_⟩
  obtain ⟨un, hok⟩ := l.on (t' := s'.toks) I z2
  have J : Inv (cxE P w K mg base N qual scope f cdv A outer s₀ H₀ E₀) pins σ H' { s' with heap := m } := I.call' l.os un hok l.bare (fun b z => absurd z (by simp))
  have old : ∀ b o, s₀.heap.get? b = some o → ∃ o', s.heap.get? b = some o' := fun b o z => I.base.there b o z (List.not_mem_nil)
  have e0 : s₀.heap.get? ea = none := by
    cases q : s₀.heap.get? ea with
    | none => rfl
    | some o =>
      obtain ⟨o', z⟩ := old ea o q
      rw [l.newE] at z; cases z
  have t0 : s₀.heap.get? T' = none := by
    cases q : s₀.heap.get? T' with
    | none => rfl
    | some o =>
      obtain ⟨o1, y1⟩ := old T' o q
      obtain ⟨o2, y2⟩ := l.un.there T' o1 y1 (by simp)
      exact absurd (Heap.lt_size y2) (Nat.not_lt.mpr z1)
  obtain ⟨a0, ha⟩ := l.args
  exact ⟨ea, C, T', od, fs', sl, H', rfl, ⟨J.os, J.bare, J.base, J.hok, e0, t0, l.freeE, l.hok.fresh z1, z3, ⟨a0, by rw [z4]; exact ha⟩, z5⟩, hE⟩
theorem own_new {pins : List (Addr × Obj)} {σ : St} {H : Hp} {s : Shared} {ea C : Addr} {od : Option Addr} (I : Inv (cxE P w K mg base N qual scope f cdv A outer s₀ H₀ E₀) pins σ H s) (h1 : H ea = some (exo true C ea od)) (h0 : H₀ ea = none)
    (hE : E₀ (.ref C) od (del H ea)) : XO P w qual scope f cdv A outer s₀ H₀ E₀ base (.ref ea) s := by
  obtain ⟨fs, sl, a0, z, ha, hf⟩ := exo_get I.hok h1
  have frz : ∀ b, b ∈ frs (cxE P w K mg base N qual scope f cdv A outer s₀ H₀ E₀).stack → H b = none := I.stkFree
  have e0 : s₀.heap.get? ea = none := by
    cases q : s₀.heap.get? ea with
    | none => rfl
    | some o =>
      have := I.base.free ea o q h0 List.not_mem_nil
      rw [h1] at this; cases this
  refine ⟨ea, _, _, _, _, _, rfl, I.ok.frames, I.stack, z, .none (hf rfl), fun m T' fs' z1 z2 z3 z4 z5 => ?_⟩
  have hd : HOk P w (del H ea) s.heap := I.hok.del (fun y q => by rw [h1] at q; cases q) fun xs q => by rw [h1] at q; cases q
  have hm : HOk P w (del H ea) m := hd.keeps fun b u o q r => by
    obtain ⟨q1, q2⟩ := del_some q
    exact z2.plain b o r (fun hb => by rw [frz b hb] at q1; cases q1) (by simpa using q2)
  have neE : ∀ b o, s₀.heap.get? b = some o → b ≠ ea := fun b o q r => by rw [r, e0] at q; cases q
  have t0 : s₀.heap.get? T' = none := by
    cases q : s₀.heap.get? T' with
    | none => rfl
    | some o =>
      obtain ⟨o2, y2⟩ := I.base.there T' o q List.not_mem_nil
      exact absurd (Heap.lt_size y2) (Nat.not_lt.mpr z1)
  have neL : ∀ b o, s₀.heap.get? b = some o → b ∈ framesOf (cxE P w K mg base N qual scope f cdv A outer s₀ H₀ E₀).stack → b ∈ frs outer := fun b o q hb => by
    rcases List.mem_cons.mp (I.stkSub b hb) with r | r
    · exact absurd (Heap.lt_size q) (by rw [r]; exact Nat.not_lt.mpr I.ok.above)
    · exact r
  have sub : ∀ b, b ∈ frs outer → b ∈ framesOf (cxE P w K mg base N qual scope f cdv A outer s₀ H₀ E₀).stack := fun b hb => by
    obtain ⟨x, hx, hy⟩ := List.mem_filterMap.mp hb
    exact List.mem_filterMap.mpr ⟨x, List.mem_cons_of_mem _ hx, hy⟩
  refine ⟨ea, C, T', od, fs', sl, del H ea, rfl, ⟨I.os, I.bare, ⟨fun b o q n hb hx => ?_, fun b o q n hb hx => ?_, fun b o q n hx => ?_, fun b o q hx => ?_, fun b xs q => ?_, fun b o u q => ?_, fun b ps q => ?_⟩, hm, e0, t0, del_same, ?_, z3, ⟨a0, by rw [z4]; exact ha⟩, z5⟩, hE⟩
  · exact z2.plain b o (I.base.keep b o q n hb hx) (fun z => hb (neL b o q z)) (by simpa using neE b o q)
  · obtain ⟨s1, y1⟩ := I.base.slot b o q n hb hx
    obtain ⟨s2, y2⟩ := z2.frame b _ y1 (sub b hb) (by simpa using neE b o q)
    exact ⟨s2, y2⟩
  · rw [del_ne (neE b o q)]
    exact I.base.free b o q n hx
  · obtain ⟨o1, y1⟩ := I.base.there b o q hx
    by_cases hb : b ∈ framesOf (cxE P w K mg base N qual scope f cdv A outer s₀ H₀ E₀).stack
    · obtain ⟨s2, y2⟩ := z2.frame b _ y1 hb (by simpa using neE b o q)
      exact ⟨_, y2⟩
    · exact ⟨_, z2.plain b _ y1 hb (by simpa using neE b o q)⟩
  · have r := I.base.tups b xs q
    rw [del_ne fun e => by rw [e, h1] at r; cases r]; exact r
  · have r := I.base.frzs b o u q
    rw [del_ne fun e => by rw [e, h1] at r; cases r]; exact r
  · obtain ⟨more, r⟩ := I.base.tbls b ps q
    exact ⟨more, by rw [del_ne fun e => by rw [e, h1] at r; cases r]; exact r⟩
  · by_cases q : T' = ea
    · rw [q]; exact del_same
    · rw [del_ne q]; exact I.hok.fresh z1

theorem XR.xe {e : Value} {s : Shared} (h : XR P w qual scope f cdv A outer s₀ H₀ E₀ base e s) : (cxE P w K mg base N qual scope f cdv A outer s₀ H₀ E₀).xe e s := by
  rcases h with ⟨ea, c, od, fs, sl, T0, rfl, hA, F, he, t, k⟩ | ⟨ea, T, c, oc, od, d, fs, ts, sl, sm, rfl, he, h1, ne, hT, h3, k⟩
  · exact leaves hA F rfl he t k
  · have h3s : 3 < ts.size := (Array.getElem?_eq_some_iff.mp h3).1
    show wpAny _ _ (leaving _ (.ref ea)) _ _ s
    unfold leaving noteFrame
    refine wpAny_bind ?_
    show wpAny _ _ (field (.ref ea) 1 >>= _) _ _ s
    refine wpAny_bind (wpAny_field he rfl h1 ?_)
    rw [if_pos (show (Value.ref T != Value.none) = true by simp)]
    refine wpAny_bind (wpAny_field hT rfl h3 ?_)
    rw [if_pos (by simp)]
    exact wpAny_pure (flight_off he h1 ne hT h3s k)
theorem own_passes : PassesOwn (model P w) (A.deeper (envOfC qual scope s₀.heap.objs.size f cdv)) (envOfC qual scope s₀.heap.objs.size f cdv) (XR P w qual scope f cdv A outer s₀ H₀ E₀ base) := by
  intro e s h
  have came : ∀ {s1 : Shared}, XN P w outer s₀ H₀ E₀ s₀.heap.objs.size e s1 → cameBackBy (model P w) (A.deeper (envOfC qual scope s₀.heap.objs.size f cdv)) (envOfC qual scope s₀.heap.objs.size f cdv) (XR P w qual scope f cdv A outer s₀ H₀ E₀ base) e s1 := by
    rintro s1 ⟨ea, T, c, oc, od, d, fs, ts, sl, sm, rfl, he, h1, ne, hT, h3, k⟩
    have h3s : 3 < ts.size := (Array.getElem?_eq_some_iff.mp h3).1
    unfold cameBackBy setFlight
    refine wpAny_bind (wpAny_field he rfl h1 ?_)
    dsimp only
    rw [if_neg (by simp)]
    refine wpAny_bind (wpAny_field he rfl h1 ?_)
    rw [if_pos (show (Value.ref T != Value.none) = true by simp)]
    refine wpAny_setField hT rfl h3s ?_
    have oth : ∀ b o, b ≠ T → s1.heap.get? b = some o → (s1.heap.update T (Obj.mapFields (·.setIfInBounds 3 (rawInt s₀.heap.objs.size)))).get? b = some o := fun b o hb q => (Heap.get?_update_other _ _ (Ne.symm hb)).trans q
    exact .inr ⟨ea, T, c, oc, od, d, fs, ts.setIfInBounds 3 (rawInt s₀.heap.objs.size), sl, sm, rfl, oth _ _ (Ne.symm ne) he, h1, ne, upd_rec hT, by simp [h3s], fun m q1 q2 q3 => k m (fun b o hb q => q1 b o hb (oth b o hb q)) q2 q3⟩
  rcases h with ⟨ea, c, od, fs, sl, T0, rfl, hA, F, he, t, k⟩ | ⟨ea, T, c, oc, od, d, fs, ts, sl, sm, rfl, he, h1, ne, hT, h3, k⟩
  · refine note_on hA F rfl he t fun m T oc ts z1 z2 z3 z4 z5 => came ?_
    have Te : T ≠ ea := Nat.ne_of_gt (Nat.lt_of_lt_of_le (Heap.lt_size he) z1)
    have f1 : (fs.setIfInBounds 1 (Value.ref T))[1]? = some (.ref T) := by
      have := t.size
      simp [this]
    refine ⟨ea, T, c, oc, od, none, _, ts, sl, #[], rfl, z3, f1, Te, z4, z5, fun m' q1 q2 q3 => k m' T _ z1 ⟨fun b o q hb hx => ?_, fun b o q hb hx => ?_⟩ q3 (by simp) q2⟩
    · exact q1 b o (Nat.ne_of_lt (Nat.lt_of_lt_of_le (Heap.lt_size q) z1)) (z2.plain b o q hb hx)
    · obtain ⟨sm, r⟩ := z2.frame b o q hb hx
      exact ⟨sm, q1 b _ (Nat.ne_of_lt (Nat.lt_of_lt_of_le (Heap.lt_size q) z1)) r⟩
  · have h3s : 3 < ts.size := (Array.getElem?_eq_some_iff.mp h3).1
    show wpAny _ _ (noteFrame (.ref ea) _) _ _ s
    unfold noteFrame
    show wpAny _ _ (field (.ref ea) 1 >>= _) _ _ s
    refine wpAny_bind (wpAny_field he rfl h1 ?_)
    rw [if_pos (show (Value.ref T != Value.none) = true by simp)]
    refine wpAny_bind (wpAny_field hT rfl h3 ?_)
    rw [if_pos (by simp)]
    exact wpAny_pure (came ⟨ea, T, c, oc, od, d, fs, ts, sl, sm, rfl, he, h1, ne, hT, h3, k⟩)
/-- the context in which the def's loops may raise -/
abbrev cxR (P : Program) (w : World) (K : PySem.W.Frag) (mg : Str → Option Value) (base : Heap) (N : List Str) (qual : Str) (scope : Scope) (f : Addr) (cdv : Value) (A : Around) (outer : List Env) (s₀ : Shared) (H₀ : Hp) (E₀ : XK) : Cx :=
  (cxE P w K mg base N qual scope f cdv A outer s₀ H₀ E₀).wish (XR P w qual scope f cdv A outer s₀ H₀ E₀ base)
theorem PSs.xr {st : List Stmt} {t : TS} (h : PSs (cxR P w K mg base N qual scope f cdv A outer s₀ H₀ E₀) st t) : PSs (cxE P w K mg base N qual scope f cdv A outer s₀ H₀ E₀) st t := fun pins s σ H D I hw =>
  wpAny_mono (h pins s σ H D (I.wish _) hw) (fun _ _ q => q.unwish) fun _ _ z => z.xe
theorem raiseR : RaisesTo (cxR P w K mg base N qual scope f cdv A outer s₀ H₀ E₀) E₀ := fun _ _ _ _ _ _ _ I h1 h0 q => .inl (own_new I.unwish h1 h0 q)
theorem passR {E : XK} (hE : ∀ c od H', E c od H' → E₀ c od H') : PassesX (CXE P w) (cxR P w K mg base N qual scope f cdv A outer s₀ H₀ E₀) (fun _ => E) := fun pins σ H s e s' I h => by
  obtain ⟨ea, C, T, od, fs, sl, H', rfl, l, q⟩ := h
  exact .inl (own_lies I.unwish l (hE _ _ _ q))
theorem ownR : PassesOwn (model P w) (cxR P w K mg base N qual scope f cdv A outer s₀ H₀ E₀).A (cxR P w K mg base N qual scope f cdv A outer s₀ H₀ E₀).env (cxR P w K mg base N qual scope f cdv A outer s₀ H₀ E₀).xe := own_passes
end
end L2
end
section
set_option Elab.async false
set_option linter.all false
set_option maxRecDepth 100000
set_option maxHeartbeats 4000000
set_option exponentiation.threshold 4000
namespace K70
open PySem L2 LX
def top (i : Nat) : Stmt := PySem.Challenge.pw_stillheap_k70_round_papers.main.body.getD i (.Pass ⟨0, 0, 0, 0⟩)
abbrev sXI : Stmt := inClass (top 2) 0
abbrev sLook : Stmt := top 5
abbrev sLTold : Stmt := top 6
abbrev sSteps : Stmt := top 7
abbrev sReach : Stmt := top 9
abbrev sJudged : Stmt := top 10
abbrev sIn : Stmt := top 11
abbrev sWithin : Stmt := top 12
abbrev sStep : Stmt := top 13
abbrev sTells : Stmt := top 14
abbrev sPaper : Stmt := top 16
abbrev sRound : Stmt := top 17
abbrev sRooted : Stmt := top 18
abbrev sWithout : Stmt := top 19
abbrev sCodes : Stmt := top 21
abbrev sPicked : Stmt := top 22
abbrev sView : Stmt := top 23
abbrev sReached : Stmt := top 24
abbrev sRight : Stmt := top 25
abbrev sRef : Stmt := top 26
abbrev sLaw : Stmt := top 27
section
variable {P : Program} {w : World} {K : PySem.W.Frag} {mg : Str → Option Value} {base : Heap}
theorem sq_same {H H' : Hp} {a : Addr} {xs : List V} (h : SqL K H a xs) (s : Same H H') : SqL K H' a xs := Or.imp (fun r => Or.elim r (fun e => .inl (s _ _ e)) fun ⟨o, e⟩ => .inr ⟨o, s _ _ e⟩) id h
def cmp? : Stmt → Option Expr
  | .Assign _ e _ => some e
  | _ => none
def scopeOf : Option Expr → Scope
  | some (.ListComp _ _ sc _) => sc
  | _ => default
def oV : Option Int → V
  | none => .non
  | some n => .int n
def ret? : Stmt → Option Expr
  | .Return e _ => e
  | _ => none
abbrev Fs := List (Int × List (Option Int))
def kvl (ad : Int → Addr) (ks : Fs) : List (Key × V) := ks.map fun p => (Sum.inl p.1, V.ref (ad p.1))
structure Vw (H : Hp) (r d : Addr) (o : Obj) (ad : Int → Addr) (rs : List (Option Int)) (ks : Fs) : Prop where
  hr : H r = some (.lst (rs.map oV))
  hd : H d = some (.frz o (.dK (kvl ad ks)))
  hl : ∀ p ∈ ks, H (ad p.1) = some (.lst (p.2.map oV))
theorem Vw.same {H H' : Hp} {r d : Addr} {o : Obj} {ad : Int → Addr} {rs : List (Option Int)} {ks : Fs} (v : Vw H r d o ad rs ks) (s : Same H H') : Vw H' r d o ad rs ks := ⟨s _ _ v.hr, s _ _ v.hd, fun p hp => s _ _ (v.hl p hp)⟩
structure Rt (rs : List (Option Int)) (ks : Fs) : Prop where
  nd : (ks.map (·.1)).Nodup
  pos : ∀ p ∈ ks, 0 ≤ p.1
  kl : ks.length ≤ 12
  rl : rs.length ≤ 20
  fl : ∀ p ∈ ks, p.2.length ≤ 6
  ri : ∀ n, some n ∈ rs → n ∈ ks.map (·.1)
  fi : ∀ p ∈ ks, ∀ n, some n ∈ p.2 → n ∈ ks.map (·.1)
theorem val_kvl (ad : Int → Addr) (t : Int) : ∀ ks : Fs, valV (kvl ad ks) (Sum.inl t) = if t ∈ ks.map (·.1) then some (V.ref (ad t)) else none
  | [] => rfl
  | (k, fs) :: r => by
    have ih := val_kvl ad t r
    by_cases e : k = t
    · subst e
      rw [show kvl ad ((k, fs) :: r) = (Sum.inl k, V.ref (ad k)) :: kvl ad r from rfl, valV_pos rfl, if_pos (by simp)]
    · rw [show kvl ad ((k, fs) :: r) = (Sum.inl k, V.ref (ad k)) :: kvl ad r from rfl, valV_neg (fun z => e (by injection z)), ih]
      have : (t ∈ ((k, fs) :: r).map (·.1)) ↔ t ∈ r.map (·.1) := by
        rw [List.map_cons, List.mem_cons]
        exact ⟨fun z => z.resolve_left fun y => e y.symm, .inr⟩
      simp only [this]
def inFor : Stmt → Nat → Stmt
  | .For _ _ b _ _, i => b.getD i (.Pass ⟨0, 0, 0, 0⟩)
  | s, _ => s
theorem ps_dead {X : Cx} {st : Stmt} : PS X st (fun _ _ _ => False) := fun _ _ _ _ _ _ h => h.elim
abbrev keys (ks : Fs) : List Int := ks.map (·.1)
theorem rd_vw {H : Hp} {r d : Addr} {o : Obj} {ad : Int → Addr} {rs : List (Option Int)} {ks : Fs} (v : Vw H r d o ad rs ks) : Rd H d (.dK (kvl ad ks)) := .inr ⟨o, v.hd⟩
theorem dget_f {H : Hp} {d : Addr} {o : Obj} {ad : Int → Addr} {ks : Fs} (h : H d = some (.frz o (.dK (kvl ad ks)))) (t : Int) : DGet H d (.int t) (if t ∈ keys ks then some (V.ref (ad t)) else none) := .inl ⟨_, Sum.inl t, .inr ⟨o, h⟩, rfl, by rw [val_kvl]⟩
theorem dget_in {H : Hp} {d : Addr} {o : Obj} {ad : Int → Addr} {ks : Fs} (h : H d = some (.frz o (.dK (kvl ad ks)))) {t : Int} (ht : t ∈ keys ks) : DGet H d (.int t) (some (V.ref (ad t))) := by
  have := dget_f h t
  rwa [if_pos ht] at this
def spLTold : Sp := fun vs H Q _ => ∃ (l d : Addr) (o : Obj) (ad : Int → Addr) (fs : List (Option Int)) (ks : Fs), vs = [.ref l, .ref d] ∧ H l = some (.lst (fs.map oV)) ∧ H d = some (.frz o (.dK (kvl ad ks))) ∧ (∀ n, some n ∈ fs → n ∈ keys ks) ∧ Q .non H
theorem scLT : FnScope ["told", "fields", "t"] ["told", "fields"] (defScope sLTold) := ⟨rfl, rfl, rfl, by decide +kernel, rfl, by decide +kernel, by decide +kernel⟩
theorem ok_ltold {f : Addr} {fd : FuncData} (F : Fun K "look_at_told" "look_at_told" sLTold f fd) : FnOk P w K mg base (CXE P w) 1 f fd ["told", "fields"] spLTold := by
  refine F.okE scLT (fun vs H Q E h => ?_) (fun cdv A outer s H vs Q E hr h => ?_)
  · obtain ⟨l, d, o, ad, fs, ks, rfl, _⟩ := h
    rfl
  · obtain ⟨l, d, o, ad, fs, ks, rfl, hl, hd, hin, k⟩ := h
    have hu := hu_of hr
    refine ⟨_, PSs.nox (pss_one (ps_for PassesOwn.never rfl (pi_list (pv 0)) (pg_name (i := 2) scLT.nd rfl (Or.inl rfl))
      (pss_one (ps_if (PW.pt (pw_and (pt_cmpR op_notN (pv 2) pe_non (nomark _)) (pw_and1 (pt_cmp (pc_dnotin hu (pv 2) (pv 1)) (by with_unfolding_all rfl))))) (pss_one ps_dead) pss_nil)))), ?_⟩
    refine ⟨_, rfl, l, rfl, ⟨_, SqL.of hl⟩, for_list (K := K) (a := l) (xs := fs.map oV) (fun i σ H2 => H2 = H ∧ ∃ v2, σ = [some (.ref l), some (.ref d), v2]) ⟨rfl, none, rfl⟩ (fun i σ H2 _ ⟨e, _⟩ => by rw [e]; exact SqL.of hl) ?_ ?_⟩
    · rintro i x σ H2 hx ⟨rfl, v2, rfl⟩
      rw [List.getElem?_map] at hx
      obtain ⟨y, hy, rfl⟩ := Option.map_eq_some_iff.mp hx
      cases y with
      | none => exact ⟨_, rfl, rfl, _, rfl, iteF (iteF ⟨rfl, _, rfl⟩)⟩
      | some n =>
        have hn : n ∈ keys ks := hin n (List.mem_of_getElem? hy)
        exact ⟨_, rfl, rfl, _, rfl, iteT ⟨_, rfl, _, rfl, d, _, rfl, dget_in hd hn, _, rfl, iteF ⟨rfl, _, rfl⟩⟩⟩
    · rintro σ H2 ⟨rfl, v2, rfl⟩
      exact k
def spLook (K : PySem.W.Frag) : Sp := fun vs H Q _ => ∃ (v r d : Addr) (o : Obj) (ad : Int → Addr) (rs : List (Option Int)) (ks : Fs), vs = [.ref v] ∧ SqT K H v [.ref r, .ref d] ∧ Vw H r d o ad rs ks ∧ Rt rs ks ∧ Q .non H
theorem scLV : FnScope ["view", "fields", "t"] ["view"] (defScope sLook) := ⟨rfl, rfl, rfl, by decide +kernel, rfl, by decide +kernel, by decide +kernel⟩
theorem key_at {ad : Int → Addr} {ks : Fs} {i : Nat} {p : Key × V} (h : (kvl ad ks)[i]? = some p) : ∃ q ∈ ks, ks[i]? = some q ∧ p = (Sum.inl q.1, V.ref (ad q.1)) := by
  unfold kvl at h
  rw [List.getElem?_map] at h
  obtain ⟨q, hq, rfl⟩ := Option.map_eq_some_iff.mp h
  exact ⟨q, List.mem_of_getElem? hq, hq, rfl⟩
theorem ok_look {f fT : Addr} {fd fdT : FuncData} (F : Fun K "look_at_view" "look_at_view" sLook f fd) (GT : FnOk P w K mg base (CXE P w) 1 fT fdT ["told", "fields"] spLTold) (mT : mg "look_at_told" = some (.ref fT)) (kT : PySem.W.keepIn K (.ref fT) = true) (bT : Binds K fdT ["told", "fields"] []) :
    FnOk P w K mg base (CXE P w) 2 f fd ["view"] (spLook K) := by
  refine F.okE scLV (fun vs H Q E h => ?_) (fun cdv A outer s H vs Q E hr h => ?_)
  · obtain ⟨v, r, d, o, ad, rs, ks, rfl, _⟩ := h
    rfl
  · obtain ⟨v, r, d, o, ad, rs, ks, rfl, ht, hv, rt, k⟩ := h
    have hu := hu_of hr
    refine ⟨_, PSs.nox (pss_cons (ps_set (i := 1) scLV.nd rfl (Or.inl rfl) (pe_ix ix_tup (pv 0) pe_int (fun _ _ => rfl)))
      (pss_cons (ps_expr (xe_call GT hr rfl mT kT bT .nil passN (pa_cons (pe_ix ix_tup (pv 0) pe_int (fun _ _ => rfl)) (pa_cons (pv 1) pa_nil))))
      (pss_one (ps_for PassesOwn.never rfl (pi_dict (pv 1)) (pg_name (i := 2) scLV.nd rfl (Or.inl rfl))
        (pss_cons (ps_if (pt_cmpR op_lt (pv 2) pe_int (nomark _)) (pss_one ps_dead) pss_nil)
        (pss_one (ps_expr (xe_call GT hr rfl mT kT bT .nil passN (pa_cons (pe_dget hu (pv 1) (pv 2) (fun _ _ => rfl)) (pa_cons (pv 1) pa_nil)))))))))), ?_⟩
    refine ⟨_, rfl, v, _, 1, .ref d, rfl, rfl, ht, rfl, ?_⟩
    refine ⟨_, rfl, v, _, 0, .ref r, rfl, rfl, ht, rfl, _, rfl, r, d, o, ad, rs, ks, rfl, hv.hr, hv.hd, rt.ri, ?_⟩
    refine ⟨_, rfl, d, o, _, rfl, hv.hd, for_dict (d := d) (o := o) (kvs := kvl ad ks) (fun i σ H2 => H2 = H ∧ ∃ v2, σ = [some (.ref v), some (.ref d), v2]) ⟨rfl, none, rfl⟩ (fun i σ H2 _ ⟨e, _⟩ => by rw [e]; exact hv.hd) ?_ ?_⟩
    · rintro i p σ H2 hx ⟨rfl, v2, rfl⟩
      obtain ⟨q, hq, _, rfl⟩ := key_at hx
      have h0 := rt.pos q hq
      refine ⟨_, rfl, _, 0, rfl, rfl, _, rfl, ite2 (fun h => ?_) (fun _ => ?_)⟩
      · have h1 : q.1 < 0 := by simpa using h
        omega
      · exact ⟨_, rfl, _, rfl, d, _, rfl, dget_in hv.hd (List.mem_map_of_mem hq), _, rfl, ad q.1, d, o, ad, q.2, ks, rfl, hv.hl q hq, hv.hd, rt.fi q hq, rfl, _, rfl⟩
    · rintro σ H2 ⟨rfl, v2, rfl⟩
      exact k
def fsOf (ks : Fs) (t : Int) : List (Option Int) := match ks.find? (fun p => decide (p.1 = t)) with
  | some p => p.2
  | none => []
theorem fsOf_mem : ∀ {ks : Fs}, (keys ks).Nodup → ∀ {p : Int × List (Option Int)}, p ∈ ks → fsOf ks p.1 = p.2
  | [], _, _, h => nomatch h
  | q :: r, nd, p, h => by
    obtain ⟨n1, n2⟩ := List.nodup_cons.mp (show (q.1 :: keys r).Nodup from nd)
    unfold fsOf
    rcases List.mem_cons.mp h with e | h
    · subst e
      rw [List.find?_cons_of_pos (by simp)]
    · have ne : ¬ q.1 = p.1 := fun z => n1 (by rw [z]; exact List.mem_map_of_mem h)
      rw [List.find?_cons_of_neg (by simpa using ne)]
      exact fsOf_mem n2 h
theorem fs_at {H : Hp} {r d : Addr} {o : Obj} {ad : Int → Addr} {rs : List (Option Int)} {ks : Fs} (v : Vw H r d o ad rs ks) (rt : Rt rs ks) {t : Int} (ht : t ∈ keys ks) : H (ad t) = some (.lst ((fsOf ks t).map oV)) ∧ (fsOf ks t).length ≤ 6 ∧ ∀ n, some n ∈ fsOf ks t → n ∈ keys ks := by
  obtain ⟨p, hp, rfl⟩ := List.mem_map.mp ht
  rw [fsOf_mem rt.nd hp]
  exact ⟨v.hl p hp, rt.fl p hp, rt.fi p hp⟩
theorem sqT_same {H H' : Hp} {a : Addr} {xs : List V} (h : SqT K H a xs) (s : Same H H') : SqT K H' a xs := Or.imp (fun r => Or.elim r (fun e => .inl (s _ _ e)) fun ⟨o, e⟩ => .inr ⟨o, s _ _ e⟩) id h
theorem inV_i {t : Int} {zs : List Int} : inV (.int t) (zs.map V.int) = decide (t ∈ zs) := by
  rw [Bool.eq_iff_iff, decide_eq_true_eq]
  unfold inV
  rw [List.any_map, List.any_eq_true]
  constructor
  · rintro ⟨z, hz, e⟩
    have : z = t := by simpa [eqV] using e
    rw [← this]
    exact hz
  · intro h
    exact ⟨t, h, by simp [eqV]⟩
theorem mem_roots {rs : List (Option Int)} {n : Int} : n ∈ rs.filterMap id ↔ some n ∈ rs := by simp
theorem small2 {a b : List Int} {n : Nat} (h : a.length + b.length ≤ n) (hn : n ≤ sizeLine) : (a.map V.int).length + (b.map V.int).length ≤ sizeLine := by
  rw [List.length_map, List.length_map]
  omega
theorem oV_flat (x : Option Int) : flatV (oV x) = true := by cases x <;> rfl
theorem deep_list {H : Hp} {a b : Addr} {fs : List (Option Int)} (ha : H a = some (.lst (fs.map oV))) (hb : H b = some (.lst (fs.map oV))) : Deep K H 1 (.ref a) (.ref b) :=
  .lst (SqL.of ha) (SqL.of hb) rfl fun j h1 h2 => .flat (by rw [List.getElem_map]; exact oV_flat _)
theorem kvl_keys (ad : Int → Addr) (ks : Fs) : (kvl ad ks).map (·.1) = (keys ks).map Sum.inl := by
  unfold kvl keys
  rw [List.map_map, List.map_map]
  rfl
theorem kvl_int {ad : Int → Addr} {ks : Fs} : ∀ p ∈ kvl ad ks, ∃ i, p.1 = Sum.inl i := fun p hp => by
  obtain ⟨q, _, rfl⟩ := List.mem_map.mp hp
  exact ⟨_, rfl⟩
theorem kvl_eq {H : Hp} {r d r' d' : Addr} {o o' : Obj} {ad ad' : Int → Addr} {rs : List (Option Int)} {ks : Fs} (v : Vw H r d o ad rs ks) (v' : Vw H r' d' o' ad' rs ks) : ∀ p ∈ kvl ad' ks, ∃ y, valV (kvl ad ks) p.1 = some y ∧ Deep K H 1 p.2 y := fun p hp => by
  obtain ⟨q, hq, rfl⟩ := List.mem_map.mp hp
  exact ⟨.ref (ad q.1), by rw [val_kvl, if_pos (List.mem_map_of_mem hq)], deep_list (v'.hl q hq) (v.hl q hq)⟩
inductive Rch (ks : Fs) (ns : List Int) : Int → Prop
  | base {n : Int} : n ∈ ns → Rch ks ns n
  | step {t n : Int} : Rch ks ns t → some n ∈ fsOf ks t → Rch ks ns n
def Shut (ks : Fs) (ts : List Int) : Prop := ∀ t ∈ ts, ∀ n, some n ∈ fsOf ks t → n ∈ ts
theorem rch_all {ks : Fs} {ns ts : List Int} (h0 : ∀ n ∈ ns, n ∈ ts) (hs : Shut ks ts) : ∀ {k : Int}, Rch ks ns k → k ∈ ts := fun {k} h => by
  induction h with
  | base h => exact h0 _ h
  | step _ hn ih => exact hs _ ih _ hn
theorem rch_keys {rs : List (Option Int)} {ks : Fs} (rt : Rt rs ks) {ns : List Int} (h : ∀ n ∈ ns, n ∈ keys ks) : ∀ {k : Int}, Rch ks ns k → k ∈ keys ks := fun {k} r => by
  induction r with
  | base h' => exact h _ h'
  | step _ hn ih =>
    obtain ⟨p, hp, ep⟩ := List.mem_map.mp ih
    rw [← ep, fsOf_mem rt.nd hp] at hn
    exact rt.fi p hp _ hn
end
end K70
end
section
set_option Elab.async false
set_option linter.all false
set_option maxRecDepth 100000
set_option maxHeartbeats 4000000
set_option exponentiation.threshold 4000
namespace K70
open PySem L2 LX
section
variable {P : Program} {w : World} {K : PySem.W.Frag} {mg : Str → Option Value} {base : Heap}
/-- tells_within -/
def wIn (kvs : List (Key × V)) : Option Int → Bool
  | none => true
  | some n => (valV kvs (Sum.inl n)).isSome
def spWithin : Sp := fun vs H Q _ => ∃ (l i : Addr) (fs : List (Option Int)) (kvs : List (Key × V)), vs = [.ref l, .ref i] ∧ H l = some (.lst (fs.map oV)) ∧ fs.length ≤ 1000 ∧ H i = some (.dK kvs) ∧ ∀ H', Same H H' → Q (.bl (fs.all (wIn kvs))) H'
theorem scW : FnScope ["told", "inside"] ["told", "inside"] (defScope sWithin) := ⟨rfl, rfl, rfl, by decide +kernel, rfl, by decide +kernel, by decide +kernel⟩
def arg0? : Option Expr → Option Expr
  | some (.Call _ (a :: _) _ _) => some a
  | _ => none
abbrev scpW : Scope := scopeOf (arg0? (ret? ((defBody sWithin).head!)))
theorem cW : CompP (defScope sWithin) scpW "t" ["inside"] ["told", "inside"] [1] := by decide +kernel
theorem ok_within {f : Addr} {fd : FuncData} (F : Fun K "tells_within" "tells_within" sWithin f fd) (za : mg "all" = none) : FnOk P w K mg base (CXE P w) 1 f fd ["told", "inside"] spWithin := by
  refine F.okE scW (fun vs H Q E h => ?_) (fun cdv A outer s H vs Q E hr h => ?_)
  · obtain ⟨l, i, fs, kvs, rfl, _⟩ := h
    rfl
  · obtain ⟨l, i, fs, kvs, rfl, hl, hz, hi, k⟩ := h
    have hu := hu_of hr
    have co : CompOk (cxE P w K mg base ["told", "inside"] "tells_within" (defScope sWithin) f cdv A outer s H E).nox scpW [("inside", s.heap.objs.size + 1)] "t" [1] ["t", "inside"] :=
      comp_ok rfl rfl rfl cW rfl rfl (by intro q hq; rw [List.mem_singleton.mp hq]; rfl)
    refine ⟨_, PSs.nox (pss_one (ps_ret (pe_callB (call_all rfl) rfl za PyProof.Rows.Boot.«all» (pa_cons (pe_comp co rfl (pi_list (pv 0))
      (fun C fp s₀ H₀ => pe_or (pe_cmpR op_isN (pv 0) pe_non (nomark _)) (pe_one (pe_cmp (pc_din hu (pv 0) (pv 1)))))) pa_nil)))), ?_⟩
    refine ⟨_, rfl, l, rfl, ⟨_, SqL.of hl⟩, fun D hD => ?_⟩
    refine comp_list (K := K) (a := l) (xs := fs.map oV) (fun j zs H2 => zs = ((fs.take j).map (wIn kvs)).map V.bl ∧ Same H H2 ∧ H2 D = some (.lst zs)) ⟨rfl, Same.upd hD, upd_same⟩
      (fun j zs H2 hj ⟨e, _, z⟩ => ⟨z, by rw [List.length_map] at hj; rw [e, List.length_map, List.length_map, List.length_take]; omega⟩) (fun j zs H2 _ ⟨_, s2, _⟩ => SqL.of (s2 _ _ hl)) (Nat.le_trans (by rw [List.length_map]; exact hz) (by decide))
      (fun j x zs H2 hx ⟨e, s2, z⟩ => ?_) (fun zs H2 ⟨e, s2, z⟩ => ?_)
    · have hlt : j < fs.length := by have := (List.getElem?_eq_some_iff.mp hx).1; rwa [List.length_map] at this
      have tk : fs.take (j + 1) = fs.take j ++ [fs[j]] := List.take_succ_eq_append_getElem hlt
      have hxe : x = oV fs[j] := by
        rw [List.getElem?_map, List.getElem?_eq_getElem hlt] at hx
        exact (Option.some.inj hx).symm
      subst hxe
      have fin : ∀ b : Bool, wIn kvs fs[j] = b → H2 D = some (.lst zs) ∧ (zs ++ [V.bl b] = ((fs.take (j + 1)).map (wIn kvs)).map V.bl ∧ Same H (upd H2 D (.lst (zs ++ [V.bl b]))) ∧ upd H2 D (.lst (zs ++ [V.bl b])) D = some (.lst (zs ++ [V.bl b]))) := fun b hb =>
        ⟨z, by rw [tk, e, List.map_append, List.map_append, ← hb]; rfl, fun c u g => by rw [upd_ne (ne_of_none g hD)]; exact s2 c u g, upd_same⟩
      cases hc : fs[j] with
      | none => exact ⟨_, rfl, rfl, _, rfl, iteT (fin true (by rw [hc]; rfl))⟩
      | some n => exact ⟨_, rfl, rfl, _, rfl, iteF ⟨_, rfl, _, rfl, i, _, rfl, DGet.k (k := Sum.inl n) (s2 _ _ hi), fin _ (by rw [hc]; rfl)⟩⟩
    · rw [List.length_map, List.take_of_length_le (Nat.le_refl _)] at e
      refine ⟨D, fs.map (wIn kvs), rfl, by rw [← e]; exact SqL.of z, ?_⟩
      rw [List.all_map]
      exact k H2 s2
/-- what a closed list is -/
def Cl (rs : List (Option Int)) (ks : Fs) (ns : List Int) : Prop := ns.Pairwise (· < ·) ∧ (∀ t ∈ ns, t ∈ keys ks) ∧ (∀ n, some n ∈ rs → n ∈ ns) ∧ ∀ p ∈ ks, p.1 ∈ ns → ∀ n, some n ∈ p.2 → n ∈ ns
def insd (l : List Int) : List (Key × V) := l.map fun t => (Sum.inl t, V.bl true)
theorem val_insd (t : Int) : ∀ l : List Int, valV (insd l) (Sum.inl t) = if t ∈ l then some (V.bl true) else none
  | [] => rfl
  | k :: r => by
    have ih := val_insd t r
    by_cases e : k = t
    · subst e
      rw [show insd (k :: r) = (Sum.inl k, V.bl true) :: insd r from rfl, valV_pos rfl, if_pos (by simp)]
    · rw [show insd (k :: r) = (Sum.inl k, V.bl true) :: insd r from rfl, valV_neg (fun z => e (by injection z)), ih]
      have : (t ∈ k :: r) ↔ t ∈ r := by
        rw [List.mem_cons]
        exact ⟨fun z => z.resolve_left fun y => e y.symm, .inr⟩
      simp only [this]
theorem win_iff (ns : List Int) (x : Option Int) : wIn (insd ns) x = true ↔ ∀ n, x = some n → n ∈ ns := by
  cases x with
  | none => simp [wIn]
  | some n =>
    show (valV (insd ns) (Sum.inl n)).isSome = true ↔ _
    rw [val_insd]
    by_cases h : n ∈ ns
    · rw [if_pos h]
      exact ⟨fun _ m e => by injection e with e; rw [← e]; exact h, fun _ => rfl⟩
    · rw [if_neg h]
      exact ⟨fun z => absurd z (by decide), fun z => absurd (z n rfl) h⟩
theorem all_win (ns : List Int) (fs : List (Option Int)) : fs.all (wIn (insd ns)) = true ↔ ∀ n, some n ∈ fs → n ∈ ns := by
  rw [List.all_eq_true]
  exact ⟨fun h n hn => (win_iff ns _).mp (h _ hn) n rfl, fun h x hx => (win_iff ns x).mpr fun n e => h n (by rw [← e]; exact hx)⟩
theorem rise_snoc {l : List Int} {t : Int} (h : l.Pairwise (· < ·)) (hm : ∀ m, l.getLast? = some m → m < t) : (l ++ [t]).Pairwise (· < ·) := by
  rw [List.pairwise_append]
  refine ⟨h, List.pairwise_singleton _ _, fun a ha b hb => ?_⟩
  rw [List.mem_singleton.mp hb]
  rcases List.eq_nil_or_concat l with e | ⟨l', m, e⟩
  · rw [e] at ha; cases ha
  · rw [List.concat_eq_append] at e
    subst e
    have hm' := hm m (by simp)
    rcases List.mem_append.mp ha with g | g
    · have := (List.pairwise_append.mp h).2.2 a g m (List.mem_singleton.mpr rfl)
      omega
    · rw [List.mem_singleton.mp g]; exact hm'
theorem rise_last {l r : List Int} {t m : Int} (h : (l ++ t :: r).Pairwise (· < ·)) (e : l.getLast? = some m) : m < t := by
  obtain ⟨ys, rfl⟩ := List.getLast?_eq_some_iff.mp e
  exact (List.pairwise_append.mp h).2.2 m (by simp) t (List.mem_cons_self ..)
theorem split_at {ns : List Int} {i : Nat} (h : i < ns.length) : ns = ns.take i ++ ns[i] :: ns.drop (i + 1) := by
  rw [← List.drop_eq_getElem_cons h, List.take_append_drop]
/-- closed_in -/
def spIn (K : PySem.W.Frag) : Sp := fun vs H Q _ => ∃ (v r d th : Addr) (o : Obj) (ad : Int → Addr) (rs : List (Option Int)) (ks : Fs) (ns : List Int), vs = [.ref v, .ref th] ∧ SqT K H v [.ref r, .ref d] ∧ Vw H r d o ad rs ks ∧ Rt rs ks ∧ H th = some (.lst (ns.map V.int)) ∧ ns.length ≤ 60 ∧
  ∀ (b : Bool) (H' : Hp), Same H H' → (b = true ↔ Cl rs ks ns) → Q (.bl b) H'
abbrev NI : List Str := ["view", "things", "fields", "inside", "last", "t"]
theorem scI : FnScope NI ["view", "things"] (defScope sIn) := ⟨rfl, rfl, rfl, by decide +kernel, rfl, by decide +kernel, by decide +kernel⟩
def snd? : Option Expr → Option Expr
  | some (.BoolOp _ (_ :: b :: _) _) => some b
  | _ => none
abbrev scpI : Scope := scopeOf (arg0? (snd? (ret? ((defBody sIn).getD 4 (.Pass ⟨0, 0, 0, 0⟩)))))
theorem cI : CompP (defScope sIn) scpI "t" ["inside", "fields"] NI [3, 2] := by decide +kernel
theorem ok_in {f fW : Addr} {fd fdW : FuncData} (F : Fun K "closed_in" "closed_in" sIn f fd) (za : mg "all" = none) (GW : FnOk P w K mg base (CXE P w) 1 fW fdW ["told", "inside"] spWithin) (mW : mg "tells_within" = some (.ref fW)) (kW : PySem.W.keepIn K (.ref fW) = true) (bW : Binds K fdW ["told", "inside"] []) :
    FnOk P w K mg base (CXE P w) 2 f fd ["view", "things"] (spIn K) := by
  refine F.okE scI (fun vs H Q E h => ?_) (fun cdv A outer s H vs Q E hr h => ?_)
  · obtain ⟨v, r, d, th, o, ad, rs, ks, ns, rfl, _⟩ := h
    rfl
  · obtain ⟨v, r, d, th, o, ad, rs, ks, ns, rfl, ht, hv, rt, hth, hz, k⟩ := h
    have hu := hu_of hr
    have co : CompOk (cxE P w K mg base NI "closed_in" (defScope sIn) f cdv A outer s H E).nox scpI [("inside", s.heap.objs.size + 2), ("fields", s.heap.objs.size + 1)] "t" [3, 2] ["t", "inside", "fields"] :=
      comp_ok rfl rfl rfl cI rfl rfl (by
        intro q hq
        rcases List.mem_cons.mp hq with e | e
        · rw [e]; rfl
        · rw [List.mem_singleton.mp e]; rfl)
    refine ⟨_, PSs.nox (pss_cons (ps_set (i := 2) scI.nd rfl (Or.inr rfl) (pe_ix ix_tup (pv 0) pe_int (fun _ _ => rfl)))
      (pss_cons (ps_set (i := 3) scI.nd rfl (Or.inr rfl) pe_dnewK)
      (pss_cons (ps_set (i := 4) scI.nd rfl (Or.inl rfl) pe_non)
      (pss_cons (ps_for PassesOwn.never rfl (pi_list (pv 1)) (pg_name (i := 5) scI.nd rfl (Or.inl rfl))
        (pss_cons (ps_if (PW.pt (pw_or (pt_cmp (pc_dnotin hu (pv 5) (pv 2)) (by with_unfolding_all rfl)) (pw_or1 (PW.pt (pw_and (pt_cmpR op_notN (pv 4) pe_non (nomark _)) (pw_and1 (pt_cmpR op_le (pv 5) (pv 4) (nomark _)))))))) (pss_one (ps_ret pe_bl)) pss_nil)
        (pss_cons (ps_dput hu (pv 3) (pv 5) pe_bl rfl)
        (pss_one (ps_set (i := 4) scI.nd rfl (Or.inl rfl) (pv 5))))))
      (pss_one (ps_ret (pe_and (xe_call GW hr rfl mW kW bW .nil passN (pa_cons (pe_ix ix_tup (pv 0) pe_int (fun _ _ => rfl)) (pa_cons (pv 3) pa_nil)))
        (pe_one (pe_callB (call_all rfl) rfl za PyProof.Rows.Boot.«all» (pa_cons (pe_comp co rfl (pi_list (pv 1))
          (fun C fp s₀ H₀ => xe_call GW hr rfl mW kW bW .nil passF (pa_cons (pe_dget hu (pv 2) (pv 0) (fun _ _ => rfl)) (pa_cons (pv 1) pa_nil)))) pa_nil)))))))))), ?_⟩
    refine ⟨_, rfl, v, _, 1, .ref d, rfl, rfl, ht, rfl, ?_⟩
    refine fun iA hiA => ?_
    refine ⟨_, rfl, th, rfl, ⟨_, SqL.of (Same.upd hiA _ _ hth)⟩, for_list (K := K) (a := th) (xs := ns.map V.int) (fun i σ H2 => ∃ v5, σ = [some (.ref v), some (.ref th), some (.ref d), some (.ref iA), some (oV (ns.take i).getLast?), v5] ∧ Same H H2 ∧ H2 iA = some (.dK (insd (ns.take i))) ∧ (ns.take i).Pairwise (· < ·) ∧ ∀ t ∈ ns.take i, t ∈ keys ks)
      ⟨none, rfl, Same.upd hiA, upd_same, List.Pairwise.nil, (fun t h => nomatch h)⟩ (fun i σ H2 _ ⟨_, _, s2, _⟩ => SqL.of (s2 _ _ hth)) ?_ ?_⟩
    · rintro i x σ H2 hx ⟨v5, rfl, s2, h2, pw, hk⟩
      have hlt : i < ns.length := by have := (List.getElem?_eq_some_iff.mp hx).1; rwa [List.length_map] at this
      have hxe : x = .int ns[i] := by
        rw [List.getElem?_map, List.getElem?_eq_getElem hlt] at hx
        exact (Option.some.inj hx).symm
      subst hxe
      have tk : ns.take (i + 1) = ns.take i ++ [ns[i]] := List.take_succ_eq_append_getElem hlt
      have sp := split_at hlt
      have hd2 := s2 _ _ hv.hd
      have bad : ¬ Cl rs ks ns → (fun (b : Bool) => Q (.bl b) H2) false := fun h => k false H2 s2 ⟨fun z => absurd z (by decide), fun z => absurd z h⟩
      obtain ⟨gl, egl⟩ : ∃ gl, (ns.take i).getLast? = gl := ⟨_, rfl⟩
      have nx : (∀ m, gl = some m → m < ns[i]) → DPut H2 iA (.int ns[i]) (.bl true) (upd H2 iA (.dK (insd (ns.take (i + 1))))) ∧ (ns.take (i + 1)).getLast? = some ns[i] ∧ Same H (upd H2 iA (.dK (insd (ns.take (i + 1))))) ∧ (ns.take (i + 1)).Pairwise (· < ·) := fun hm => by
        have pw2 := rise_snoc pw (by rw [egl]; exact hm)
        have nm : ns[i] ∉ ns.take i := fun g => by
          have := (List.pairwise_append.mp pw2).2.2 _ g _ (List.mem_singleton.mpr rfl)
          omega
        have ei : insd (ns.take (i + 1)) = putK (insd (ns.take i)) (Sum.inl ns[i]) (.bl true) := by
          rw [putK_new _ (by rw [val_insd, if_neg nm]), tk]
          unfold insd
          rw [List.map_append]
          rfl
        refine ⟨?_, by rw [tk, List.getLast?_append, List.getLast?_singleton]; rfl, fun c u g => by rw [upd_ne (ne_of_none g hiA)]; exact s2 c u g, by rw [tk]; exact pw2⟩
        rw [ei]
        exact DPut.k (k := Sum.inl ns[i]) h2 (Nat.lt_of_le_of_lt (show (insd (ns.take i)).length ≤ 60 by unfold insd; rw [List.length_map, List.length_take]; omega) (by decide))
      rw [egl]
      by_cases hin : ns[i] ∈ keys ks
      · have hk2 : ∀ t ∈ ns.take (i + 1), t ∈ keys ks := by
          rw [tk]
          intro t g
          rcases List.mem_append.mp g with g | g
          · exact hk t g
          · rw [List.mem_singleton.mp g]; exact hin
        refine ⟨_, rfl, _, rfl, d, _, rfl, dget_in hd2 hin, _, rfl, iteF ?_⟩
        cases gl with
        | none =>
          obtain ⟨n1, n2, n3, n4⟩ := nx (fun m e => nomatch e)
          exact ⟨_, rfl, rfl, _, rfl, iteF (iteF ⟨_, rfl, _, rfl, iA, _, rfl, n1, _, rfl, some (.int ns[i]), by rw [n2]; rfl, n3, upd_same, n4, hk2⟩)⟩
        | some m =>
          refine ⟨_, rfl, rfl, _, rfl, iteT ⟨_, rfl, _, rfl, ns[i], m, rfl, rfl, _, rfl, ite2 (fun h => ?_) (fun h => ?_)⟩⟩
          · have h1 : ns[i] ≤ m := by simpa using h
            refine bad fun z => ?_
            have z1 := z.1
            rw [sp] at z1
            have := rise_last z1 egl
            omega
          · have h1 : ¬ ns[i] ≤ m := by simpa using h
            obtain ⟨n1, n2, n3, n4⟩ := nx (fun m' e => by injection e with e; omega)
            exact ⟨_, rfl, _, rfl, iA, _, rfl, n1, _, rfl, some (.int ns[i]), by rw [n2]; rfl, n3, upd_same, n4, hk2⟩
      · refine ⟨_, rfl, _, rfl, d, _, rfl, dget_f hd2 ns[i], _, rfl, ?_⟩
        rw [if_neg hin]
        exact iteT (iteT (bad fun z => hin (z.2.1 _ (List.getElem_mem hlt))))
    · rintro σ H2 ⟨v5, rfl, s2, h2, pw, hk⟩
      rw [List.length_map, List.take_of_length_le (Nat.le_refl _)] at h2 pw hk
      have v2 := hv.same s2
      refine ⟨_, rfl, v, _, 0, .ref r, rfl, rfl, sqT_same ht s2, rfl, _, rfl, r, iA, rs, insd ns, rfl, v2.hr, Nat.le_trans rt.rl (by decide), h2, fun H3 s3 => ⟨_, rfl, ite2 (fun hc => ?_) (fun hc => ?_)⟩⟩
      · have s3' := s2.trans s3
        have v3 := hv.same s3'
        refine ⟨_, rfl, th, rfl, ⟨_, SqL.of (s3' _ _ hth)⟩, fun D hD => ?_⟩
        have hD0 : H D = none := s3'.free hD
        refine comp_list (K := K) (a := th) (xs := ns.map V.int) (fun j zs H4 => zs = ((ns.take j).map fun t => (fsOf ks t).all (wIn (insd ns))).map V.bl ∧ Same H3 H4 ∧ H4 D = some (.lst zs)) ⟨rfl, Same.upd hD, upd_same⟩
          (fun j zs H4 hj ⟨e, _, z⟩ => ⟨z, by rw [List.length_map] at hj; rw [e, List.length_map, List.length_map, List.length_take]; omega⟩) (fun j zs H4 _ ⟨_, s4, _⟩ => SqL.of (s4 _ _ (s3' _ _ hth))) (Nat.le_trans (by rw [List.length_map]; exact hz) (by decide))
          (fun j x zs H4 hx ⟨e, s4, z⟩ => ?_) (fun zs H4 ⟨e, s4, z⟩ => ?_)
        · have hlt : j < ns.length := by have := (List.getElem?_eq_some_iff.mp hx).1; rwa [List.length_map] at this
          have tk : ns.take (j + 1) = ns.take j ++ [ns[j]] := List.take_succ_eq_append_getElem hlt
          have hxe : x = .int ns[j] := by
            rw [List.getElem?_map, List.getElem?_eq_getElem hlt] at hx
            exact (Option.some.inj hx).symm
          subst hxe
          have hin : ns[j] ∈ keys ks := hk _ (List.getElem_mem hlt)
          have v4 := v3.same s4
          obtain ⟨f1, f2, f3⟩ := fs_at v4 rt hin
          refine ⟨_, rfl, _, rfl, d, _, rfl, dget_in v4.hd hin, _, rfl, ad ns[j], iA, fsOf ks ns[j], insd ns, rfl, f1, Nat.le_trans f2 (by decide), s4 _ _ (s3 _ _ h2), fun H5 s5 => ⟨s5 _ _ z, ?_, ?_, upd_same⟩⟩
          · rw [tk, e, List.map_append, List.map_append]; rfl
          · exact fun c u g => by rw [upd_ne (ne_of_none g hD)]; exact s5 _ _ (s4 c u g)
        · rw [List.length_map, List.take_of_length_le (Nat.le_refl _)] at e
          refine ⟨D, ns.map fun t => (fsOf ks t).all (wIn (insd ns)), rfl, by rw [← e]; exact SqL.of z, ?_⟩
          refine k _ H4 (s3'.trans s4) ?_
          rw [List.all_map, List.all_eq_true]
          constructor
          · intro h
            refine ⟨pw, hk, (all_win ns rs).mp hc, fun p hp hm => ?_⟩
            have := h p.1 hm
            simp only [Function.comp, id] at this
            rw [fsOf_mem rt.nd hp] at this
            exact (all_win ns p.2).mp this
          · intro h t htm
            simp only [Function.comp, id]
            obtain ⟨p, hp, rfl⟩ := List.mem_map.mp (hk t htm)
            rw [fsOf_mem rt.nd hp]
            exact (all_win ns p.2).mpr (h.2.2.2 p hp htm)
      · refine k false H3 (s2.trans s3) ⟨fun z => absurd z (by decide), fun z => absurd ((all_win ns rs).mpr z.2.2.1) hc⟩
end
end K70
end
section
set_option Elab.async false
set_option linter.all false
set_option maxRecDepth 100000
set_option maxHeartbeats 4000000
set_option exponentiation.threshold 4000
namespace K70
open PySem L2 LX
section
variable {P : Program} {w : World} {K : PySem.W.Frag} {mg : Str → Option Value} {base : Heap}
abbrev Tr := Option Int × Option Int × Option Int
def trV (t : Tr) : List V := [oV t.1, oV t.2.1, oV t.2.2]
def At (fs : List (Option Int)) (pl : Option Int) (n : Int) : Prop := ∃ p : Nat, pl = some (p : Int) ∧ fs[p]? = some (some n)
def From (rs : List (Option Int)) (ks : Fs) (met : List Int) (si pl : Option Int) (n : Int) : Prop := match si with
  | none => At rs pl n
  | some o => o ∈ met ∧ At (fsOf ks o) pl n
def StepOk (rs : List (Option Int)) (ks : Fs) (met : List Int) (t : Tr) (n : Int) : Prop := t.1 = some n ∧ n ∉ met ∧ From rs ks met t.2.1 t.2.2 n
inductive Runs (rs : List (Option Int)) (ks : Fs) : List Int → List Tr → List Int → Prop
  | nil {m : List Int} : Runs rs ks m [] m
  | cons {m : List Int} {t : Tr} {n : Int} {ts : List Tr} {m' : List Int} : StepOk rs ks m t n → Runs rs ks (m ++ [n]) ts m' → Runs rs ks m (t :: ts) m'
def Jd (rs : List (Option Int)) (ks : Fs) (ts : List Tr) : Prop := ∃ m, Runs rs ks [] ts m ∧ (∀ n, some n ∈ rs → n ∈ m) ∧ Shut ks m
section
variable {rs : List (Option Int)} {ks : Fs}
theorem runs_split : ∀ {xs ys : List Tr} {a m : List Int}, Runs rs ks a (xs ++ ys) m → ∃ b, Runs rs ks a xs b ∧ Runs rs ks b ys m
  | [], ys, a, m, h => ⟨a, .nil, h⟩
  | x :: xs, ys, a, m, h => by
    cases h with
    | cons s r =>
      obtain ⟨b, h1, h2⟩ := runs_split r
      exact ⟨b, .cons s h1, h2⟩
theorem runs_det : ∀ {xs : List Tr} {a b c : List Int}, Runs rs ks a xs b → Runs rs ks a xs c → b = c
  | [], a, b, c, h1, h2 => by
    cases h1
    cases h2
    rfl
  | x :: xs, a, b, c, h1, h2 => by
    cases h1 with
    | cons s1 r1 =>
      cases h2 with
      | cons s2 r2 =>
        have e := s1.1.symm.trans s2.1
        injection e with e
        subst e
        exact runs_det r1 r2
theorem runs_snoc : ∀ {xs : List Tr} {a m : List Int} {t : Tr} {n : Int}, Runs rs ks a xs m → StepOk rs ks m t n → Runs rs ks a (xs ++ [t]) (m ++ [n])
  | [], a, m, t, n, h, s => by
    cases h
    exact .cons s .nil
  | x :: xs, a, m, t, n, h, s => by
    cases h with
    | cons s1 r1 => exact .cons s1 (runs_snoc r1 s)
theorem from_key (rt : Rt rs ks) {met : List Int} (hm : ∀ m ∈ met, m ∈ keys ks) {si pl : Option Int} {n : Int} (h : From rs ks met si pl n) : n ∈ keys ks := by
  cases si with
  | none =>
    obtain ⟨p, _, e⟩ := h
    exact rt.ri n (List.mem_of_getElem? e)
  | some o =>
    obtain ⟨h1, p, _, e⟩ := h
    obtain ⟨q, hq, eq⟩ := List.mem_map.mp (hm o h1)
    rw [← eq, fsOf_mem rt.nd hq] at e
    exact rt.fi q hq n (List.mem_of_getElem? e)
theorem from_rch {met : List Int} {ns : List Int} (hns : ∀ n, some n ∈ rs → n ∈ ns) (hm : ∀ m ∈ met, Rch ks ns m) {si pl : Option Int} {n : Int} (h : From rs ks met si pl n) : Rch ks ns n := by
  cases si with
  | none =>
    obtain ⟨p, _, e⟩ := h
    exact .base (hns n (List.mem_of_getElem? e))
  | some o =>
    obtain ⟨h1, p, _, e⟩ := h
    exact .step (hm o h1) (List.mem_of_getElem? e)
theorem runs_rch {ns : List Int} (hns : ∀ n, some n ∈ rs → n ∈ ns) : ∀ {ts : List Tr} {a m : List Int}, (∀ x ∈ a, Rch ks ns x) → Runs rs ks a ts m → ∀ x ∈ m, Rch ks ns x
  | [], a, m, h, r => by
    cases r
    exact h
  | t :: ts, a, m, h, r => by
    cases r with
    | cons s r =>
      refine runs_rch hns (fun x hx => ?_) r
      rcases List.mem_append.mp hx with g | g
      · exact h x g
      · rw [List.mem_singleton.mp g]
        exact from_rch hns h s.2.2
theorem runs_things : ∀ {ts : List Tr} {a m : List Int}, Runs rs ks a ts m → m.map some = a.map some ++ ts.map (·.1)
  | [], a, m, r => by
    cases r
    simp
  | t :: ts, a, m, r => by
    cases r with
    | cons s r =>
      rw [runs_things r, List.map_append, List.append_assoc]
      show _ = a.map some ++ (t.1 :: ts.map (·.1))
      rw [s.1]
      rfl
theorem runs_nodup : ∀ {ts : List Tr} {a m : List Int}, a.Nodup → Runs rs ks a ts m → m.Nodup
  | [], a, m, h, r => by
    cases r
    exact h
  | t :: ts, a, m, h, r => by
    cases r with
    | cons s r =>
      refine runs_nodup ?_ r
      rw [List.nodup_append]
      refine ⟨h, by simp, fun x hx b hb => ?_⟩
      rw [List.mem_singleton.mp hb]
      exact fun z => s.2.1 (by rw [← z]; exact hx)
end
theorem val_some {kvs : List (Key × V)} {ms : List Int} (h : kvs.map (·.1) = ms.map Sum.inl) (n : Int) : (valV kvs (Sum.inl n)).isSome = decide (n ∈ ms) := by
  rw [← valV_any, Bool.eq_iff_iff, List.any_eq_true, decide_eq_true_eq]
  constructor
  · rintro ⟨kv, h1, h2⟩
    have h3 : kv.1 = Sum.inl n := by simpa using h2
    have h4 : (Sum.inl n : Key) ∈ ms.map Sum.inl := by rw [← h, ← h3]; exact List.mem_map_of_mem h1
    obtain ⟨m, hm, e⟩ := List.mem_map.mp h4
    injection e with e
    rw [← e]
    exact hm
  · intro hn
    have h4 : (Sum.inl n : Key) ∈ kvs.map (·.1) := by rw [h]; exact List.mem_map_of_mem hn
    obtain ⟨kv, h1, h2⟩ := List.mem_map.mp h4
    exact ⟨kv, h1, by simpa using h2⟩
/-- tells_at -/
def spTells : Sp := fun vs H Q _ => ∃ (l : Addr) (pl : Option Int) (n : Int) (fs : List (Option Int)), vs = [.ref l, oV pl, .int n] ∧ H l = some (.lst (fs.map oV)) ∧ ∀ b : Bool, (b = true ↔ At fs pl n) → Q (.bl b) H
theorem scTe : FnScope ["told", "place", "thing"] ["told", "place", "thing"] (defScope sTells) := ⟨rfl, rfl, rfl, by decide +kernel, rfl, by decide +kernel, by decide +kernel⟩
theorem ok_tells {f : Addr} {fd : FuncData} (F : Fun K "tells_at" "tells_at" sTells f fd) (zn : mg "len" = none) : FnOk P w K mg base (CXE P w) 1 f fd ["told", "place", "thing"] spTells := by
  refine F.okE scTe (fun vs H Q E h => ?_) (fun cdv A outer s H vs Q E hr h => ?_)
  · obtain ⟨l, pl, n, fs, rfl, _⟩ := h
    rfl
  · obtain ⟨l, pl, n, fs, rfl, hl, k⟩ := h
    refine ⟨_, PSs.nox (pss_one (ps_ret (pe_and (pe_cmpR op_notN (pv 1) pe_non (nomark _)) (pe_and (pe_chain op_le op_lt pe_int (pv 1) (pe_callB call_len_seq rfl zn PyProof.Rows.Boot.«len» (pa_cons (pv 0) pa_nil))) (pe_one (pe_cmpR op_eq (pe_ix ix_list (pv 0) (pv 1) (fun _ _ => rfl)) (pv 2) (nomark _))))))), ?_⟩
    have no : ¬ At fs pl n → Q (.bl false) H := fun h => k false ⟨fun z => absurd z (by decide), fun z => absurd z h⟩
    cases pl with
    | none => exact ⟨_, rfl, rfl, _, rfl, iteF (no fun ⟨p, e, _⟩ => nomatch e)⟩
    | some p =>
      refine ⟨_, rfl, rfl, _, rfl, iteT ⟨_, rfl, 0, p, rfl, rfl, _, rfl, ite2 (fun h0 => ?_) (fun h0 => ?_)⟩⟩
      · have h0 : 0 ≤ p := by simpa using h0
        obtain ⟨m, rfl⟩ : ∃ m : Nat, p = (m : Int) := ⟨p.toNat, by omega⟩
        refine ⟨_, rfl, l, _, rfl, .inl (SqL.of hl), _, _, rfl, rfl, _, rfl, ite2 (fun h1 => ?_) (fun h1 => ?_)⟩
        · have h1 : m < fs.length := by
            have h2 : (m : Int) < ((fs.map oV).length : Int) := by simpa using h1
            rw [List.length_map] at h2
            omega
          refine ⟨_, rfl, _, rfl, l, _, _, oV fs[m], rfl, rfl, SqL.of hl, atI_nat (by rw [List.getElem?_map, List.getElem?_eq_getElem h1]; rfl), _, rfl, ?_, k _ ?_⟩
          · cases fs[m] <;> rfl
          · rw [decide_eq_true_eq]
            constructor
            · intro e
              refine ⟨m, rfl, ?_⟩
              rw [List.getElem?_eq_getElem h1]
              cases hc : fs[m] with
              | none => rw [hc] at e; exact nomatch (show V.non = V.int n from e)
              | some y => rw [hc] at e; injection (show V.int y = V.int n from e) with e; rw [e]
            · rintro ⟨p, e, h⟩
              injection e with e
              have e : m = p := by omega
              subst e
              rw [List.getElem?_eq_getElem h1] at h
              rw [Option.some.inj h]
              rfl
        · refine no ?_
          rintro ⟨p, e, h⟩
          injection e with e
          have e : m = p := by omega
          subst e
          have h3 := (List.getElem?_eq_some_iff.mp h).1
          have h2 : ¬ (m : Int) < ((fs.map oV).length : Int) := by simpa using h1
          rw [List.length_map] at h2
          omega
      · refine ⟨_, rfl, iteF (no ?_)⟩
        rintro ⟨m, e, _⟩
        injection e with e
        have h0 : ¬ 0 ≤ p := by simpa using h0
        omega
/-- is_step -/
def spStep (K : PySem.W.Frag) : Sp := fun vs H Q _ => ∃ (v r d a tx : Addr) (o : Obj) (ad : Int → Addr) (rs : List (Option Int)) (ks : Fs) (kvs : List (Key × V)) (met : List Int) (t : Tr), vs = [.ref v, .ref a, .ref tx] ∧ SqT K H v [.ref r, .ref d] ∧ Vw H r d o ad rs ks ∧ Rt rs ks ∧ H a = some (.dK kvs) ∧ kvs.map (·.1) = met.map Sum.inl ∧ (∀ m ∈ met, m ∈ keys ks) ∧ H tx = some (.tup (trV t)) ∧
  ∀ b : Bool, (b = true ↔ ∃ n, StepOk rs ks met t n) → Q (.bl b) H
theorem scSt : FnScope ["view", "ahead", "triple", "thing", "origin"] ["view", "ahead", "triple"] (defScope sStep) := ⟨rfl, rfl, rfl, by decide +kernel, rfl, by decide +kernel, by decide +kernel⟩
theorem ok_step {f fT : Addr} {fd fdT : FuncData} (F : Fun K "is_step" "is_step" sStep f fd) (GT : FnOk P w K mg base (CXE P w) 1 fT fdT ["told", "place", "thing"] spTells) (mT : mg "tells_at" = some (.ref fT)) (kT : PySem.W.keepIn K (.ref fT) = true) (bT : Binds K fdT ["told", "place", "thing"] []) : FnOk P w K mg base (CXE P w) 2 f fd ["view", "ahead", "triple"] (spStep K) := by
  refine F.okE scSt (fun vs H Q E h => ?_) (fun cdv A outer s H vs Q E hr h => ?_)
  · obtain ⟨v, r, d, a, tx, o, ad, rs, ks, kvs, met, t, rfl, _⟩ := h
    rfl
  · obtain ⟨v, r, d, a, tx, o, ad, rs, ks, kvs, met, ⟨t1, t2, t3⟩, rfl, ht, hv, rt, ha, hk, hm, htx, k⟩ := h
    have hu := hu_of hr
    refine ⟨_, PSs.nox (pss_cons (ps_set (i := 3) scSt.nd rfl (Or.inl rfl) (pe_ix ix_tup (pv 2) pe_int (fun _ _ => rfl)))
      (pss_cons (ps_set (i := 4) scSt.nd rfl (Or.inl rfl) (pe_ix ix_tup (pv 2) pe_int (fun _ _ => rfl)))
      (pss_cons (ps_if (PW.pt (pw_or (pt_cmpR op_isN (pv 3) pe_non (nomark _)) (pw_or1 (pt_cmp (pc_din hu (pv 3) (pv 1)) (by with_unfolding_all rfl))))) (pss_one (ps_ret pe_bl)) pss_nil)
      (pss_cons (ps_if (pt_cmpR op_isN (pv 4) pe_non (nomark _)) (pss_one (ps_ret (xe_call GT hr rfl mT kT bT .nil passN (pa_cons (pe_ix ix_tup (pv 0) pe_int (fun _ _ => rfl)) (pa_cons (pe_ix ix_tup (pv 2) pe_int (fun _ _ => rfl)) (pa_cons (pv 3) pa_nil)))))) pss_nil)
      (pss_one (ps_ret (pe_and (pe_cmp (pc_din hu (pv 4) (pv 1))) (pe_one (xe_call GT hr rfl mT kT bT .nil passN (pa_cons (pe_dget hu (pe_ix ix_tup (pv 0) pe_int (fun _ _ => rfl)) (pv 4) (fun _ _ => rfl)) (pa_cons (pe_ix ix_tup (pv 2) pe_int (fun _ _ => rfl)) (pa_cons (pv 3) pa_nil)))))))))))), ?_⟩
    have no : (¬ ∃ n, StepOk rs ks met (t1, t2, t3) n) → Q (.bl false) H := fun h => k false ⟨fun z => absurd z (by decide), fun z => absurd z h⟩
    refine ⟨_, rfl, tx, _, 0, oV t1, rfl, rfl, SqT.of htx, rfl, ?_⟩
    refine ⟨_, rfl, tx, _, 1, oV t2, rfl, rfl, SqT.of htx, rfl, ?_⟩
    cases t1 with
    | none => exact ⟨_, rfl, rfl, _, rfl, iteT (iteT (no fun ⟨n, h, _⟩ => nomatch h))⟩
    | some n =>
      refine ⟨_, rfl, rfl, _, rfl, iteF ⟨_, rfl, _, rfl, a, _, rfl, DGet.k (k := Sum.inl n) ha, _, rfl, ?_⟩⟩
      rw [val_some hk]
      by_cases hn : n ∈ met
      · rw [decide_eq_true hn]
        exact iteT (no fun ⟨m, h, h2, _⟩ => by injection h with h; rw [← h] at h2; exact h2 hn)
      · rw [decide_eq_false hn]
        refine iteF ?_
        cases t2 with
        | none =>
          refine ⟨_, rfl, rfl, _, rfl, iteT ⟨_, rfl, v, _, 0, .ref r, rfl, rfl, ht, rfl, _, rfl, tx, _, 2, oV t3, rfl, rfl, SqT.of htx, rfl, _, rfl, r, t3, n, rs, rfl, hv.hr, fun b hb => k b (hb.trans ⟨fun h => ⟨n, rfl, hn, h⟩, ?_⟩)⟩⟩
          rintro ⟨m, h, _, h3⟩
          injection h with h
          rw [h]
          exact h3
        | some og =>
          refine ⟨_, rfl, rfl, _, rfl, iteF ⟨_, rfl, _, rfl, a, _, rfl, DGet.k (k := Sum.inl og) ha, _, rfl, ?_⟩⟩
          rw [val_some hk]
          by_cases ho : og ∈ met
          · rw [decide_eq_true ho]
            obtain ⟨f1, f2, f3⟩ := fs_at hv rt (hm og ho)
            refine iteT ⟨_, rfl, v, _, 1, .ref d, rfl, rfl, ht, rfl, _, rfl, d, _, rfl, dget_in hv.hd (hm og ho), _, rfl, tx, _, 2, oV t3, rfl, rfl, SqT.of htx, rfl, _, rfl, ad og, t3, n, fsOf ks og, rfl, f1, fun b hb => k b (hb.trans ⟨fun h => ⟨n, rfl, hn, ho, h⟩, ?_⟩)⟩
            rintro ⟨m, h, _, _, h3⟩
            injection h with h
            rw [h]
            exact h3
          · rw [decide_eq_false ho]
            exact iteF (no fun ⟨m, _, _, h, _⟩ => ho h)
/-- paper_judged -/
def spJudged (K : PySem.W.Frag) : Sp := fun vs H Q _ => ∃ (v r d l : Addr) (o : Obj) (ad : Int → Addr) (rs : List (Option Int)) (ks : Fs) (xs : List Addr) (tr : Addr → Tr), vs = [.ref v, .ref l] ∧ SqT K H v [.ref r, .ref d] ∧ Vw H r d o ad rs ks ∧ Rt rs ks ∧ H l = some (.lst (xs.map V.ref)) ∧ (∀ x ∈ xs, H x = some (.tup (trV (tr x)))) ∧
  ∀ (b : Bool) (H' : Hp), Same H H' → (b = true ↔ Jd rs ks (xs.map tr)) → Q (.bl b) H'
theorem scJ : FnScope ["view", "triples", "ahead", "triple"] ["view", "triples"] (defScope sJudged) := ⟨rfl, rfl, rfl, by decide +kernel, rfl, by decide +kernel, by decide +kernel⟩
theorem ok_judged {f fL fS fI : Addr} {fd fdL fdS fdI : FuncData} (F : Fun K "paper_judged" "paper_judged" sJudged f fd) (zs : mg "sorted" = none) (GL : FnOk P w K mg base (CXE P w) 2 fL fdL ["view"] (spLook K)) (mL : mg "look_at_view" = some (.ref fL)) (kL : PySem.W.keepIn K (.ref fL) = true) (bL : Binds K fdL ["view"] [])
    (GS : FnOk P w K mg base (CXE P w) 2 fS fdS ["view", "ahead", "triple"] (spStep K)) (mS : mg "is_step" = some (.ref fS)) (kS : PySem.W.keepIn K (.ref fS) = true) (bS : Binds K fdS ["view", "ahead", "triple"] [])
    (GI : FnOk P w K mg base (CXE P w) 2 fI fdI ["view", "things"] (spIn K)) (mI : mg "closed_in" = some (.ref fI)) (kI : PySem.W.keepIn K (.ref fI) = true) (bI : Binds K fdI ["view", "things"] []) : FnOk P w K mg base (CXE P w) 3 f fd ["view", "triples"] (spJudged K) := by
  refine F.okE scJ (fun vs H Q E h => ?_) (fun cdv A outer s H vs Q E hr h => ?_)
  · obtain ⟨v, r, d, l, o, ad, rs, ks, xs, tr, rfl, _⟩ := h
    rfl
  · obtain ⟨v, r, d, l, o, ad, rs, ks, xs, tr, rfl, ht, hv, rt, hl, hx, k⟩ := h
    have hu := hu_of hr
    refine ⟨_, PSs.nox (pss_cons (ps_expr (xe_call GL hr rfl mL kL bL .nil passN (pa_cons (pv 0) pa_nil)))
      (pss_cons (ps_set (i := 2) scJ.nd rfl (Or.inl rfl) pe_dnewK)
      (pss_cons (ps_for PassesOwn.never rfl (pi_list (pv 1)) (pg_name (i := 3) scJ.nd rfl (Or.inl rfl))
        (pss_cons (ps_if (pt_not (pt_val (xe_call GS hr rfl mS kS bS .nil passN (pa_cons (pv 0) (pa_cons (pv 2) (pa_cons (pv 3) pa_nil)))))) (pss_one (ps_ret pe_bl)) pss_nil)
        (pss_one (ps_dput hu (pv 2) (pe_ix ix_tup (pv 3) pe_int (fun _ _ => rfl)) pe_bl rfl))))
      (pss_one (ps_ret (xe_call GI hr rfl mI kI bI .nil passN (pa_cons (pv 0) (pa_cons (pe_callB (call_sortedR rfl) rfl zs PyProof.Rows.Boot.«sorted» (pa_cons (pv 2) pa_nil)) pa_nil)))))))), ?_⟩
    refine ⟨_, rfl, v, r, d, o, ad, rs, ks, rfl, ht, hv, rt, ?_⟩
    refine fun a ha => ?_
    have kk : (keys ks).length = ks.length := List.length_map _
    have kl := rt.kl
    have s0 : Same H (upd H a (.dK [])) := Same.upd ha
    refine ⟨_, rfl, l, rfl, ⟨_, SqL.of (s0 _ _ hl)⟩, for_list (K := K) (a := l) (xs := xs.map V.ref) (fun i σ H2 => ∃ (v3 : Option V) (kvs : List (Key × V)) (met : List Int), σ = [some (.ref v), some (.ref l), some (.ref a), v3] ∧ Same H H2 ∧ H2 a = some (.dK kvs) ∧ kvs.map (·.1) = met.map Sum.inl ∧ met.Nodup ∧ (∀ m ∈ met, m ∈ keys ks) ∧ Runs rs ks [] ((xs.take i).map tr) met)
      ⟨none, [], [], rfl, s0, upd_same, rfl, List.nodup_nil, (fun m h => nomatch h), .nil⟩ (fun i σ H2 _ ⟨_, _, _, _, s2, _⟩ => SqL.of (s2 _ _ hl)) ?_ ?_⟩
    · rintro i y σ H2 hy ⟨v3, kvs, met, rfl, s2, z2, hk, nd, hm, hR⟩
      have hlt : i < xs.length := by have := (List.getElem?_eq_some_iff.mp hy).1; rwa [List.length_map] at this
      have tk : xs.take (i + 1) = xs.take i ++ [xs[i]] := List.take_succ_eq_append_getElem hlt
      have hxe : y = .ref xs[i] := by
        rw [List.getElem?_map, List.getElem?_eq_getElem hlt] at hy
        exact (Option.some.inj hy).symm
      subst hxe
      have hxi := hx _ (List.getElem_mem hlt)
      refine ⟨_, rfl, _, rfl, _, rfl, v, r, d, a, xs[i], o, ad, rs, ks, kvs, met, tr xs[i], rfl, sqT_same ht s2, hv.same s2, rt, z2, hk, hm, s2 _ _ hxi, fun b hb => ⟨_, rfl, ite2 (fun h => ?_) (fun h => ?_)⟩⟩
      · have hb0 : ¬ b = true := by simpa using h
        refine k false H2 s2 ⟨fun z => absurd z (by decide), fun z => absurd (hb.mpr ?_) hb0⟩
        obtain ⟨m, hr', _⟩ := z
        have e : xs.map tr = (xs.take i).map tr ++ tr xs[i] :: (xs.drop (i + 1)).map tr := by
          rw [← List.map_cons, ← List.drop_eq_getElem_cons hlt, ← List.map_append, List.take_append_drop]
        rw [e] at hr'
        obtain ⟨m2, h1, h2⟩ := runs_split hr'
        rw [runs_det h1 hR] at h2
        cases h2 with
        | cons s _ => exact ⟨_, s⟩
      · have hb1 : b = true := by simpa using h
        obtain ⟨n, hs⟩ := hb.mp hb1
        have lk : kvs.length = met.length := by
          have := congrArg List.length hk
          simpa using this
        have ml := nodup_len nd hm
        have vn : valV kvs (Sum.inl n) = none := by
          have := val_some hk n
          rw [decide_eq_false hs.2.1] at this
          simpa using this
        refine ⟨_, rfl, _, rfl, xs[i], _, 0, oV (tr xs[i]).1, rfl, rfl, SqT.of (s2 _ _ hxi), rfl, a, _, rfl, (by rw [hs.1]; exact DPut.k (k := Sum.inl n) z2 (Nat.lt_of_le_of_lt (show kvs.length ≤ 12 by omega) (by decide))), ?_⟩
        rw [putK_new _ vn]
        refine ⟨_, kvs ++ [(Sum.inl n, V.bl true)], met ++ [n], rfl, fun c u g => by rw [upd_ne (ne_of_none g ha)]; exact s2 c u g, upd_same, by rw [List.map_append, hk, List.map_append]; rfl, ?_, fun m h => ?_, ?_⟩
        · rw [List.nodup_append]
          refine ⟨nd, by simp, fun c hc b hb => ?_⟩
          rw [List.mem_singleton.mp hb]
          exact fun z => hs.2.1 (by rw [← z]; exact hc)
        · rcases List.mem_append.mp h with g | g
          · exact hm m g
          · rw [List.mem_singleton.mp g]
            exact from_key rt hm hs.2.2
        · rw [tk, List.map_append]
          exact runs_snoc hR hs
    · rintro σ H2 ⟨v3, kvs, met, rfl, s2, z2, hk, nd, hm, hR⟩
      rw [List.length_map, List.take_of_length_le (Nat.le_refl _)] at hR
      have ml := nodup_len nd hm
      refine ⟨_, rfl, _, rfl, a, kvs, met, rfl, .inl z2, hk, by omega, fun q ms hq pm pw => ?_⟩
      have s3 := s2.trans (Same.upd (o := .lst (ms.map V.int)) hq)
      refine ⟨v, r, d, q, o, ad, rs, ks, ms, rfl, sqT_same ht s3, hv.same s3, rt, upd_same, by rw [pm.length_eq]; omega, fun b H4 s4 hb => k b H4 (s3.trans s4) (hb.trans ?_)⟩
      have rise : ms.Pairwise (· < ·) := (pw.and (pm.nodup_iff.mpr nd)).imp fun ⟨h1, h2⟩ => Int.lt_iff_le_and_ne.mpr ⟨h1, h2⟩
      constructor
      · rintro ⟨_, _, c3, c4⟩
        refine ⟨met, hR, fun n hn => pm.mem_iff.mp (c3 n hn), fun t ht' n hn => ?_⟩
        obtain ⟨p, hp, rfl⟩ := List.mem_map.mp (hm t ht')
        rw [fsOf_mem rt.nd hp] at hn
        exact pm.mem_iff.mp (c4 p hp (pm.mem_iff.mpr ht') n hn)
      · rintro ⟨m2, hR2, c1, c2⟩
        have e := runs_det hR2 hR
        subst e
        refine ⟨rise, fun t ht' => hm t (pm.mem_iff.mp ht'), fun n hn => pm.mem_iff.mpr (c1 n hn), fun p hp hpm n hn => pm.mem_iff.mpr (c2 p.1 (pm.mem_iff.mp hpm) n (by rw [fsOf_mem rt.nd hp]; exact hn))⟩
end
end K70
end
section
set_option Elab.async false
set_option linter.all false
set_option maxRecDepth 100000
set_option maxHeartbeats 4000000
set_option exponentiation.threshold 4000
namespace K70
open PySem L2 LX
section
variable {P : Program} {w : World} {K : PySem.W.Frag} {mg : Str → Option Value} {base : Heap}
structure Pap (H : Hp) (l : Addr) (xs : List Addr) (tr : Addr → Tr) : Prop where
  hl : H l = some (.lst (xs.map V.ref))
  hx : ∀ x ∈ xs, H x = some (.tup (trV (tr x)))
def setTr (tr : Addr → Tr) (u : Addr) (t : Tr) : Addr → Tr := fun y => if y = u then t else tr y
theorem Pap.same {H H' : Hp} {l : Addr} {xs : List Addr} {tr : Addr → Tr} (p : Pap H l xs tr) (s : Same H H') : Pap H' l xs tr := ⟨s _ _ p.hl, fun x h => s _ _ (p.hx x h)⟩
theorem set_map {xs : List Addr} {tr : Addr → Tr} {u : Addr} {t : Tr} (h : u ∉ xs) : xs.map (setTr tr u t) = xs.map tr := List.map_congr_left fun x hx => if_neg fun z => h (by rw [← z]; exact hx)
theorem Pap.add {H : Hp} {l : Addr} {xs : List Addr} {tr : Addr → Tr} (p : Pap H l xs tr) {u : Addr} (hu : H u = none) (t : Tr) : Pap (upd (upd H u (.tup (trV t))) l (.lst (xs.map V.ref ++ [V.ref u]))) l (xs ++ [u]) (setTr tr u t) ∧ (xs ++ [u]).map (setTr tr u t) = xs.map tr ++ [t] := by
  have hn : u ∉ xs := fun h => by have := p.hx u h; rw [hu] at this; cases this
  have e : setTr tr u t u = t := if_pos rfl
  refine ⟨⟨by rw [upd_same, List.map_append]; rfl, fun x h => ?_⟩, by rw [List.map_append, set_map hn, List.map_singleton, e]⟩
  rcases List.mem_append.mp h with g | g
  · have hx := p.hx x g
    rw [upd_ne (ne_of hx p.hl (by intro z; cases z)), show setTr tr u t x = tr x from if_neg fun z => hn (by rw [← z]; exact g)]
    exact Same.upd hu _ _ hx
  · rw [List.mem_singleton.mp g, e]
    have nl : u ≠ l := fun z => by rw [z, p.hl] at hu; cases hu
    rw [upd_ne nl, upd_same]
theorem runs_keys {rs : List (Option Int)} {ks : Fs} (rt : Rt rs ks) : ∀ {ts : List Tr} {a m : List Int}, (∀ x ∈ a, x ∈ keys ks) → Runs rs ks a ts m → ∀ x ∈ m, x ∈ keys ks
  | [], a, m, h, r => by
    cases r
    exact h
  | t :: ts, a, m, h, r => by
    cases r with
    | cons s r =>
      refine runs_keys rt (fun x hx => ?_) r
      rcases List.mem_append.mp hx with g | g
      · exact h x g
      · rw [List.mem_singleton.mp g]
        exact from_key rt h s.2.2
theorem runs_len {rs : List (Option Int)} {ks : Fs} {ts : List Tr} {m : List Int} (r : Runs rs ks [] ts m) : ts.length = m.length := by
  have := congrArg List.length (runs_things r)
  simpa using this.symm
theorem runs_small {rs : List (Option Int)} {ks : Fs} (rt : Rt rs ks) {ts : List Tr} {m : List Int} (r : Runs rs ks [] ts m) : m.length ≤ 12 := by
  have := nodup_len (runs_nodup List.nodup_nil r) (runs_keys rt (a := []) (fun x h => nomatch h) r)
  have := rt.kl
  have kk : (keys ks).length = ks.length := List.length_map _
  omega
def left? : Option Expr → Option Expr
  | some (.Compare a _ _ _) => some a
  | _ => none
theorem mod_nat (x : Int) {m : Int} (hm : 0 < m) : ∃ j : Nat, x % m = (j : Int) ∧ (j : Int) < m := by
  have b0 := Int.emod_nonneg x (show m ≠ 0 by omega)
  have b1 := Int.emod_lt_of_pos x hm
  exact ⟨(x % m).toNat, by omega, by omega⟩
theorem things_are {rs : List (Option Int)} {ks : Fs} {xs : List Addr} {tr : Addr → Tr} {m : List Int} (hR : Runs rs ks [] (xs.map tr) m) : (xs.map fun x => oV (tr x).1) = m.map V.int := by
  have h := runs_things hR
  rw [List.map_nil, List.nil_append, List.map_map] at h
  have h2 := congrArg (List.map oV) h
  rw [List.map_map, List.map_map] at h2
  exact h2.symm
def tst? : Stmt → Option Expr
  | .If e _ _ _ => some e
  | _ => none
end
end K70
end
section
set_option Elab.async false
set_option linter.all false
set_option maxRecDepth 100000
set_option maxHeartbeats 4000000
set_option exponentiation.threshold 4000
namespace K70
open PySem L2 LX
section
variable {P : Program} {w : World} {K : PySem.W.Frag} {mg : Str → Option Value} {base : Heap}
theorem putK_old {kvs : List (Key × V)} {k : Key} (v : V) (h : (valV kvs k).isSome = true) : (putK kvs k v).map (·.1) = kvs.map (·.1) := by
  unfold putK
  rw [valV_any, h, if_pos rfl, List.map_map]
  refine List.map_congr_left fun p _ => ?_
  show (if p.1 = k then (p.1, v) else p).1 = p.1
  split <;> rfl
theorem dput_add {H : Hp} {a : Addr} {kvs : List (Key × V)} {ms : List Int} (hs : H a = some (.dK kvs)) (hk : kvs.map (·.1) = ms.map Sum.inl) (nd : ms.Nodup) (hl : ms.length ≤ 1000) (n : Int) :
    ∃ (kvs' : List (Key × V)) (ms' : List Int), DPut H a (.int n) (.bl true) (upd H a (.dK kvs')) ∧ kvs'.map (·.1) = ms'.map Sum.inl ∧ ms'.Nodup ∧ (∀ k, k ∈ ms' ↔ k ∈ ms ∨ k = n) ∧ ms'.length ≤ ms.length + 1 := by
  have lk : kvs.length = ms.length := by
    have := congrArg List.length hk
    simpa using this
  have hv := val_some hk n
  have dp := DPut.k (k := Sum.inl n) (v := .bl true) hs (Nat.lt_of_le_of_lt (show kvs.length ≤ 1000 by omega) (by decide))
  by_cases h : n ∈ ms
  · rw [decide_eq_true h] at hv
    refine ⟨putK kvs (Sum.inl n) (.bl true), ms, dp, by rw [putK_old _ hv, hk], nd, fun k => ⟨.inl, fun z => z.elim id fun e => by rw [e]; exact h⟩, Nat.le_succ _⟩
  · rw [decide_eq_false h] at hv
    have vn : valV kvs (Sum.inl n) = none := by simpa using hv
    rw [putK_new _ vn] at dp
    refine ⟨_, ms ++ [n], dp, by rw [List.map_append, hk, List.map_append]; rfl, ?_, fun k => by rw [List.mem_append, List.mem_singleton], Nat.le_of_eq (by rw [List.length_append, List.length_singleton])⟩
    rw [List.nodup_append]
    refine ⟨nd, by simp, fun c hc b hb => ?_⟩
    rw [List.mem_singleton.mp hb]
    exact fun z => h (by rw [← z]; exact hc)
theorem rise_of {ms us : List Int} (nd : ms.Nodup) (pm : us.Perm ms) (pw : us.Pairwise (· ≤ ·)) : us.Pairwise (· < ·) := (pw.and (pm.nodup_iff.mpr nd)).imp fun ⟨h1, h2⟩ => Int.lt_iff_le_and_ne.mpr ⟨h1, h2⟩
theorem oV_ints (us : List Int) : us.map V.int = (us.map some).map oV := by rw [List.map_map]; rfl
/-- rooted_view -/
def spRooted (K : PySem.W.Frag) : Sp := fun vs H Q _ => ∃ (v r d b : Addr) (rs : List (Option Int)) (bs : List Int), vs = [.ref v, .ref b] ∧ SqT K H v [.ref r, .ref d] ∧ H r = some (.lst (rs.map oV)) ∧ rs.length ≤ 20 ∧ H b = some (.lst (bs.map V.int)) ∧ bs.length ≤ 20 ∧
  ∀ (v' r' : Addr) (us : List Int) (H' : Hp), Same H H' → H' v' = some (.tup [.ref r', .ref d]) → H' r' = some (.lst ((rs ++ us.map some).map oV)) → us.Pairwise (· < ·) → (∀ k, k ∈ us ↔ k ∈ bs) → Q (.ref v') H'
theorem scRo : FnScope ["view", "read", "given_back", "thing"] ["view", "read"] (defScope sRooted) := ⟨rfl, rfl, rfl, by decide +kernel, rfl, by decide +kernel, by decide +kernel⟩
theorem ok_rooted {f : Addr} {fd : FuncData} (F : Fun K "rooted_view" "rooted_view" sRooted f fd) (zs : mg "sorted" = none) : FnOk P w K mg base (CXE P w) 1 f fd ["view", "read"] (spRooted K) := by
  refine F.okE scRo (fun vs H Q E h => ?_) (fun cdv A outer s H vs Q E hr h => ?_)
  · obtain ⟨v, r, d, b, rs, bs, rfl, _⟩ := h
    rfl
  · obtain ⟨v, r, d, b, rs, bs, rfl, ht, hr0, hz, hb, hy, k⟩ := h
    have hu := hu_of hr
    refine ⟨_, PSs.nox (pss_cons (ps_set (i := 2) scRo.nd rfl (Or.inl rfl) pe_dnewK)
      (pss_cons (ps_for PassesOwn.never rfl (pi_list (pv 1)) (pg_name (i := 3) scRo.nd rfl (Or.inl rfl)) (pss_one (ps_dput hu (pv 2) (pv 3) pe_bl rfl)))
      (pss_one (ps_ret (pe_tup (pa_cons (pe_op op_cat (pe_ix ix_tup (pv 0) pe_int (fun _ _ => rfl)) (pe_callB (call_sortedR rfl) rfl zs PyProof.Rows.Boot.«sorted» (pa_cons (pv 2) pa_nil))) (pa_cons (pe_ix ix_tup (pv 0) pe_int (fun _ _ => rfl)) pa_nil))))))), ?_⟩
    refine fun a ha => ?_
    have s0 : Same H (upd H a (.dK [])) := Same.upd ha
    refine ⟨_, rfl, b, rfl, ⟨_, SqL.of (s0 _ _ hb)⟩, for_list (K := K) (a := b) (xs := bs.map V.int) (fun i σ H2 => ∃ (v3 : Option V) (kvs : List (Key × V)) (ms : List Int), σ = [some (.ref v), some (.ref b), some (.ref a), v3] ∧ Same H H2 ∧ H2 a = some (.dK kvs) ∧ kvs.map (·.1) = ms.map Sum.inl ∧ ms.Nodup ∧ ms.length ≤ i ∧ ∀ k, k ∈ ms ↔ k ∈ bs.take i)
      ⟨none, [], [], rfl, s0, upd_same, rfl, List.nodup_nil, Nat.le_refl _, fun k => Iff.rfl⟩ (fun i σ H2 _ ⟨_, _, _, _, s2, _⟩ => SqL.of (s2 _ _ hb)) ?_ ?_⟩
    · rintro i y σ H2 hy' ⟨v3, kvs, ms, rfl, s2, z2, hk, nd, ml, hm⟩
      have hlt : i < bs.length := by have := (List.getElem?_eq_some_iff.mp hy').1; rwa [List.length_map] at this
      have tk : bs.take (i + 1) = bs.take i ++ [bs[i]] := List.take_succ_eq_append_getElem hlt
      have hxe : y = .int bs[i] := by
        rw [List.getElem?_map, List.getElem?_eq_getElem hlt] at hy'
        exact (Option.some.inj hy').symm
      subst hxe
      obtain ⟨kvs', ms', dp, hk', nd', hm', ml'⟩ := dput_add z2 hk nd (by omega) bs[i]
      refine ⟨_, rfl, _, rfl, a, _, rfl, dp, _, kvs', ms', rfl, fun c u g => by rw [upd_ne (ne_of_none g ha)]; exact s2 c u g, upd_same, hk', nd', by omega, fun k => ?_⟩
      rw [hm', hm, tk, List.mem_append, List.mem_singleton]
    · rintro σ H2 ⟨v3, kvs, ms, rfl, s2, z2, hk, nd, ml, hm⟩
      rw [List.length_map] at ml
      rw [List.length_map, List.take_of_length_le (Nat.le_refl _)] at hm
      refine ⟨_, rfl, v, _, 0, .ref r, rfl, rfl, sqT_same ht s2, rfl, _, rfl, a, kvs, ms, rfl, .inl z2, hk, by omega, fun q us hq pm pw => ?_⟩
      have s3 := s2.trans (Same.upd (o := .lst (us.map V.int)) hq)
      have ul : us.length ≤ 20 := by rw [pm.length_eq]; omega
      refine ⟨r, q, rs.map oV, us.map V.int, rfl, rfl, s3 _ _ hr0, upd_same, Nat.le_trans (show (rs.map oV).length + (us.map V.int).length ≤ 40 by rw [List.length_map, List.length_map]; omega) (by decide), fun r' hr' => ?_⟩
      rw [oV_ints, ← List.map_append]
      have s4 := s3.trans (Same.upd (o := .lst ((rs ++ us.map some).map oV)) hr')
      rw [oV_ints] at s4
      refine ⟨_, rfl, v, _, 1, .ref d, rfl, rfl, sqT_same ht s4, rfl, by show 2 ≤ sizeLine; decide, fun v' hv' => ?_⟩
      exact k v' r' us _ (s4.trans (Same.upd hv')) upd_same (Same.upd hv' _ _ upd_same) (rise_of nd pm pw) fun k => pm.mem_iff.trans (hm k)
/-- things_without -/
def Gn (ks : Fs) (ts : List Tr) (gs : List Int) : Prop := gs.Pairwise (· < ·) ∧ ∀ t, t ∈ gs ↔ t ∈ keys ks ∧ some t ∉ ts.map (·.1)
theorem Gn.one {ks : Fs} {ts : List Tr} {a b : List Int} (h1 : Gn ks ts a) (h2 : Gn ks ts b) : a = b := rise_one h1.1 h2.1 fun k => (h1.2 k).trans (h2.2 k).symm
def spWithout (K : PySem.W.Frag) : Sp := fun vs H Q _ => ∃ (v r d l : Addr) (o : Obj) (ad : Int → Addr) (rs : List (Option Int)) (ks : Fs) (xs : List Addr) (tr : Addr → Tr), vs = [.ref v, .ref l] ∧ SqT K H v [.ref r, .ref d] ∧ Vw H r d o ad rs ks ∧ Rt rs ks ∧ Pap H l xs tr ∧ xs.length ≤ 60 ∧ (∀ x ∈ xs, ∃ n, (tr x).1 = some n) ∧
  ∀ (q : Addr) (ws : List Int) (H' : Hp), Same H H' → H q = none → H' q = some (.lst (ws.map V.int)) → Gn ks (xs.map tr) ws → Q (.ref q) H'
abbrev NT : List Str := ["view", "triples", "kept", "triple"]
theorem scTw : FnScope NT ["view", "triples"] (defScope sWithout) := ⟨rfl, rfl, rfl, by decide +kernel, rfl, by decide +kernel, by decide +kernel⟩
abbrev scpT : Scope := scopeOf (ret? ((defBody sWithout).getD 2 (.Pass ⟨0, 0, 0, 0⟩)))
theorem cT : CompP (defScope sWithout) scpT "t" ["kept"] NT [2] := by decide +kernel
theorem ok_without {f : Addr} {fd : FuncData} (F : Fun K "things_without" "things_without" sWithout f fd) (zs : mg "sorted" = none) : FnOk P w K mg base (CXE P w) 1 f fd ["view", "triples"] (spWithout K) := by
  refine F.okE scTw (fun vs H Q E h => ?_) (fun cdv A outer s H vs Q E hr h => ?_)
  · obtain ⟨v, r, d, l, o, ad, rs, ks, xs, tr, rfl, _⟩ := h
    rfl
  · obtain ⟨v, r, d, l, o, ad, rs, ks, xs, tr, rfl, ht, hv, rt, pap, xl, hwh, k⟩ := h
    have hu := hu_of hr
    have co : CompOk (cxE P w K mg base NT "things_without" (defScope sWithout) f cdv A outer s H E).nox scpT [("kept", s.heap.objs.size + 1)] "t" [2] ["t", "kept"] :=
      comp_ok rfl rfl rfl cT rfl rfl (by intro q hq; rw [List.mem_singleton.mp hq]; rfl)
    refine ⟨_, PSs.nox (pss_cons (ps_set (i := 2) scTw.nd rfl (Or.inr rfl) pe_dnewK)
      (pss_cons (ps_for PassesOwn.never rfl (pi_list (pv 1)) (pg_name (i := 3) scTw.nd rfl (Or.inl rfl)) (pss_one (ps_dput hu (pv 2) (pe_ix ix_tup (pv 3) pe_int (fun _ _ => rfl)) pe_bl rfl)))
      (pss_one (ps_ret (pe_compU co rfl (pi_list (pe_callB (call_sortedR rfl) rfl zs PyProof.Rows.Boot.«sorted» (pa_cons (pe_ix ix_tup (pv 0) pe_int (fun _ _ => rfl)) pa_nil))) (fun C fp s₀ H₀ => pt_cmp (pc_dnotin hu (pv 0) (pv 1)) (by with_unfolding_all rfl)) (fun C fp s₀ H₀ => pv 0)))))), ?_⟩
    refine fun a ha => ?_
    have s0 : Same H (upd H a (.dK [])) := Same.upd ha
    refine ⟨_, rfl, l, rfl, ⟨_, SqL.of (s0 _ _ pap.hl)⟩, for_list (K := K) (a := l) (xs := xs.map V.ref) (fun i σ H2 => ∃ (v3 : Option V) (kvs : List (Key × V)) (ms : List Int), σ = [some (.ref v), some (.ref l), some (.ref a), v3] ∧ Same H H2 ∧ H2 a = some (.dK kvs) ∧ kvs.map (·.1) = ms.map Sum.inl ∧ ms.Nodup ∧ ms.length ≤ i ∧ ∀ k, k ∈ ms ↔ some k ∈ ((xs.take i).map tr).map (·.1))
      ⟨none, [], [], rfl, s0, upd_same, rfl, List.nodup_nil, Nat.le_refl _, fun k => by simp⟩ (fun i σ H2 _ ⟨_, _, _, _, s2, _⟩ => SqL.of (s2 _ _ pap.hl)) ?_ ?_⟩
    · rintro i y σ H2 hy' ⟨v3, kvs, ms, rfl, s2, z2, hk, nd, ml, hm⟩
      have hlt : i < xs.length := by have := (List.getElem?_eq_some_iff.mp hy').1; rwa [List.length_map] at this
      have tk : xs.take (i + 1) = xs.take i ++ [xs[i]] := List.take_succ_eq_append_getElem hlt
      have hxe : y = .ref xs[i] := by
        rw [List.getElem?_map, List.getElem?_eq_getElem hlt] at hy'
        exact (Option.some.inj hy').symm
      subst hxe
      obtain ⟨n, en⟩ := hwh _ (List.getElem_mem hlt)
      have hxi := s2 _ _ (pap.hx _ (List.getElem_mem hlt))
      obtain ⟨kvs', ms', dp, hk', nd', hm', ml'⟩ := dput_add z2 hk nd (by omega) n
      refine ⟨_, rfl, _, rfl, xs[i], _, 0, oV (tr xs[i]).1, rfl, rfl, SqT.of hxi, rfl, a, _, rfl, (by rw [en]; exact dp), _, kvs', ms', rfl, fun c u g => by rw [upd_ne (ne_of_none g ha)]; exact s2 c u g, upd_same, hk', nd', by omega, fun k => ?_⟩
      rw [hm', hm, tk, List.map_append, List.map_append, List.mem_append]
      show _ ↔ _ ∨ some k ∈ [(tr xs[i]).1]
      rw [en, List.mem_singleton]
      exact ⟨fun z => z.imp id fun e => by rw [e], fun z => z.imp id fun e => by injection e⟩
    · rintro σ H2 ⟨v3, kvs, ms, rfl, s2, z2, hk, nd, ml, hm⟩
      rw [List.length_map, List.take_of_length_le (Nat.le_refl _)] at hm
      have v2 := hv.same s2
      have kl := rt.kl
      have kk : (keys ks).length = ks.length := List.length_map _
      refine ⟨_, rfl, v, _, 1, .ref d, rfl, rfl, sqT_same ht s2, rfl, d, kvl ad ks, keys ks, rfl, rd_vw v2, kvl_keys ad ks, by omega, fun q us hq pm pw => ?_⟩
      have s3 := Same.upd (o := .lst (us.map V.int)) hq
      have ul : us.length ≤ 12 := by rw [pm.length_eq]; omega
      have rise := rise_of rt.nd pm pw
      refine ⟨q, rfl, ⟨_, SqL.of upd_same⟩, fun D hD => ?_⟩
      refine compT_list (K := K) (a := q) (xs := us.map V.int) (fun m ys H5 => ys = ((us.take m).filter fun t => !decide (t ∈ ms)).map V.int ∧ Same (upd H2 q (.lst (us.map V.int))) H5 ∧ H5 D = some (.lst ys)) ⟨rfl, Same.upd hD, upd_same⟩ (fun m ys H5 hm' ⟨e, _, z⟩ => ⟨z, ?_⟩)
        (fun m ys H5 _ ⟨_, s5, _⟩ => SqL.of (s5 _ _ upd_same)) (Nat.le_trans (show (us.map V.int).length ≤ 12 by rw [List.length_map]; exact ul) (by decide)) (fun m x ys H5 hx ⟨e, s5, z⟩ => ?_) (fun ys H5 ⟨e, s5, z⟩ => ?_)
      · rw [e, List.length_map]
        exact Nat.le_trans (List.length_filter_le _ _) (by rw [List.length_take]; omega)
      · have hlm : m < us.length := by have := (List.getElem?_eq_some_iff.mp hx).1; rwa [List.length_map] at this
        have tm : us.take (m + 1) = us.take m ++ [us[m]] := List.take_succ_eq_append_getElem hlm
        have hxe : x = .int us[m] := by
          rw [List.getElem?_map, List.getElem?_eq_getElem hlm] at hx
          exact (Option.some.inj hx).symm
        subst hxe
        refine ⟨_, rfl, _, rfl, a, _, rfl, DGet.k (k := Sum.inl us[m]) (s5 _ _ (s3 _ _ z2)), _, rfl, ?_⟩
        rw [val_some hk]
        by_cases h : us[m] ∈ ms
        · rw [decide_eq_true h]
          refine iteF ⟨?_, s5, z⟩
          rw [tm, List.filter_append, List.map_append, e, List.filter_cons_of_neg (p := fun t => !decide (t ∈ ms)) (by simp [h])]
          simp
        · rw [decide_eq_false h]
          refine iteT ⟨_, rfl, z, ?_, fun b u q => by rw [upd_ne (ne_of_none q hD)]; exact s5 b u q, upd_same⟩
          rw [tm, List.filter_append, List.map_append, e, List.filter_cons_of_pos (p := fun t => !decide (t ∈ ms)) (by simp [h])]
          rfl
      · rw [List.length_map, List.take_of_length_le (Nat.le_refl _)] at e
        subst e
        refine k D _ H5 ((s2.trans s3).trans s5) ((s2.trans s3).free hD) z ⟨rise.sublist List.filter_sublist, fun t => ?_⟩
        rw [List.mem_filter, pm.mem_iff, ← hm t]
        simp
/-- round_judged -/
def spRound (K : PySem.W.Frag) : Sp := fun vs H Q _ => ∃ (v r d b p l g : Addr) (o : Obj) (ad : Int → Addr) (rs : List (Option Int)) (ks : Fs) (bs us : List Int) (xs : List Addr) (tr : Addr → Tr) (gs : List Int), vs = [.ref v, .ref b, .ref p] ∧ SqT K H v [.ref r, .ref d] ∧ Vw H r d o ad rs ks ∧ Rt rs ks ∧ Rt (rs ++ us.map some) ks ∧
  H b = some (.lst (bs.map V.int)) ∧ bs.length ≤ 20 ∧ us.Pairwise (· < ·) ∧ (∀ k, k ∈ us ↔ k ∈ bs) ∧ SqT K H p [.ref l, .ref g] ∧ Pap H l xs tr ∧ xs.length ≤ 60 ∧ H g = some (.lst (gs.map V.int)) ∧ gs.length ≤ 60 ∧
  ∀ (b : Bool) (H' : Hp), Same H H' → (b = true ↔ Jd (rs ++ us.map some) ks (xs.map tr) ∧ Gn ks (xs.map tr) gs) → Q (.bl b) H'
theorem scRd : FnScope ["view", "read", "paper", "rooted"] ["view", "read", "paper"] (defScope sRound) := ⟨rfl, rfl, rfl, by decide +kernel, rfl, by decide +kernel, by decide +kernel⟩
theorem ok_round {f fR fJ fW : Addr} {fd fdR fdJ fdW : FuncData} (F : Fun K "round_judged" "round_judged" sRound f fd) (zl : mg "list" = none)
    (GR : FnOk P w K mg base (CXE P w) 1 fR fdR ["view", "read"] (spRooted K)) (mR : mg "rooted_view" = some (.ref fR)) (kR : PySem.W.keepIn K (.ref fR) = true) (bR : Binds K fdR ["view", "read"] [])
    (GJ : FnOk P w K mg base (CXE P w) 3 fJ fdJ ["view", "triples"] (spJudged K)) (mJ : mg "paper_judged" = some (.ref fJ)) (kJ : PySem.W.keepIn K (.ref fJ) = true) (bJ : Binds K fdJ ["view", "triples"] [])
    (GW : FnOk P w K mg base (CXE P w) 1 fW fdW ["view", "triples"] (spWithout K)) (mW : mg "things_without" = some (.ref fW)) (kW : PySem.W.keepIn K (.ref fW) = true) (bW : Binds K fdW ["view", "triples"] []) : FnOk P w K mg base (CXE P w) 4 f fd ["view", "read", "paper"] (spRound K) := by
  refine F.okE scRd (fun vs H Q E h => ?_) (fun cdv A outer s H vs Q E hr h => ?_)
  · obtain ⟨v, r, d, b, p, l, g, o, ad, rs, ks, bs, us, xs, tr, gs, rfl, _⟩ := h
    rfl
  · obtain ⟨v, r, d, b, p, l, g, o, ad, rs, ks, bs, us, xs, tr, gs, rfl, ht, hv, rt, rt2, hb, hbl, upw, umm, hp, pap, xl, hg, gl, k⟩ := h
    have hu := hu_of hr
    have hu0 := Nat.lt_of_succ_lt hu
    have r1 := hr.mono (show 1 ≤ 3 by decide)
    refine ⟨_, PSs.nox (pss_cons (ps_set (i := 3) scRd.nd rfl (Or.inl rfl) (xe_call GR r1 rfl mR kR bR .nil passN (pa_cons (pv 0) (pa_cons (pv 1) pa_nil))))
      (pss_one (ps_ret (pe_and (xe_call GJ hr rfl mJ kJ bJ .nil passN (pa_cons (pv 3) (pa_cons (pe_ix ix_tup (pv 2) pe_int (fun _ _ => rfl)) pa_nil)))
        (pe_one (pe_cmpR (op_eqI hu0) (pe_callTy call_list_of rfl zl PyProof.Rows.Boot.«list» (pa_cons (pe_ix ix_tup (pv 2) pe_int (fun _ _ => rfl)) pa_nil)) (xe_call GW r1 rfl mW kW bW .nil passN (pa_cons (pv 0) (pa_cons (pe_ix ix_tup (pv 2) pe_int (fun _ _ => rfl)) pa_nil))) (nomark _))))))), ?_⟩
    have rl := rt.rl
    refine ⟨_, rfl, _, rfl, v, r, d, b, rs, bs, rfl, ht, hv.hr, rl, hb, hbl, fun v' r' us' H1 s1 hv1 hr1 pw1 mm1 => ?_⟩
    have eu : us' = us := rise_one pw1 upw fun k => (mm1 k).trans (umm k).symm
    subst eu
    have vv : Vw H1 r' d o ad (rs ++ us'.map some) ks := ⟨hr1, (hv.same s1).hd, (hv.same s1).hl⟩
    have pap1 := pap.same s1
    refine ⟨_, rfl, _, rfl, p, _, 0, .ref l, rfl, rfl, sqT_same hp s1, rfl, v', r', d, l, o, ad, rs ++ us'.map some, ks, xs, tr, rfl, SqT.of hv1, vv, rt2, pap1.hl, pap1.hx, fun b1 H2 s2 hb1 => ⟨_, rfl, ite2 (fun hc => ?_) (fun hc => ?_)⟩⟩
    · have s2' := s1.trans s2
      obtain ⟨m, hR, _⟩ := hb1.mp hc
      have hth := things_are hR
      refine ⟨_, rfl, p, _, 1, .ref g, rfl, rfl, sqT_same hp s2', rfl, g, _, rfl, .inl (SqL.of (s2' _ _ hg)), fun q hq => ?_⟩
      have s3 := s2'.trans (Same.upd (o := .lst (gs.map V.int)) hq)
      refine ⟨_, rfl, _, rfl, p, _, 0, .ref l, rfl, rfl, sqT_same hp s3, rfl, v, r, d, l, o, ad, rs, ks, xs, tr, rfl, sqT_same ht s3, hv.same s3, rt, pap.same s3, xl, fun x hx => ?_, fun q2 ws H4 s4 hq2 z4 hG => ?_⟩
      · have h1 : oV (tr x).1 ∈ m.map V.int := by rw [← hth]; exact List.mem_map.mpr ⟨x, hx, rfl⟩
        obtain ⟨n, _, e⟩ := List.mem_map.mp h1
        cases ht1 : (tr x).1 with
        | none => rw [ht1] at e; exact nomatch (show V.int n = V.non from e)
        | some n => exact ⟨n, rfl⟩
      · refine ⟨q, q2, gs, ws, rfl, rfl, SqL.of (s4 _ _ upd_same), SqL.of z4, k _ H4 (s3.trans s4) ?_⟩
        rw [decide_eq_true_eq]
        exact ⟨fun e => ⟨hb1.mp hc, by rw [e]; exact hG⟩, fun ⟨_, e⟩ => e.one hG⟩
    · have hc : b1 = false := by simpa using hc
      subst hc
      exact k false H2 (s1.trans s2) ⟨fun z => absurd z (by decide), fun z => absurd (hb1.mpr z.1) (by decide)⟩
end
end K70
end
section
set_option Elab.async false
set_option linter.all false
set_option maxRecDepth 100000
set_option maxHeartbeats 4000000
set_option exponentiation.threshold 4000
namespace K70
open PySem L2 LX
section
variable {P : Program} {w : World} {K : PySem.W.Frag} {mg : Str → Option Value} {base : Heap}
/-- _law_codes -/
def spCodes (K : PySem.W.Frag) : Sp := fun vs H Q _ => ∃ (a : Addr) (ns : List Int) (many : Nat), vs = [.ref a, .int (many : Int)] ∧ many ≤ 60 ∧ SqL K H a (ns.map V.int) ∧ ns.length ≤ 63 ∧
  ∀ (p : Addr) (cs : List Int) (H' : Hp), Same H H' → H p = none → H' p = some (.lst (cs.map V.int)) → cs.length ≤ 60 → (∀ c ∈ cs, 0 ≤ c ∧ c < 1048576) → Q (.ref p) H'
abbrev NC' : List Str := ["script", "many", "codes", "mixed", "k", "rest", "step", "j"]
theorem scC : FnScope NC' ["script", "many"] (defScope sCodes) := ⟨rfl, rfl, rfl, by decide +kernel, rfl, by decide +kernel, by decide +kernel⟩
theorem mod_b (x : Int) : 0 ≤ x % 2147483647 ∧ x % 2147483647 < 2147483647 := ⟨Int.emod_nonneg x (by decide), Int.emod_lt_of_pos x (by decide)⟩
theorem mul_b {x : Int} (h : 0 ≤ x ∧ x < 2147483647) : CMul x x := .inl ⟨Int.lt_of_lt_of_le (show (-(2 ^ 64) : Int) < 0 by decide) h.1, Int.lt_trans h.2 (by decide)⟩
theorem cut_mem (ns : List Int) (lo hi : Option Int) : ∃ cs : List Int, cutV (ns.map V.int) lo hi = cs.map V.int ∧ cs.length ≤ HT.sIx (ns.map V.int).length (ns.map V.int).length hi - HT.sIx (ns.map V.int).length 0 lo ∧ (∀ c ∈ cs, c ∈ ns) ∧ cs.length ≤ ns.length := by
  refine ⟨(ns.drop (HT.sIx (ns.map V.int).length 0 lo)).take (HT.sIx (ns.map V.int).length (ns.map V.int).length hi - HT.sIx (ns.map V.int).length 0 lo), ?_, ?_, fun c h => List.mem_of_mem_drop (List.mem_of_mem_take h), ?_⟩
  · unfold cutV
    rw [List.map_take, List.map_drop]
  · rw [List.length_take]
    omega
  · rw [List.length_take, List.length_drop]
    omega
theorem sIx_hi (n m : Nat) : HT.sIx n n (some (m : Int)) ≤ m := by
  unfold HT.sIx
  simp
  rw [if_neg (by omega)]
  exact Nat.min_le_left _ _
theorem ok_codes {f : Addr} {fd : FuncData} (F : Fun K "_law_codes" "_law_codes" sCodes f fd) (zu : mg "sum" = none) (zr : mg "range" = none) (zn : mg "len" = none) : FnOk P w K mg base (CXE P w) 1 f fd ["script", "many"] (spCodes K) := by
  refine F.okE scC (fun vs H Q E h => ?_) (fun cdv A outer s H vs Q E hr h => ?_)
  · obtain ⟨a, ns, many, rfl, _⟩ := h
    rfl
  · obtain ⟨a, ns, many, rfl, hm, hS, hz, k⟩ := h
    refine ⟨_, PSs.nox (pss_cons (ps_set (i := 2) scC.nd rfl (Or.inl rfl) (pe_lst pa_nil))
      (pss_cons (ps_set (i := 3) scC.nd rfl (Or.inl rfl) (pe_cmpR op_eq (pe_op op_mod (pe_callB (call_sum rfl) rfl zu PyProof.Rows.Boot.«sum» (pa_cons (pv 0) pa_nil)) pe_int) pe_int (nomark _)))
      (pss_cons (ps_for PassesOwn.never rfl (pi_range1 rfl zr (pa_cons (pe_callB call_len_seq rfl zn PyProof.Rows.Boot.«len» (pa_cons (pv 0) pa_nil)) pa_nil)) (pg_name (i := 4) scC.nd rfl (Or.inl rfl))
        (pss_cons (ps_set (i := 5) scC.nd rfl (Or.inl rfl) (pe_ix ix_list (pv 0) (pv 4) (fun _ _ => rfl)))
        (pss_cons (ps_if (pt_val (pv 3))
          (pss_cons (ps_set (i := 6) scC.nd rfl (Or.inl rfl) (pe_op op_mod (pe_op op_mul (pe_op op_add (pe_op op_add (pe_op op_mod (pv 5) pe_int) (pe_op op_mul pe_int (pv 4))) pe_int) pe_int) pe_int))
          (pss_cons (ps_set (i := 6) scC.nd rfl (Or.inl rfl) (pe_op op_mod (pe_op op_mul (pv 6) (pv 6)) pe_int))
          (pss_one (ps_set (i := 5) scC.nd rfl (Or.inl rfl) (pe_op op_add (pe_op op_mul (pe_op op_mul (pv 6) (pv 6)) pe_int) (pv 6)))))) pss_nil)
        (pss_one (ps_for PassesOwn.never rfl (pi_range1 rfl zr (pa_cons pe_int pa_nil)) (pg_name (i := 7) scC.nd rfl (Or.inl rfl))
          (pss_cons (ps_expr (pe_bm PySem.F.plainAttrs_list PySem.F.slot_list_append PySem.F.type_list_append mt_append (pv 2) (pa_cons (pe_op op_mod (pv 5) pe_int) pa_nil)))
          (pss_one (ps_set (i := 5) scC.nd rfl (Or.inl rfl) (pe_op op_fdiv (pv 5) pe_int)))))))))
      (pss_one (ps_ret (pe_slice sl_list (pv 2) po_none (po_some (pv 1)))))))), ?_⟩
    refine ⟨Nat.zero_le _, fun p hp => ?_⟩
    have s0 : Same H (upd H p (.lst [])) := Same.upd hp
    refine ⟨_, rfl, a, ns, rfl, sq_same hS s0, fun n => ⟨n, 2, rfl, rfl, (by show (0 : Int) < 2; decide), rfl, ?_⟩⟩
    obtain ⟨b, eb⟩ : ∃ b : Bool, decide (V.int (n % 2) = V.int 1) = b := ⟨_, rfl⟩
    rw [eb]
    refine ⟨_, rfl, a, _, rfl, .inl (sq_same hS s0), _, rfl, by rw [List.length_map]; omega, by rw [List.length_map]; omega, ?_⟩
    rw [List.length_map, Int.toNat_natCast]
    refine for_range (lo := 0) (n := ns.length) (fun i σ H2 => ∃ (cs : List Int) (v4 v5 v6 v7 : Option V), σ = [some (.ref a), some (.int (many : Int)), some (.ref p), some (.bl b), v4, v5, v6, v7] ∧ Same H H2 ∧ H2 p = some (.lst (cs.map V.int)) ∧ cs.length = 4 * i ∧ ∀ c ∈ cs, 0 ≤ c ∧ c < 1048576)
      ⟨[], none, none, none, none, rfl, s0, upd_same, rfl, (fun c h => nomatch h)⟩ ?_ ?_
    · rintro i σ H2 hi ⟨cs, v4, v5, v6, v7, rfl, s2, z2, cl, hc⟩
      obtain ⟨x, ex⟩ : ∃ x, ns[i] = x := ⟨_, rfl⟩
      refine ⟨_, rfl, _, rfl, a, _, _, .int x, rfl, rfl, sq_same hS s2, (by rw [Int.zero_add]; exact atI_nat (by rw [List.getElem?_map, List.getElem?_eq_getElem hi, ex]; rfl)), _, rfl, _, rfl, ?_⟩
      cases b with
      | false =>
        refine iteF ?_
        refine ⟨4, rfl, by decide, by decide, for_range (lo := 0) (n := 4) (fun j σ H3 => ∃ (cs' : List Int) (r5 : Int) (w6 v7 : Option V), σ = [some (.ref a), some (.int (many : Int)), some (.ref p), some (.bl false), some (.int (0 + (i : Int))), some (.int r5), w6, v7] ∧ Same H H3 ∧ H3 p = some (.lst (cs'.map V.int)) ∧ cs'.length = 4 * i + j ∧ ∀ c ∈ cs', 0 ≤ c ∧ c < 1048576)
          ⟨cs, _, _, v7, rfl, s2, z2, cl, hc⟩ ?_ ?_⟩
        · rintro j σ H3 hj ⟨cs', r5, w6, v7, rfl, s3, z3, cl', hc'⟩
          refine ⟨_, rfl, .inl ⟨rfl, _, SqL.of z3⟩, _, rfl, r5, 1048576, rfl, rfl, (by show (0 : Int) < 1048576; decide), p, _, _, rfl, rfl, z3, Nat.lt_of_le_of_lt (show (cs'.map V.int).length ≤ 300 by rw [List.length_map]; omega) (by decide), ?_⟩
          refine ⟨_, rfl, r5, 1048576, rfl, rfl, ⟨by decide, by decide⟩, cs' ++ [r5 % 1048576], _, _, _, rfl, fun c u g => by rw [upd_ne (ne_of_none g hp)]; exact s3 c u g, by rw [upd_same, List.map_append]; rfl, by rw [List.length_append, List.length_singleton]; omega, fun c h => ?_⟩
          rcases List.mem_append.mp h with g | g
          · exact hc' c g
          · rw [List.mem_singleton.mp g]
            exact ⟨Int.emod_nonneg _ (by decide), Int.emod_lt_of_pos _ (by decide)⟩
        · rintro σ H3 ⟨cs', r5, w6, v7, rfl, s3, z3, cl', hc'⟩
          exact ⟨cs', _, _, _, _, rfl, s3, z3, by omega, hc'⟩
      | true =>
        refine iteT ⟨_, rfl, x, 2147483647, rfl, rfl, (by show (0 : Int) < 2147483647; decide), _, rfl, 977, _, rfl, rfl, .inl ⟨by decide, by decide⟩, _, _, rfl, rfl, _, 11, rfl, rfl, _, 48271, rfl, rfl, .inr ⟨by decide, by decide⟩, _, 2147483647, rfl, rfl, (by show (0 : Int) < 2147483647; decide), ?_⟩
        refine ⟨_, rfl, _, rfl, _, _, rfl, rfl, mul_b (mod_b _), _, 2147483647, rfl, rfl, (by show (0 : Int) < 2147483647; decide), ?_⟩
        refine ⟨_, rfl, _, rfl, _, _, rfl, rfl, mul_b (mod_b _), _, 69621, rfl, rfl, .inr ⟨by decide, by decide⟩, _, rfl, _, _, rfl, rfl, ?_⟩
        refine ⟨4, rfl, by decide, by decide, for_range (lo := 0) (n := 4) (fun j σ H3 => ∃ (cs' : List Int) (r5 : Int) (w6 v7 : Option V), σ = [some (.ref a), some (.int (many : Int)), some (.ref p), some (.bl true), some (.int (0 + (i : Int))), some (.int r5), w6, v7] ∧ Same H H3 ∧ H3 p = some (.lst (cs'.map V.int)) ∧ cs'.length = 4 * i + j ∧ ∀ c ∈ cs', 0 ≤ c ∧ c < 1048576)
          ⟨cs, _, _, v7, rfl, s2, z2, cl, hc⟩ ?_ ?_⟩
        · rintro j σ H3 hj ⟨cs', r5, w6, v7, rfl, s3, z3, cl', hc'⟩
          refine ⟨_, rfl, .inl ⟨rfl, _, SqL.of z3⟩, _, rfl, r5, 1048576, rfl, rfl, (by show (0 : Int) < 1048576; decide), p, _, _, rfl, rfl, z3, Nat.lt_of_le_of_lt (show (cs'.map V.int).length ≤ 300 by rw [List.length_map]; omega) (by decide), ?_⟩
          refine ⟨_, rfl, r5, 1048576, rfl, rfl, ⟨by decide, by decide⟩, cs' ++ [r5 % 1048576], _, _, _, rfl, fun c u g => by rw [upd_ne (ne_of_none g hp)]; exact s3 c u g, by rw [upd_same, List.map_append]; rfl, by rw [List.length_append, List.length_singleton]; omega, fun c h => ?_⟩
          rcases List.mem_append.mp h with g | g
          · exact hc' c g
          · rw [List.mem_singleton.mp g]
            exact ⟨Int.emod_nonneg _ (by decide), Int.emod_lt_of_pos _ (by decide)⟩
        · rintro σ H3 ⟨cs', r5, w6, v7, rfl, s3, z3, cl', hc'⟩
          exact ⟨cs', _, _, _, _, rfl, s3, z3, by omega, hc'⟩
    · rintro σ H2 ⟨cs, v4, v5, v6, v7, rfl, s2, z2, cl, hc⟩
      refine ⟨_, rfl, _, rfl, _, rfl, p, _, rfl, SqL.of z2, fun q hq => ?_⟩
      obtain ⟨c1, e1, l1, m1, _⟩ := cut_mem cs none (some (many : Int))
      rw [e1]
      have := sIx_hi (cs.map V.int).length many
      exact k q c1 _ (s2.trans (Same.upd hq)) (s2.free hq) upd_same (by omega) fun c h => hc c (m1 c h)
/-- _law_picked -/
def spPicked (K : PySem.W.Frag) : Sp := fun vs H Q _ => ∃ (t : Addr) (n : Int) (ts : List Int), vs = [.ref t, .int n] ∧ H t = some (.lst (ts.map V.int)) ∧ ∀ (x : Option Int) (H' : Hp), Same H H' → (∀ n, x = some n → n ∈ ts) → Q (oV x) H'
theorem scPk : FnScope ["things", "number"] ["things", "number"] (defScope sPicked) := ⟨rfl, rfl, rfl, by decide +kernel, rfl, by decide +kernel, by decide +kernel⟩
theorem ok_picked {f : Addr} {fd : FuncData} (F : Fun K "_law_picked" "_law_picked" sPicked f fd) (zn : mg "len" = none) : FnOk P w K mg base (CXE P w) 1 f fd ["things", "number"] (spPicked K) := by
  refine F.okE scPk (fun vs H Q E h => ?_) (fun cdv A outer s H vs Q E hr h => ?_)
  · obtain ⟨t, n, ts, rfl, _⟩ := h
    rfl
  · obtain ⟨t, n, ts, rfl, ht, k⟩ := h
    have hu := hu_of hr
    have hu0 := Nat.lt_of_succ_lt hu
    refine ⟨_, PSs.nox (pss_cons (ps_if (PW.pt (pw_or (pt_cmpR (op_eq0 hu0) (pv 0) (pe_lst pa_nil) (nomark _)) (pw_or1 (pt_cmpR op_eq (pe_op op_mod (pv 1) pe_int) pe_int (nomark _))))) (pss_one (ps_ret pe_non)) pss_nil)
      (pss_one (ps_ret (pe_ix ix_list (pv 0) (pe_op op_mod (pe_op op_fdiv (pv 1) pe_int) (pe_callB call_len_seq rfl zn PyProof.Rows.Boot.«len» (pa_cons (pv 0) pa_nil))) (fun _ _ => rfl))))), ?_⟩
    refine ⟨_, rfl, Nat.zero_le _, fun q hq => ⟨t, q, _, rfl, rfl, SqL.of (Same.upd hq _ _ ht), SqL.of upd_same, _, rfl, ?_⟩⟩
    have s1 := Same.upd (o := .lst []) hq
    have no := k none _ s1 (fun n e => nomatch e)
    by_cases hne : ts = []
    · have ei : (ts.map V.int).isEmpty = true := by rw [hne]; rfl
      rw [ei]
      exact iteT (iteT no)
    · have ei : (ts.map V.int).isEmpty = false := by
        cases ts with
        | nil => exact absurd rfl hne
        | cons x r => rfl
      rw [ei]
      have n0 := List.length_pos_iff.mpr hne
      have nl : ((ts.map V.int).length : Int) = (ts.length : Int) := by rw [List.length_map]
      refine iteF ⟨_, rfl, n, 4, rfl, rfl, (by show (0 : Int) < 4; decide), rfl, _, rfl, ite2 (fun _ => no) (fun _ => ?_)⟩
      obtain ⟨j, ej, hj⟩ := mod_nat (n / 4) (show (0 : Int) < ((ts.map V.int).length : Int) by rw [nl]; omega)
      have hj : j < ts.length := by rw [nl] at hj; omega
      refine ⟨_, rfl, _, rfl, n, 4, rfl, rfl, ⟨by decide, by decide⟩, _, rfl, t, _, rfl, .inl (SqL.of (s1 _ _ ht)), _, _, rfl, rfl, (by show (0 : Int) < _; rw [nl]; omega), t, _, _, .int ts[j], rfl, rfl, SqL.of (s1 _ _ ht), by rw [ej]; exact atI_nat (by rw [List.getElem?_map, List.getElem?_eq_getElem hj]; rfl), ?_⟩
      exact k (some ts[j]) _ s1 fun n e => by injection e with e; rw [← e]; exact List.getElem_mem hj
end
end K70
end
section
set_option Elab.async false
set_option linter.all false
set_option maxRecDepth 100000
set_option maxHeartbeats 4000000
set_option exponentiation.threshold 4000
namespace K70
open PySem L2 LX
section
variable {P : Program} {w : World} {K : PySem.W.Frag} {mg : Str → Option Value} {base : Heap}
theorem flat20 : (List.replicate (20 : Int).toNat [V.int 0]).flatten = (List.replicate 20 (0 : Int)).map V.int := rfl
theorem at_pad (cs : List Int) {j : Nat} (h : j < 20) : ∃ x : Int, atI (cs.map V.int ++ (List.replicate (20 : Int).toNat [V.int 0]).flatten) (j : Int) = some (.int x) := by
  rw [flat20, ← List.map_append]
  have hl : j < (cs ++ List.replicate 20 (0 : Int)).length := by rw [List.length_append, List.length_replicate]; omega
  exact ⟨(cs ++ List.replicate 20 (0 : Int))[j], atI_nat (by rw [List.getElem?_map, List.getElem?_eq_getElem hl]; rfl)⟩
theorem padlen {cs : List Int} (h : cs.length ≤ 60) : (cs.map V.int).length + (List.replicate (20 : Int).toNat [V.int 0]).flatten.length ≤ sizeLine := by
  rw [flat20, List.length_map, List.length_map, List.length_replicate]
  exact Nat.le_trans (show cs.length + 20 ≤ 80 by omega) (by decide)
theorem at_three (c : Int) : ∃ m : Int, atI [V.int 1, V.int 1, V.int (10 ^ (50 : Int).toNat)] (c % 3) = some (.int m) ∧ 0 < m ∧ m ≤ 10 ^ 50 := by
  obtain ⟨j, e, h⟩ := mod_nat c (show (0 : Int) < 3 by decide)
  rw [e]
  obtain h | h | h : j = 0 ∨ j = 1 ∨ j = 2 := by omega
  · rw [h]; exact ⟨1, atI_nat rfl, by decide, by decide⟩
  · rw [h]; exact ⟨1, atI_nat rfl, by decide, by decide⟩
  · rw [h]; exact ⟨10 ^ (50 : Int).toNat, atI_nat rfl, by decide, by decide⟩
def thg (b m : Int) (k : Nat) : Int := (3 * (0 + (k : Int)) + b) * m
theorem thg_inj {b m : Int} (h : 0 < m) {i j : Nat} (e : thg b m i = thg b m j) : i = j := by
  have := Int.eq_of_mul_eq_mul_right (Int.ne_of_gt h) e
  omega
theorem thgs_nodup {b m : Int} (h : 0 < m) (n : Nat) : ((List.range n).map (thg b m)).Nodup :=
  List.Pairwise.map _ (fun i j q e => q (thg_inj h e)) List.nodup_range
theorem thg_pos {b m : Int} (hb : 0 ≤ b) (h : 0 < m) (k : Nat) : 0 ≤ thg b m k := Int.mul_nonneg (by omega) (Int.le_of_lt h)
theorem thg_top {b m : Int} (hb : b < 3) (h : 0 < m) (hm : m ≤ 10 ^ 50) {k : Nat} (hk : k ≤ 12) : thg b m k < 10 ^ 55 :=
  Int.lt_of_le_of_lt (Int.mul_le_mul (show 3 * (0 + (k : Int)) + b ≤ 38 by omega) hm (Int.le_of_lt h) (by decide)) (by decide)
theorem kvl_snoc {ad : Int → Addr} {ks : Fs} {t : Int} {fs : List (Option Int)} {l : Addr} (nk : t ∉ keys ks) : kvl ad ks ++ [(Sum.inl t, V.ref l)] = kvl (fun k => if k = t then l else ad k) (ks ++ [(t, fs)]) := by
  unfold kvl
  rw [List.map_append]
  congr 1
  · refine List.map_congr_left fun p hp => ?_
    have e9 : (if p.1 = t then l else ad p.1) = ad p.1 := if_neg fun z => nk (by rw [← z]; exact List.mem_map_of_mem hp)
    show _ = (Sum.inl p.1, V.ref (if p.1 = t then l else ad p.1))
    rw [e9]
  · simp
abbrev NV : List Str := ["codes", "head", "many", "things", "rest", "fields", "j", "code", "row", "k", "roots", "back"]
theorem scV : FnScope NV ["codes"] (defScope sView) := ⟨rfl, rfl, rfl, by decide +kernel, rfl, by decide +kernel, by decide +kernel⟩
abbrev scpV : Scope := scopeOf (cmp? ((defBody sView).getD 2 (.Pass ⟨0, 0, 0, 0⟩)))
theorem cV : CompP (defScope sView) scpV "j" ["head"] NV [1] := by decide +kernel
def spView (K : PySem.W.Frag) : Sp := fun vs H Q _ => ∃ (a : Addr) (cs : List Int), vs = [.ref a] ∧ H a = some (.lst (cs.map V.int)) ∧ cs.length ≤ 60 ∧
  ∀ (v3 r d bk : Addr) (o : Obj) (ad : Int → Addr) (rs : List (Option Int)) (ks : Fs) (bs : List Int) (H' : Hp), Same H H' → H' v3 = some (.tup [.ref r, .ref d, .ref bk]) → Vw H' r d o ad rs ks → Rt rs ks → rs.length ≤ 8 → H' bk = some (.lst (bs.map V.int)) → bs.length ≤ 3 → (∀ b ∈ bs, b ∈ keys ks) → (∀ t ∈ keys ks, t < 10 ^ 55) → Q (.ref v3) H'
/-- _law_view -/
theorem ok_view {f fP : Addr} {fd fdP : FuncData} (F : Fun K "_law_view" "_law_view" sView f fd) (zr : mg "range" = none) (zi : mg "int" = none)
    (GP : FnOk P w K mg base (CXE P w) 1 fP fdP ["things", "number"] (spPicked K)) (mP : mg "_law_picked" = some (.ref fP)) (kP : PySem.W.keepIn K (.ref fP) = true) (bP : Binds K fdP ["things", "number"] []) : FnOk P w K mg base (CXE P w) 2 f fd ["codes"] (spView K) := by
  refine F.okE scV (fun vs H Q E h => ?_) (fun cdv A outer s H vs Q E hr h => ?_)
  · obtain ⟨a, cs, rfl, _⟩ := h
    rfl
  · obtain ⟨a, cs, rfl, ha, hz, k⟩ := h
    have hu := hu_of hr
    have co : CompOk (cxE P w K mg base NV "_law_view" (defScope sView) f cdv A outer s H E).nox scpV [("head", s.heap.objs.size + 1)] "j" [1] ["j", "head"] :=
      comp_ok rfl rfl rfl cV rfl rfl (by intro q hq; rw [List.mem_singleton.mp hq]; rfl)
    refine ⟨_, PSs.nox (pss_cons (ps_set (i := 1) scV.nd rfl (Or.inr rfl) (pe_ix ix_list (pe_op op_cat (pv 0) (pe_lst (pa_cons pe_int pa_nil))) pe_int (fun _ _ => rfl)))
      (pss_cons (ps_set (i := 2) scV.nd rfl (Or.inl rfl) (pe_op op_mod (pv 1) pe_int))
      (pss_cons (ps_comp (i := 3) scV.nd rfl rfl co rfl (pi_range1 rfl zr (pa_cons (pv 2) pa_nil)) (fun C fp s₀ H₀ => pe_op op_mul (pe_op op_add (pe_op op_mul pe_int (pv 0)) (pe_op op_mod (pe_op op_fdiv (pv 1) pe_int) pe_int)) (pe_ix (r := rIxL K) ix_list (pe_lst (pa_cons pe_int (pa_cons pe_int (pa_cons (pe_op op_pow pe_int pe_int) pa_nil)))) (pe_op op_mod (pe_op op_fdiv (pv 1) pe_int) pe_int) (fun _ _ => rfl))))
      (pss_cons (ps_set (i := 4) scV.nd rfl (Or.inl rfl) (pe_slice sl_list (pv 0) (po_some pe_int) po_none))
      (pss_cons (ps_set (i := 5) scV.nd rfl (Or.inl rfl) pe_dnewK)
      (pss_cons (ps_for PassesOwn.never rfl (pi_range1 rfl zr (pa_cons (pv 2) pa_nil)) (pg_name (i := 6) scV.nd rfl (Or.inl rfl)) (pss_cons (ps_set (i := 7) scV.nd rfl (Or.inl rfl) (pe_ix ix_list (pe_op op_cat (pv 4) (pe_op op_rep (pe_lst (pa_cons pe_int pa_nil)) pe_int)) (pv 6) (fun _ _ => rfl)))
      (pss_cons (ps_set (i := 8) scV.nd rfl (Or.inl rfl) (pe_lst pa_nil))
      (pss_cons (ps_for PassesOwn.never rfl (pi_range1 rfl zr (pa_cons (pe_op op_mod (pv 7) pe_int) pa_nil)) (pg_name (i := 9) scV.nd rfl (Or.inl rfl)) (pss_cons (ps_set (i := 7) scV.nd rfl (Or.inl rfl) (pe_op op_mod (pe_op op_mul (pv 7) pe_int) pe_int))
      (pss_one (ps_expr (pe_bm PySem.F.plainAttrs_list PySem.F.slot_list_append PySem.F.type_list_append mt_append (pv 8) (pa_cons (xe_call GP hr rfl mP kP bP .nil passN (pa_cons (pv 3) (pa_cons (pe_op op_fdiv (pv 7) pe_int) pa_nil))) pa_nil))))))
      (pss_one (ps_dput hu (pv 5) (pe_ix ix_list (pv 3) (pv 6) (fun _ _ => rfl)) (pv 8) rfl))))))
      (pss_cons (ps_set (i := 7) scV.nd rfl (Or.inl rfl) (pe_ix ix_list (pe_op op_cat (pv 4) (pe_op op_rep (pe_lst (pa_cons pe_int pa_nil)) pe_int)) pe_int (fun _ _ => rfl)))
      (pss_cons (ps_set (i := 10) scV.nd rfl (Or.inl rfl) (pe_lst pa_nil))
      (pss_cons (ps_for PassesOwn.never rfl (pi_range1 rfl zr (pa_cons (pe_op op_mod (pe_op op_fdiv (pv 7) pe_int) pe_int) pa_nil)) (pg_name (i := 9) scV.nd rfl (Or.inl rfl)) (pss_cons (ps_set (i := 7) scV.nd rfl (Or.inl rfl) (pe_op op_mod (pe_op op_mul (pv 7) pe_int) pe_int))
      (pss_one (ps_expr (pe_bm PySem.F.plainAttrs_list PySem.F.slot_list_append PySem.F.type_list_append mt_append (pv 10) (pa_cons (xe_call GP hr rfl mP kP bP .nil passN (pa_cons (pv 3) (pa_cons (pe_op op_fdiv (pv 7) pe_int) pa_nil))) pa_nil))))))
      (pss_cons (ps_set (i := 7) scV.nd rfl (Or.inl rfl) (pe_ix ix_list (pe_op op_cat (pv 4) (pe_op op_rep (pe_lst (pa_cons pe_int pa_nil)) pe_int)) pe_int (fun _ _ => rfl)))
      (pss_cons (ps_set (i := 11) scV.nd rfl (Or.inl rfl) (pe_lst pa_nil))
      (pss_cons (ps_for PassesOwn.never rfl (pi_range1 rfl zr (pa_cons (pe_op op_mul (pe_op op_mod (pv 7) pe_int) (pe_callTy call_int1 rfl zi PyProof.Rows.Boot.«int» (pa_cons (pe_cmpR op_gt (pv 2) pe_int (nomark _)) pa_nil))) pa_nil)) (pg_name (i := 9) scV.nd rfl (Or.inl rfl)) (pss_cons (ps_set (i := 7) scV.nd rfl (Or.inl rfl) (pe_op op_mod (pe_op op_mul (pv 7) pe_int) pe_int))
      (pss_one (ps_expr (pe_bm PySem.F.plainAttrs_list PySem.F.slot_list_append PySem.F.type_list_append mt_append (pv 11) (pa_cons (pe_ix ix_list (pv 3) (pe_op op_mod (pe_op op_fdiv (pv 7) pe_int) (pv 2)) (fun _ _ => rfl)) pa_nil))))))
      (pss_one (ps_ret (pe_frz (pe_tup (pa_cons (pv 10) (pa_cons (pv 5) (pa_cons (pv 11) pa_nil))))))))))))))))))), ?_⟩
    refine ⟨_, rfl, by show 1 ≤ sizeLine; decide, fun q0 hq0 => ⟨a, q0, cs.map V.int, [5].map V.int, rfl, rfl, Same.upd hq0 _ _ ha, upd_same, small2 (n := 70) (by rw [List.length_singleton]; omega) (by decide), fun q1 hq1 => ?_⟩⟩
    rw [← List.map_append]
    obtain ⟨hd, ehd⟩ : ∃ hd, (cs ++ [5])[0]? = some hd := ⟨_, List.getElem?_eq_getElem (by rw [List.length_append, List.length_singleton]; omega)⟩
    have s1 : Same H (upd (upd H q0 (.lst [V.int 5])) q1 (.lst ((cs ++ [5]).map V.int))) := (Same.upd hq0).trans (Same.upd hq1)
    obtain ⟨H1, e1⟩ : ∃ H1, upd (upd H q0 (.lst [V.int 5])) q1 (.lst ((cs ++ [5]).map V.int)) = H1 := ⟨_, rfl⟩
    have zq1 : H1 q1 = some (.lst ((cs ++ [5]).map V.int)) := by rw [← e1]; exact upd_same
    rw [e1] at s1 ⊢
    refine ⟨q1, _, 0, .int hd, rfl, rfl, SqL.of zq1, atI_nat (j := 0) (by rw [List.getElem?_map, ehd]; rfl), ?_⟩
    refine ⟨_, rfl, hd, 13, rfl, rfl, (by show (0 : Int) < 13; decide), ?_⟩
    obtain ⟨mN, em, hm13⟩ := mod_nat hd (show (0 : Int) < 13 by decide)
    have hm13 : mN ≤ 12 := by omega
    obtain ⟨mm, hmm, mpos, mtop⟩ := at_three (hd / 39)
    have b0 := Int.emod_nonneg (hd / 13) (show (3 : Int) ≠ 0 by decide)
    have b3 := Int.emod_lt_of_pos (hd / 13) (show (0 : Int) < 3 by decide)
    obtain ⟨bb, ebb⟩ : ∃ bb, hd / 13 % 3 = bb := ⟨_, rfl⟩
    rw [ebb] at b0 b3
    refine ⟨_, rfl, (mN : Int), congrArg (fun z => [V.int z]) em, by omega, by omega, fun th hth => ?_⟩
    refine comp_range (lo := 0) (n := mN) (fun i ys H2 => ys = ((List.range i).map (thg bb mm)).map V.int ∧ Same H1 H2 ∧ H2 th = some (.lst ys)) ⟨rfl, Same.upd hth, upd_same⟩ (fun i ys H2 _ ⟨e, _, z⟩ => ⟨z, by rw [e, List.length_map, List.length_map, List.length_range]⟩) (Nat.le_trans hm13 (by decide))
      (fun i ys H2 hi ⟨e, s2, z⟩ => ?_) (fun ys H2 ⟨e, s2, z⟩ => ?_)
    · refine ⟨_, rfl, 3, _, rfl, rfl, .inl ⟨by decide, by decide⟩, _, rfl, hd, 13, rfl, rfl, ⟨by decide, by decide⟩, _, 3, rfl, rfl, (by show (0 : Int) < 3; decide), _, _, rfl, rfl, 10, 50, rfl, rfl, ⟨by decide, by decide, by decide⟩, by show 3 ≤ sizeLine; decide, fun q hq => ?_⟩
      have zq := Same.upd (o := .lst [V.int 1, V.int 1, V.int (10 ^ (50 : Int).toNat)]) hq _ _ z
      refine ⟨_, rfl, hd, 39, rfl, rfl, ⟨by decide, by decide⟩, _, 3, rfl, rfl, (by show (0 : Int) < 3; decide), q, _, _, .int mm, rfl, rfl, SqL.of upd_same, hmm, _, mm, rfl, rfl, .inl ⟨?_, ?_⟩, zq, ?_, fun c u g => ?_, upd_same⟩
      · show (-(2 ^ 64) : Int) < 3 * (0 + (i : Int)) + hd / 13 % 3
        rw [ebb]
        exact Int.lt_of_lt_of_le (show (-(2 ^ 64) : Int) < 0 by decide) (by omega)
      · show 3 * (0 + (i : Int)) + hd / 13 % 3 < 2 ^ 64
        rw [ebb]
        exact Int.lt_of_lt_of_le (show 3 * (0 + (i : Int)) + bb < 100 by omega) (by decide)
      · rw [e, List.range_succ, List.map_append, List.map_append, ← ebb]
        rfl
      · rw [upd_ne (ne_of_none g hth)]
        exact Same.upd hq _ _ (s2 c u g)
    · have hth0 : H th = none := s1.free hth
      obtain ⟨ts, ets⟩ : ∃ ts, (List.range mN).map (thg bb mm) = ts := ⟨_, rfl⟩
      have tnd : ts.Nodup := by rw [← ets]; exact thgs_nodup mpos _
      have tlen : ts.length = mN := by rw [← ets, List.length_map, List.length_range]
      have tpos : ∀ t ∈ ts, 0 ≤ t := fun t h => by
        rw [← ets] at h
        obtain ⟨i, _, rfl⟩ := List.mem_map.mp h
        exact thg_pos b0 mpos i
      have ttop : ∀ t ∈ ts, t < 10 ^ 55 := fun t h => by
        rw [← ets] at h
        obtain ⟨i, hi, rfl⟩ := List.mem_map.mp h
        exact thg_top b3 mpos mtop (by have := List.mem_range.mp hi; omega)
      rw [ets] at e
      subst e
      have s2' := s1.trans s2
      refine ⟨_, rfl, _, rfl, a, _, rfl, SqL.of (s2' _ _ ha), fun rA hrA => ?_⟩
      obtain ⟨rs4, e4, _, _, rl4⟩ := cut_mem cs (some 1) none
      rw [e4]
      have rl4 : rs4.length ≤ 60 := by omega
      obtain ⟨Hb, eb⟩ : ∃ Hb, upd H2 rA (.lst (rs4.map V.int)) = Hb := ⟨_, rfl⟩
      have sb : Same H Hb := by rw [← eb]; exact s2'.trans (Same.upd hrA)
      have zr4 : Hb rA = some (.lst (rs4.map V.int)) := by rw [← eb]; exact upd_same
      have zth : Hb th = some (.lst (ts.map V.int)) := by rw [← eb]; exact Same.upd hrA _ _ z
      rw [eb]
      refine fun fa hfa => ?_
      have sF : Same Hb (upd Hb fa (.dK [])) := Same.upd hfa
      have nfl : ∀ {Hx : Hp} {kvs : List (Key × V)} {c : Addr} {xs : List V}, Hx fa = some (.dK kvs) → Hx c = some (.lst xs) → c ≠ fa := fun g1 g2 => ne_of g2 g1 (by intro z; cases z)
      refine ⟨_, rfl, (mN : Int), congrArg (fun z => [V.int z]) em, by omega, by omega, ?_⟩
      rw [Int.toNat_natCast]
      refine for_range (lo := 0) (n := mN) (fun j σ H3 => ∃ (v6 v7 v8 v9 : Option V) (ad : Int → Addr) (ks : Fs), σ = [some (.ref a), some (.int hd), some (.int (hd % 13)), some (.ref th), some (.ref rA), some (.ref fa), v6, v7, v8, v9, none, none] ∧ Same Hb H3 ∧ H3 fa = some (.dK (kvl ad ks)) ∧ keys ks = ts.take j ∧ (∀ p ∈ ks, H3 (ad p.1) = some (.lst (p.2.map oV))) ∧ ∀ p ∈ ks, p.2.length ≤ 6 ∧ ∀ n, some n ∈ p.2 → n ∈ ts)
        ⟨none, none, none, none, fun _ => 0, [], rfl, sF, upd_same, rfl, (fun p h => nomatch h), (fun p h => nomatch h)⟩ ?_ ?_
      · rintro j σ H3 hj ⟨v6, v7, v8, v9, ad, ks, rfl, s3, zf, hk, hl3, hp3⟩
        have hjt : j < ts.length := by omega
        refine ⟨_, rfl, by show 1 ≤ sizeLine; decide, fun q1 hq1 => ⟨q1, 20, _, rfl, rfl, upd_same, by decide, by decide, by decide, fun q2 hq2 => ⟨rA, q2, _, _, rfl, rfl, Same.upd hq2 _ _ (Same.upd hq1 _ _ (s3 _ _ zr4)), upd_same, padlen rl4, fun q3 hq3 => ?_⟩⟩⟩
        obtain ⟨x, hx⟩ := at_pad rs4 (show j < 20 by omega)
        have sp := ((s3.trans (Same.upd (o := .lst [V.int 0]) hq1)).trans (Same.upd (o := .lst (List.replicate (20 : Int).toNat [V.int 0]).flatten) hq2)).trans (Same.upd (o := .lst (rs4.map V.int ++ (List.replicate (20 : Int).toNat [V.int 0]).flatten)) hq3)
        obtain ⟨H4, eH4⟩ : ∃ Hn, upd (upd (upd H3 q1 (.lst [V.int 0])) q2 (.lst (List.replicate (20 : Int).toNat [V.int 0]).flatten)) q3 (.lst (rs4.map V.int ++ (List.replicate (20 : Int).toNat [V.int 0]).flatten)) = Hn := ⟨_, rfl⟩
        have zq3 : H4 q3 = some (.lst (rs4.map V.int ++ (List.replicate (20 : Int).toNat [V.int 0]).flatten)) := by rw [← eH4]; exact upd_same
        have sH3 : Same H3 H4 := by rw [← eH4]; exact ((Same.upd hq1).trans (Same.upd hq2)).trans (Same.upd hq3)
        rw [eH4] at sp ⊢
        refine ⟨_, rfl, q3, _, _, .int x, rfl, rfl, SqL.of zq3, (by rw [Int.zero_add]; exact hx), ?_⟩
        refine ⟨Nat.zero_le _, fun rw hrw => ?_⟩
        obtain ⟨m7, e7, h7⟩ := mod_nat x (show (0 : Int) < 7 by decide)
        have hrwb : Hb rw = none := sp.free hrw
        refine ⟨_, rfl, x, 7, rfl, rfl, (by show (0 : Int) < 7; decide), (m7 : Int), congrArg (fun z => [V.int z]) e7, by omega, by omega, ?_⟩
        rw [Int.toNat_natCast]
        have zf4 : upd H4 rw (.lst []) fa = some (.dK (kvl ad ks)) := Same.upd hrw _ _ (sH3 _ _ zf)
        have hl4 : ∀ p ∈ ks, upd H4 rw (.lst []) (ad p.1) = some (.lst (p.2.map oV)) := fun p h => Same.upd hrw _ _ (sH3 _ _ (hl3 p h))
        have hnl : ∀ p ∈ ks, ad p.1 ≠ rw := fun p h => ne_of_none (sH3 _ _ (hl3 p h)) hrw
        refine for_range (lo := 0) (n := m7) (fun i σ H5 => ∃ (v7 v9 : Option V) (c : Int) (fs : List (Option Int)), v7 = some (.int c) ∧ σ = [some (.ref a), some (.int hd), some (.int (hd % 13)), some (.ref th), some (.ref rA), some (.ref fa), some (.int (0 + (j : Int))), v7, some (.ref rw), v9, none, none] ∧ Same Hb H5 ∧ H5 fa = some (.dK (kvl ad ks)) ∧ (∀ p ∈ ks, H5 (ad p.1) = some (.lst (p.2.map oV))) ∧ H5 rw = some (.lst (fs.map oV)) ∧ fs.length = i ∧ ∀ n, some n ∈ fs → n ∈ ts)
          ⟨_, v9, x, [], rfl, rfl, sp.trans (Same.upd hrw), zf4, hl4, upd_same, rfl, (fun n h => nomatch h)⟩ ?_ ?_
        · rintro i σ H5 hi ⟨v7, v9, c, fs, rfl, rfl, s5, zf5, hl5, zrw, fl, hfs⟩
          refine ⟨_, rfl, c, 48271, rfl, rfl, .inr ⟨by decide, by decide⟩, _, 2147483647, rfl, rfl, (by show (0 : Int) < 2147483647; decide), ?_⟩
          refine ⟨_, rfl, .inl ⟨rfl, _, SqL.of zrw⟩, _, rfl, _, rfl, _, 11, rfl, rfl, ⟨by decide, by decide⟩, th, _, ts, rfl, s5 _ _ zth, fun y H6 s6 hy => ?_⟩
          refine ⟨rw, _, _, rfl, rfl, s6 _ _ zrw, Nat.lt_of_le_of_lt (show (fs.map oV).length ≤ 7 by rw [List.length_map]; omega) (by decide), _, _, _, fs ++ [y], rfl, rfl, fun c u g => by rw [upd_ne (ne_of_none g hrwb)]; exact s6 _ _ (s5 c u g), ?_, fun p h => ?_, by rw [upd_same, List.map_append]; rfl, by rw [List.length_append, List.length_singleton, fl], fun n h => ?_⟩
          · rw [upd_ne (Ne.symm (nfl zf5 zrw))]
            exact s6 _ _ zf5
          · rw [upd_ne (hnl p h)]
            exact s6 _ _ (hl5 p h)
          · rcases List.mem_append.mp h with g | g
            · exact hfs n g
            · exact hy n (List.mem_singleton.mp g).symm
        · rintro σ H5 ⟨v7, v9, c, fs, rfl, rfl, s5, zf5, hl5, zrw, fl, hfs⟩
          obtain ⟨t, et⟩ : ∃ t, ts[j] = t := ⟨_, rfl⟩
          have tk : ts.take (j + 1) = ts.take j ++ [t] := by rw [List.take_succ_eq_append_getElem hjt, et]
          have nk : t ∉ keys ks := fun g => by
            have h1 : (keys ks ++ [t]).Nodup := by
              rw [hk, ← tk]
              exact (List.take_sublist _ _).nodup tnd
            exact (List.nodup_append.mp h1).2.2 _ g _ (List.mem_singleton.mpr rfl) rfl
          have kl : (kvl ad ks).length < sizeLine := by
            have h1 : (keys ks).length = (ts.take j).length := by rw [hk]
            rw [List.length_map, List.length_take] at h1
            unfold kvl
            rw [List.length_map]
            exact Nat.lt_of_le_of_lt (show ks.length ≤ 12 by omega) (by decide)
          refine ⟨_, rfl, _, rfl, _, rfl, _, rfl, th, _, _, .int t, rfl, rfl, SqL.of (s5 _ _ zth), (by rw [Int.zero_add]; exact atI_nat (by rw [List.getElem?_map, List.getElem?_eq_getElem hjt, et]; rfl)), fa, _, rfl, DPut.k (k := Sum.inl t) zf5 kl, ?_⟩
          rw [putK_new _ (by rw [val_kvl, if_neg nk]), kvl_snoc (fs := fs) nk]
          refine ⟨_, _, _, _, fun k => if k = t then rw else ad k, ks ++ [(t, fs)], rfl, fun c u g => by rw [upd_ne (ne_of_none g hfa)]; exact s5 c u g, upd_same, ?_, fun p hp => ?_, fun p hp => ?_⟩
          · show (ks ++ [(t, fs)]).map (·.1) = _
            rw [List.map_append, tk, ← hk]
            rfl
          · rcases List.mem_append.mp hp with h | h
            · show upd H5 fa _ (if p.1 = t then rw else ad p.1) = _
              rw [if_neg fun z => nk (by rw [← z]; exact List.mem_map_of_mem h), upd_ne (nfl zf5 (hl5 p h))]
              exact hl5 p h
            · rw [List.mem_singleton.mp h]
              show upd H5 fa _ (if t = t then rw else _) = _
              rw [if_pos rfl, upd_ne (nfl zf5 zrw)]
              exact zrw
          · rcases List.mem_append.mp hp with h | h
            · exact hp3 p h
            · rw [List.mem_singleton.mp h]
              exact ⟨by show fs.length ≤ 6; omega, hfs⟩
      · rintro σ H3 ⟨v6, v7, v8, v9, ad, ks, rfl, s3, zf, hk, hl3, hp3⟩
        rw [← tlen, List.take_of_length_le (Nat.le_refl _)] at hk
        refine ⟨_, rfl, by show 1 ≤ sizeLine; decide, fun q1 hq1 => ⟨q1, 20, _, rfl, rfl, upd_same, by decide, by decide, by decide, fun q2 hq2 => ⟨rA, q2, _, _, rfl, rfl, Same.upd hq2 _ _ (Same.upd hq1 _ _ (s3 _ _ zr4)), upd_same, padlen rl4, fun q3 hq3 => ?_⟩⟩⟩
        obtain ⟨x, hx⟩ := at_pad rs4 (show 13 < 20 by decide)
        have sp := ((s3.trans (Same.upd (o := .lst [V.int 0]) hq1)).trans (Same.upd (o := .lst (List.replicate (20 : Int).toNat [V.int 0]).flatten) hq2)).trans (Same.upd (o := .lst (rs4.map V.int ++ (List.replicate (20 : Int).toNat [V.int 0]).flatten)) hq3)
        obtain ⟨H4, eH4⟩ : ∃ Hn, upd (upd (upd H3 q1 (.lst [V.int 0])) q2 (.lst (List.replicate (20 : Int).toNat [V.int 0]).flatten)) q3 (.lst (rs4.map V.int ++ (List.replicate (20 : Int).toNat [V.int 0]).flatten)) = Hn := ⟨_, rfl⟩
        have zq3 : H4 q3 = some (.lst (rs4.map V.int ++ (List.replicate (20 : Int).toNat [V.int 0]).flatten)) := by rw [← eH4]; exact upd_same
        have sH3 : Same H3 H4 := by rw [← eH4]; exact ((Same.upd hq1).trans (Same.upd hq2)).trans (Same.upd hq3)
        rw [eH4] at sp ⊢
        refine ⟨q3, _, 13, .int x, rfl, rfl, SqL.of zq3, hx, ?_⟩
        refine ⟨Nat.zero_le _, fun ro hro => ?_⟩
        obtain ⟨m9, e9, h9⟩ := mod_nat (x / 4) (show (0 : Int) < 9 by decide)
        have hrob : Hb ro = none := sp.free hro
        refine ⟨_, rfl, x, 4, rfl, rfl, ⟨by decide, by decide⟩, _, 9, rfl, rfl, (by show (0 : Int) < 9; decide), (m9 : Int), congrArg (fun z => [V.int z]) e9, by omega, by omega, ?_⟩
        rw [Int.toNat_natCast]
        refine for_range (lo := 0) (n := m9) (fun i σ H5 => ∃ (v7 v9 : Option V) (c : Int) (fs : List (Option Int)), v7 = some (.int c) ∧ σ = [some (.ref a), some (.int hd), some (.int (hd % 13)), some (.ref th), some (.ref rA), some (.ref fa), v6, v7, v8, v9, some (.ref ro), none] ∧ Same H4 H5 ∧ H5 ro = some (.lst (fs.map oV)) ∧ fs.length = i ∧ ∀ n, some n ∈ fs → n ∈ ts)
          ⟨_, v9, x, [], rfl, rfl, Same.upd hro, upd_same, rfl, (fun n h => nomatch h)⟩ ?_ ?_
        · rintro i σ H5 hi ⟨v7, v9, c, fs, rfl, rfl, s5, zro, fl, hfs⟩
          refine ⟨_, rfl, c, 48271, rfl, rfl, .inr ⟨by decide, by decide⟩, _, 2147483647, rfl, rfl, (by show (0 : Int) < 2147483647; decide), ?_⟩
          refine ⟨_, rfl, .inl ⟨rfl, _, SqL.of zro⟩, _, rfl, _, rfl, _, 11, rfl, rfl, ⟨by decide, by decide⟩, th, _, ts, rfl, s5 _ _ (sp _ _ zth), fun y H6 s6 hy => ?_⟩
          refine ⟨ro, _, _, rfl, rfl, s6 _ _ zro, Nat.lt_of_le_of_lt (show (fs.map oV).length ≤ 9 by rw [List.length_map]; omega) (by decide), _, _, _, fs ++ [y], rfl, rfl, fun c u g => by rw [upd_ne (ne_of_none g hro)]; exact s6 _ _ (s5 c u g), by rw [upd_same, List.map_append]; rfl, by rw [List.length_append, List.length_singleton, fl], fun n h => ?_⟩
          rcases List.mem_append.mp h with g | g
          · exact hfs n g
          · exact hy n (List.mem_singleton.mp g).symm
        · rintro σ H5 ⟨v7, v9, c, fs, rfl, rfl, s5, zro, fl, hfs⟩
          have s5' := sp.trans s5
          have fl8 : fs.length ≤ 8 := by omega
          clear hx zq3 eH4
          refine ⟨_, rfl, by show 1 ≤ sizeLine; decide, fun q1 hq1 => ⟨q1, 20, _, rfl, rfl, upd_same, by decide, by decide, by decide, fun q2 hq2 => ⟨rA, q2, _, _, rfl, rfl, Same.upd hq2 _ _ (Same.upd hq1 _ _ (s5' _ _ zr4)), upd_same, padlen rl4, fun q3 hq3 => ?_⟩⟩⟩
          obtain ⟨x, hx⟩ := at_pad rs4 (show 14 < 20 by decide)
          have sp := ((s5'.trans (Same.upd (o := .lst [V.int 0]) hq1)).trans (Same.upd (o := .lst (List.replicate (20 : Int).toNat [V.int 0]).flatten) hq2)).trans (Same.upd (o := .lst (rs4.map V.int ++ (List.replicate (20 : Int).toNat [V.int 0]).flatten)) hq3)
          obtain ⟨H6, eH6⟩ : ∃ Hn, upd (upd (upd H5 q1 (.lst [V.int 0])) q2 (.lst (List.replicate (20 : Int).toNat [V.int 0]).flatten)) q3 (.lst (rs4.map V.int ++ (List.replicate (20 : Int).toNat [V.int 0]).flatten)) = Hn := ⟨_, rfl⟩
          have zq3 : H6 q3 = some (.lst (rs4.map V.int ++ (List.replicate (20 : Int).toNat [V.int 0]).flatten)) := by rw [← eH6]; exact upd_same
          have sH5 : Same H5 H6 := by rw [← eH6]; exact ((Same.upd hq1).trans (Same.upd hq2)).trans (Same.upd hq3)
          rw [eH6] at sp ⊢
          refine ⟨q3, _, 14, .int x, rfl, rfl, SqL.of zq3, hx, ?_⟩
          refine ⟨Nat.zero_le _, fun bk hbk => ?_⟩
          have n4 := Int.emod_nonneg x (show (4 : Int) ≠ 0 by decide)
          have l4 := Int.emod_lt_of_pos x (show (0 : Int) < 4 by decide)
          obtain ⟨nb, enb, hnb, hnb0⟩ : ∃ nb : Nat, x % 4 * (if decide (0 < hd % 13) = true then 1 else 0) = (nb : Int) ∧ nb ≤ 3 ∧ (0 < nb → 0 < mN) := by
            by_cases h : 0 < hd % 13
            · rw [decide_eq_true h, if_pos rfl]
              exact ⟨(x % 4).toNat, by omega, by omega, fun _ => by omega⟩
            · rw [decide_eq_false h, if_neg (by decide)]
              exact ⟨0, by omega, by omega, fun h => absurd h (by decide)⟩
          refine ⟨_, rfl, x, 4, rfl, rfl, (by show (0 : Int) < 4; decide), _, rfl, hd % 13, 0, rfl, rfl, .inr ⟨_, rfl, _, _, rfl, rfl, .inl ⟨?_, ?_⟩, (nb : Int), congrArg (fun z => [V.int z]) enb, by omega, by omega, ?_⟩⟩
          · exact Int.lt_of_lt_of_le (show (-(2 ^ 64) : Int) < 0 by decide) n4
          · exact Int.lt_trans l4 (by decide)
          rw [Int.toNat_natCast]
          refine for_range (lo := 0) (n := nb) (fun i σ H7 => ∃ (v7 v9 : Option V) (c : Int) (bs : List Int), v7 = some (.int c) ∧ σ = [some (.ref a), some (.int hd), some (.int (hd % 13)), some (.ref th), some (.ref rA), some (.ref fa), v6, v7, v8, v9, some (.ref ro), some (.ref bk)] ∧ Same H6 H7 ∧ H7 bk = some (.lst (bs.map V.int)) ∧ bs.length = i ∧ ∀ b ∈ bs, b ∈ ts)
            ⟨_, v9, x, [], rfl, rfl, Same.upd hbk, upd_same, rfl, (fun n h => nomatch h)⟩ ?_ ?_
          · rintro i σ H7 hi ⟨v7, v9, c, bs, rfl, rfl, s7, zbk, bl, hbs⟩
            have m0 : 0 < mN := hnb0 (by omega)
            refine ⟨_, rfl, c, 48271, rfl, rfl, .inr ⟨by decide, by decide⟩, _, 2147483647, rfl, rfl, (by show (0 : Int) < 2147483647; decide), ?_⟩
            obtain ⟨c2, ec2⟩ : ∃ c2, c * 48271 % 2147483647 / 11 = c2 := ⟨_, rfl⟩
            obtain ⟨j, ej, hj⟩ := mod_nat c2 (show (0 : Int) < hd % 13 by omega)
            have hj : j < ts.length := by omega
            have zth7 := s7 _ _ (sp _ _ zth)
            refine ⟨_, rfl, .inl ⟨rfl, _, SqL.of zbk⟩, _, rfl, _, rfl, _, 11, rfl, rfl, ⟨by decide, by decide⟩, _, rfl, _, hd % 13, rfl, rfl, (by show (0 : Int) < hd % 13; omega), th, _, _, .int ts[j], rfl, rfl, SqL.of zth7, (by show atI _ (c * 48271 % 2147483647 / 11 % (hd % 13)) = _; rw [ec2, ej]; exact atI_nat (by rw [List.getElem?_map, List.getElem?_eq_getElem hj]; rfl)), ?_⟩
            refine ⟨bk, _, _, rfl, rfl, zbk, Nat.lt_of_le_of_lt (show (bs.map V.int).length ≤ 9 by rw [List.length_map]; omega) (by decide), _, _, _, bs ++ [ts[j]], rfl, rfl, fun c u g => by rw [upd_ne (ne_of_none g hbk)]; exact s7 c u g, by rw [upd_same, List.map_append]; rfl, by rw [List.length_append, List.length_singleton, bl], fun n h => ?_⟩
            rcases List.mem_append.mp h with g | g
            · exact hbs n g
            · rw [List.mem_singleton.mp g]; exact List.getElem_mem hj
          · rintro σ H7 ⟨v7, v9, c, bs, rfl, rfl, s7, zbk, bl, hbs⟩
            refine ⟨_, rfl, _, rfl, _, rfl, by show 3 ≤ sizeLine; decide, fun v3 hv3 => ?_⟩
            have sv := Same.upd (o := .tup [V.ref ro, V.ref fa, V.ref bk]) hv3
            have s37 : Same H3 H7 := sH3.trans (s5.trans (sH5.trans s7))
            have zf8 := sv _ _ (s37 _ _ zf)
            refine ⟨fa, kvl ad ks, zf8, fun o' => ?_⟩
            have nv : v3 ≠ fa := fun z => by rw [z, s37 _ _ zf] at hv3; cases hv3
            have up : ∀ {c : Addr} {xs : List V}, H7 c = some (.lst xs) → upd (upd H7 v3 (.tup [V.ref ro, V.ref fa, V.ref bk])) fa (.frz o' (.dK (kvl ad ks))) c = some (.lst xs) := fun g => by
              rw [upd_ne (nfl zf8 (sv _ _ g))]
              exact sv _ _ g
            have ek : ks.length = mN := by
              have := congrArg List.length hk
              rw [List.length_map, tlen] at this
              exact this
            have hbd : fs.length ≤ 20 := by omega
            refine k v3 ro fa bk o' ad fs ks bs _ (fun c u g => ?_) ?_ ⟨up (s7 _ _ (sH5 _ _ zro)), upd_same, fun p hp => up (s37 _ _ (hl3 p hp))⟩ ⟨by rw [show ks.map (·.1) = ts from hk]; exact tnd, fun p hp => tpos _ (by rw [← hk]; exact List.mem_map_of_mem hp), by omega, hbd, fun p hp => (hp3 p hp).1, fun n hn => by rw [show ks.map (·.1) = ts from hk]; exact hfs n hn, fun p hp n hn => by rw [show ks.map (·.1) = ts from hk]; exact (hp3 p hp).2 n hn⟩ fl8 (up zbk) (by omega) (fun b hb => by rw [hk]; exact hbs b hb) (fun t ht => by rw [hk] at ht; exact ttop t ht)
            · rw [upd_ne (ne_of_none (sb _ _ g) hfa)]
              exact sv _ _ (s37 _ _ (s3 _ _ (sb c u g)))
            · rw [upd_ne nv, upd_same]
end
end K70
end
section
set_option Elab.async false
set_option linter.all false
set_option maxRecDepth 100000
set_option maxHeartbeats 4000000
set_option exponentiation.threshold 4000
namespace K70
open PySem L2 LX
/-- what the text has -/
structure Txt (K : PySem.W.Frag) (mg : Str → Option Value) (CH dB fXI : Addr) : Prop where
  h : ∃ cd, XCls K CH cd
  mH : mg "HeapError" = some (.ref CH)
  mB : mg "BadView" = some (.ref dB)
  cB : ErrC K dB
  mxB : MkX K dB fXI
  fv : PySem.W.kitOne K (.ref dB) (.type "ValueError") = some true
  subB : ∃ cd, XCls K dB cd ∧ cd.mro.contains (.ref CH) = true
  z_ValueError : mg "ValueError" = none
theorem pss_dead {X : Cx} {st : List Stmt} : PSs X st (fun _ _ _ => False) := fun _ _ _ _ _ _ h => h.elim
theorem pe_dead {X : Cx} {e : Expr} : PE X e (fun _ _ _ => False) := fun _ _ _ _ _ _ h => h.elim
section
variable {P : Program} {w : World} {K : PySem.W.Frag} {mg : Str → Option Value} {base : Heap} {CH dB fXI : Addr}
theorem ok_xi {f : Addr} {fd : FuncData} (F : Fun K "__init__" "HeapError.__init__" sXI f fd) (hve : mg "ValueError" = none) : FnOk P w K mg base (CXE P w) 1 f fd ["self", "text"] (spXI K) := by
  refine F.okE (N := ["self", "text"]) ⟨rfl, rfl, rfl, by decide +kernel, rfl, by decide +kernel, by decide +kernel⟩ (fun vs H Q E h => ?_) (fun cdv A outer s H vs Q E hr h => ?_)
  · obtain ⟨ea, C, od, x, rfl, _⟩ := h
    rfl
  · obtain ⟨ea, C, od, x, rfl, h1, hc, k⟩ := h
    refine ⟨_, pss_one (ps_expr (pe_ve rfl hve (pa_cons (pv 0) (pa_cons (pv 1) pa_nil)))), ?_⟩
    exact ⟨_, rfl, _, rfl, ea, C, od, [x], rfl, (by show 1 ≤ 1000; decide), h1, hc, k⟩
def Sml (fs : List (Option Int)) : Prop := ∀ n, some n ∈ fs → n.natAbs.log2 < 1920
def Fine (fs : List (Option Int)) (ks : Fs) : Prop := ∀ n, some n ∈ fs → n ∈ keys ks
/-- look_at_told, both ways -/
def spToldX (dB : Addr) : Sp := fun vs H Q E => ∃ (l d : Addr) (o : Obj) (ad : Int → Addr) (fs : List (Option Int)) (ks : Fs), vs = [.ref l, .ref d] ∧ H l = some (.lst (fs.map oV)) ∧ H d = some (.frz o (.dK (kvl ad ks))) ∧ Sml fs ∧ (Fine fs ks → Q .non H) ∧ (¬ Fine fs ks → ∀ H', Same H H' → E (.ref dB) none H')
theorem ok_toldx {f : Addr} {fd fdX : FuncData} (F : Fun K "look_at_told" "look_at_told" sLTold f fd) (T : Txt K mg CH dB fXI) (GX : FnOk P w K mg base (CXE P w) 1 fXI fdX ["self", "text"] (spXI K)) (bX : Binds K fdX ["self", "text"] []) : FnOk P w K mg base (CXE P w) 3 f fd ["told", "fields"] (spToldX dB) := by
  refine F.okE scLT (fun vs H Q E h => ?_) (fun cdv A outer s H vs Q E hr h => ?_)
  · obtain ⟨l, d, o, ad, fs, ks, rfl, _⟩ := h
    rfl
  · obtain ⟨l, d, o, ad, fs, ks, rfl, hl, hd, sm, k1, k2⟩ := h
    have hu := hu_of hr
    refine ⟨_, PSs.xr (pss_one (ps_for ownR rfl (pi_list (pv 0)) (pg_name (i := 2) scLT.nd rfl (Or.inl rfl))
      (pss_one (ps_if (PW.pt (pw_and (pt_cmpR op_notN (pv 2) pe_non (nomark _)) (pw_and1 (pt_cmp (pc_dnotin hu (pv 2) (pv 1)) (by with_unfolding_all rfl)))))
        (pss_one (ps_raise rfl raiseR (xe_err T.mxB GX hr rfl T.mB bX (passR fun _ _ _ q => q) (pa_cons (pe_fstr (pfs_cons pf_text (pfs_cons (pf_num (pv 2)) (pfs_cons pf_text pfs_nil)))) pa_nil)))) pss_nil)))), ?_⟩
    refine ⟨_, rfl, l, rfl, ⟨_, SqL.of hl⟩, for_list (K := K) (a := l) (xs := fs.map oV) (fun i σ H2 => ∃ v2, σ = [some (.ref l), some (.ref d), v2] ∧ H2 = H ∧ Fine (fs.take i) ks) ⟨none, rfl, rfl, (fun n h => nomatch h)⟩ (fun i σ H2 _ ⟨_, _, e, _⟩ => by rw [e]; exact SqL.of hl) ?_ ?_⟩
    · rintro i x σ H2 hx ⟨v2, rfl, rfl, hf⟩
      have hlt : i < fs.length := by have := (List.getElem?_eq_some_iff.mp hx).1; rwa [List.length_map] at this
      have tk : fs.take (i + 1) = fs.take i ++ [fs[i]] := List.take_succ_eq_append_getElem hlt
      have hxe : x = oV fs[i] := by
        rw [List.getElem?_map, List.getElem?_eq_getElem hlt] at hx
        exact (Option.some.inj hx).symm
      subst hxe
      have hmm : fs[i] ∈ fs := List.getElem_mem hlt
      cases hc : fs[i] with
      | none =>
        refine ⟨_, rfl, rfl, _, rfl, iteF (iteF ⟨_, rfl, rfl, fun n hn => ?_⟩)⟩
        rw [tk, hc] at hn
        rcases List.mem_append.mp hn with g | g
        · exact hf n g
        · exact nomatch (List.mem_singleton.mp g)
      | some n =>
        rw [hc] at hmm
        refine ⟨_, rfl, rfl, _, rfl, iteT ⟨_, rfl, _, rfl, d, _, rfl, dget_f hd n, _, rfl, ?_⟩⟩
        by_cases hin : n ∈ keys ks
        · rw [if_pos hin]
          refine iteF ⟨_, rfl, rfl, fun m hm => ?_⟩
          rw [tk, hc] at hm
          rcases List.mem_append.mp hm with g | g
          · exact hf m g
          · injection (List.mem_singleton.mp g) with g
            rw [g]; exact hin
        · rw [if_neg hin]
          refine iteT ⟨_, rfl, n, rfl, sm n hmm, fun y hy ea hea => ⟨ea, dB, none, .str y, rfl, upd_same, T.cB.cls, rfl, ea, dB, none, rfl, upd_same, T.cB.cls, hea, k2 (fun z => hin (z n hmm)) _ fun b o q => ?_⟩⟩
          have nb : b ≠ ea := fun e => by rw [e, hea] at q; cases q
          rw [del_ne nb, upd_ne nb]
          exact q
    · rintro σ H2 ⟨v2, rfl, rfl, hf⟩
      rw [List.length_map, List.take_of_length_le (Nat.le_refl _)] at hf
      exact k1 hf
/-- a view that tells what it has not -/
structure BadV (rs : List (Option Int)) (ks : Fs) : Prop where
  pos : ∀ p ∈ ks, 0 ≤ p.1
  sr : Sml rs
  sf : ∀ p ∈ ks, Sml p.2
  nd : (keys ks).Nodup
  bad : ¬ (Fine rs ks ∧ ∀ p ∈ ks, Fine p.2 ks)
def spLookX (K : PySem.W.Frag) (dB : Addr) : Sp := fun vs H _ E => ∃ (v r d : Addr) (o : Obj) (ad : Int → Addr) (rs : List (Option Int)) (ks : Fs), vs = [.ref v] ∧ SqT K H v [.ref r, .ref d] ∧ Vw H r d o ad rs ks ∧ BadV rs ks ∧ ∀ H', Same H H' → E (.ref dB) none H'
theorem ok_lookx {f fT : Addr} {fd fdT : FuncData} (F : Fun K "look_at_view" "look_at_view" sLook f fd) (GT : FnOk P w K mg base (CXE P w) 3 fT fdT ["told", "fields"] (spToldX dB)) (mT : mg "look_at_told" = some (.ref fT)) (kT : PySem.W.keepIn K (.ref fT) = true) (bT : Binds K fdT ["told", "fields"] []) :
    FnOk P w K mg base (CXE P w) 4 f fd ["view"] (spLookX K dB) := by
  refine F.okE scLV (fun vs H Q E h => ?_) (fun cdv A outer s H vs Q E hr h => ?_)
  · obtain ⟨v, r, d, o, ad, rs, ks, rfl, _⟩ := h
    rfl
  · obtain ⟨v, r, d, o, ad, rs, ks, rfl, ht, hv, bv, k⟩ := h
    have hu := hu_of hr
    refine ⟨_, PSs.xr (pss_cons (ps_set (i := 1) scLV.nd rfl (Or.inl rfl) (pe_ix ix_tup (pv 0) pe_int (fun _ _ => rfl)))
      (pss_cons (ps_expr (xe_call GT hr rfl mT kT bT .nil (passR fun _ _ _ q => q) (pa_cons (pe_ix ix_tup (pv 0) pe_int (fun _ _ => rfl)) (pa_cons (pv 1) pa_nil))))
      (pss_one (ps_for ownR rfl (pi_dict (pv 1)) (pg_name (i := 2) scLV.nd rfl (Or.inl rfl))
        (pss_cons (ps_if (pt_cmpR op_lt (pv 2) pe_int (nomark _)) (pss_one ps_dead) pss_nil)
        (pss_one (ps_expr (xe_call GT hr rfl mT kT bT .nil (passR fun _ _ _ q => q) (pa_cons (pe_dget hu (pv 1) (pv 2) (fun _ _ => rfl)) (pa_cons (pv 1) pa_nil)))))))))), ?_⟩
    refine ⟨_, rfl, v, _, 1, .ref d, rfl, rfl, ht, rfl, ?_⟩
    refine ⟨_, rfl, v, _, 0, .ref r, rfl, rfl, ht, rfl, _, rfl, r, d, o, ad, rs, ks, rfl, hv.hr, hv.hd, bv.sr, fun hfr => ?_, fun _ => k⟩
    have el : (kvl ad ks).length = ks.length := by unfold kvl; rw [List.length_map]
    refine ⟨_, rfl, d, o, _, rfl, hv.hd, for_dict (d := d) (o := o) (kvs := kvl ad ks) (fun i σ H2 => ∃ v2, σ = [some (.ref v), some (.ref d), v2] ∧ H2 = H ∧ ∀ p ∈ ks.take i, Fine p.2 ks) ⟨none, rfl, rfl, (fun p h => nomatch h)⟩ (fun i σ H2 _ ⟨_, _, e, _⟩ => by rw [e]; exact hv.hd) ?_ ?_⟩
    · rintro i p σ H2 hp ⟨v2, rfl, rfl, hf⟩
      obtain ⟨q, hq, hqi, rfl⟩ := key_at hp
      obtain ⟨hlt, eq⟩ := List.getElem?_eq_some_iff.mp hqi
      have tk : ks.take (i + 1) = ks.take i ++ [q] := by rw [List.take_succ_eq_append_getElem hlt, eq]
      have hin : q.1 ∈ keys ks := List.mem_map_of_mem hq
      have p0 := bv.pos q hq
      refine ⟨_, rfl, q.1, 0, rfl, rfl, _, rfl, ite2 (fun h => ?_) (fun _ => ?_)⟩
      · have h1 : q.1 < 0 := by simpa using h
        omega
      · refine ⟨_, rfl, _, rfl, d, _, rfl, dget_in hv.hd hin, _, rfl, ad q.1, d, o, ad, q.2, ks, rfl, hv.hl q hq, hv.hd, bv.sf q hq, fun hfq => ⟨_, rfl, rfl, fun p hp => ?_⟩, fun _ => k⟩
        rw [tk] at hp
        rcases List.mem_append.mp hp with g | g
        · exact hf p g
        · rw [List.mem_singleton.mp g]; exact hfq
    · rintro σ H2 ⟨v2, rfl, rfl, hf⟩
      rw [el, List.take_of_length_le (Nat.le_refl _)] at hf
      exact absurd ⟨hfr, hf⟩ bv.bad
end
end K70
end
section
set_option Elab.async false
set_option linter.all false
set_option maxRecDepth 100000
set_option maxHeartbeats 4000000
set_option exponentiation.threshold 4000
namespace K70
open PySem L2 LX
section
variable {P : Program} {w : World} {K : PySem.W.Frag} {mg : Str → Option Value} {base : Heap} {CH dB fXI : Addr}
theorem scRe : FnScope ["view", "steps"] ["view"] (defScope sReach) := ⟨rfl, rfl, rfl, by decide +kernel, rfl, by decide +kernel, by decide +kernel⟩
theorem ok_reachx {f fL : Addr} {fd fdL : FuncData} (F : Fun K "reach_paper" "reach_paper" sReach f fd) (GL : FnOk P w K mg base (CXE P w) 4 fL fdL ["view"] (spLookX K dB)) (mL : mg "look_at_view" = some (.ref fL)) (kL : PySem.W.keepIn K (.ref fL) = true) (bL : Binds K fdL ["view"] []) :
    FnOk P w K mg base (CXE P w) 5 f fd ["view"] (spLookX K dB) := by
  refine F.okE scRe (fun vs H Q E h => ?_) (fun cdv A outer s H vs Q E hr h => ?_)
  · obtain ⟨v, r, d, o, ad, rs, ks, rfl, _⟩ := h
    rfl
  · obtain ⟨v, r, d, o, ad, rs, ks, rfl, ht, hv, bv, k⟩ := h
    exact ⟨_, pss_cons (ps_expr (xe_call GL hr rfl mL kL bL .nil (Passes.x (passE fun _ _ _ q => q)) (pa_cons (pv 0) pa_nil))) pss_dead, _, rfl, v, r, d, o, ad, rs, ks, rfl, ht, hv, bv, k⟩
def spJudX (K : PySem.W.Frag) (dB : Addr) : Sp := fun vs H _ E => ∃ (v r d : Addr) (x : V) (o : Obj) (ad : Int → Addr) (rs : List (Option Int)) (ks : Fs), vs = [.ref v, x] ∧ SqT K H v [.ref r, .ref d] ∧ Vw H r d o ad rs ks ∧ BadV rs ks ∧ ∀ H', Same H H' → E (.ref dB) none H'
theorem ok_judx {f fL : Addr} {fd fdL : FuncData} (F : Fun K "paper_judged" "paper_judged" sJudged f fd) (GL : FnOk P w K mg base (CXE P w) 4 fL fdL ["view"] (spLookX K dB)) (mL : mg "look_at_view" = some (.ref fL)) (kL : PySem.W.keepIn K (.ref fL) = true) (bL : Binds K fdL ["view"] []) :
    FnOk P w K mg base (CXE P w) 5 f fd ["view", "triples"] (spJudX K dB) := by
  refine F.okE scJ (fun vs H Q E h => ?_) (fun cdv A outer s H vs Q E hr h => ?_)
  · obtain ⟨v, r, d, x, o, ad, rs, ks, rfl, _⟩ := h
    rfl
  · obtain ⟨v, r, d, x, o, ad, rs, ks, rfl, ht, hv, bv, k⟩ := h
    exact ⟨_, pss_cons (ps_expr (xe_call GL hr rfl mL kL bL .nil (Passes.x (passE fun _ _ _ q => q)) (pa_cons (pv 0) pa_nil))) pss_dead, _, rfl, v, r, d, o, ad, rs, ks, rfl, ht, hv, bv, k⟩
/-- a view and things given back, of which something is told that is not there -/
structure BadP (rs : List (Option Int)) (ks : Fs) (bs : List Int) : Prop where
  pos : ∀ p ∈ ks, 0 ≤ p.1
  sr : Sml rs
  sf : ∀ p ∈ ks, Sml p.2
  sb : ∀ b ∈ bs, b.natAbs.log2 < 1920
  nd : (keys ks).Nodup
  rl : rs.length ≤ 20
  bl : bs.length ≤ 20
  bad : ¬ (Fine rs ks ∧ (∀ b ∈ bs, b ∈ keys ks) ∧ ∀ p ∈ ks, Fine p.2 ks)
theorem BadP.to {rs : List (Option Int)} {ks : Fs} {bs us : List Int} (b : BadP rs ks bs) (h : ∀ k, k ∈ us ↔ k ∈ bs) : BadV (rs ++ us.map some) ks := by
  refine ⟨b.pos, fun n hn => ?_, b.sf, b.nd, fun ⟨h1, h2⟩ => b.bad ⟨fun n hn => h1 n (List.mem_append_left _ hn), fun c hc => h1 c (List.mem_append_right _ (List.mem_map.mpr ⟨c, (h c).mpr hc, rfl⟩)), h2⟩⟩
  rcases List.mem_append.mp hn with g | g
  · exact b.sr n g
  · obtain ⟨c, hc, e⟩ := List.mem_map.mp g
    injection e with e
    rw [← e]
    exact b.sb c ((h c).mp hc)
def spPaperX (K : PySem.W.Frag) (dB : Addr) : Sp := fun vs H _ E => ∃ (v r d b : Addr) (o : Obj) (ad : Int → Addr) (rs : List (Option Int)) (ks : Fs) (bs : List Int), vs = [.ref v, .ref b] ∧ SqT K H v [.ref r, .ref d] ∧ Vw H r d o ad rs ks ∧ H b = some (.lst (bs.map V.int)) ∧ BadP rs ks bs ∧ ∀ H', Same H H' → E (.ref dB) none H'
theorem scPp : FnScope ["view", "read", "rooted", "triples"] ["view", "read"] (defScope sPaper) := ⟨rfl, rfl, rfl, by decide +kernel, rfl, by decide +kernel, by decide +kernel⟩
theorem ok_paperx {f fR fL : Addr} {fd fdR fdL : FuncData} (F : Fun K "round_paper" "round_paper" sPaper f fd) (GR : FnOk P w K mg base (CXE P w) 1 fR fdR ["view", "read"] (spRooted K)) (mR : mg "rooted_view" = some (.ref fR)) (kR : PySem.W.keepIn K (.ref fR) = true) (bR : Binds K fdR ["view", "read"] [])
    (GL : FnOk P w K mg base (CXE P w) 5 fL fdL ["view"] (spLookX K dB)) (mL : mg "reach_paper" = some (.ref fL)) (kL : PySem.W.keepIn K (.ref fL) = true) (bL : Binds K fdL ["view"] []) : FnOk P w K mg base (CXE P w) 6 f fd ["view", "read"] (spPaperX K dB) := by
  refine F.okE scPp (fun vs H Q E h => ?_) (fun cdv A outer s H vs Q E hr h => ?_)
  · obtain ⟨v, r, d, b, o, ad, rs, ks, bs, rfl, _⟩ := h
    rfl
  · obtain ⟨v, r, d, b, o, ad, rs, ks, bs, rfl, ht, hv, hb, bp, k⟩ := h
    refine ⟨_, pss_cons (ps_set (i := 2) scPp.nd rfl (Or.inl rfl) (xe_call GR (hr.mono (by decide)) rfl mR kR bR .nil (Passes.x (passE fun _ _ _ q => q)) (pa_cons (pv 0) (pa_cons (pv 1) pa_nil))))
      (pss_cons (ps_set (i := 3) scPp.nd rfl (Or.inl rfl) (xe_call GL hr rfl mL kL bL .nil (Passes.x (passE fun _ _ _ q => q)) (pa_cons (pv 2) pa_nil))) pss_dead), ?_⟩
    refine ⟨_, rfl, _, rfl, v, r, d, b, rs, bs, rfl, ht, hv.hr, bp.rl, hb, bp.bl, fun v' r' us H1 s1 hv1 hr1 pw1 mm1 => ?_⟩
    exact ⟨_, rfl, v', r', d, o, ad, rs ++ us.map some, ks, rfl, SqT.of hv1, ⟨hr1, (hv.same s1).hd, (hv.same s1).hl⟩, bp.to mm1, fun H' s' => k H' (s1.trans s')⟩
def spRoundX (K : PySem.W.Frag) (dB : Addr) : Sp := fun vs H _ E => ∃ (v r d b p : Addr) (x y : V) (o : Obj) (ad : Int → Addr) (rs : List (Option Int)) (ks : Fs) (bs : List Int), vs = [.ref v, .ref b, .ref p] ∧ SqT K H v [.ref r, .ref d] ∧ Vw H r d o ad rs ks ∧ H b = some (.lst (bs.map V.int)) ∧ SqT K H p [x, y] ∧ BadP rs ks bs ∧ ∀ H', Same H H' → E (.ref dB) none H'
theorem ok_roundx {f fR fL : Addr} {fd fdR fdL : FuncData} (F : Fun K "round_judged" "round_judged" sRound f fd) (GR : FnOk P w K mg base (CXE P w) 1 fR fdR ["view", "read"] (spRooted K)) (mR : mg "rooted_view" = some (.ref fR)) (kR : PySem.W.keepIn K (.ref fR) = true) (bR : Binds K fdR ["view", "read"] [])
    (GL : FnOk P w K mg base (CXE P w) 5 fL fdL ["view", "triples"] (spJudX K dB)) (mL : mg "paper_judged" = some (.ref fL)) (kL : PySem.W.keepIn K (.ref fL) = true) (bL : Binds K fdL ["view", "triples"] []) : FnOk P w K mg base (CXE P w) 6 f fd ["view", "read", "paper"] (spRoundX K dB) := by
  refine F.okE scRd (fun vs H Q E h => ?_) (fun cdv A outer s H vs Q E hr h => ?_)
  · obtain ⟨v, r, d, b, p, x, y, o, ad, rs, ks, bs, rfl, _⟩ := h
    rfl
  · obtain ⟨v, r, d, b, p, x, y, o, ad, rs, ks, bs, rfl, ht, hv, hb, hp, bp, k⟩ := h
    refine ⟨_, pss_cons (ps_set (i := 3) scRd.nd rfl (Or.inl rfl) (xe_call GR (hr.mono (by decide)) rfl mR kR bR .nil (Passes.x (passE fun _ _ _ q => q)) (pa_cons (pv 0) (pa_cons (pv 1) pa_nil))))
      (pss_one (ps_ret (pe_and (xe_call GL hr rfl mL kL bL .nil (Passes.x (passE fun _ _ _ q => q)) (pa_cons (pv 3) (pa_cons (pe_ix ix_tup (pv 2) pe_int (fun _ _ => rfl)) pa_nil))) pe_dead))), ?_⟩
    refine ⟨_, rfl, _, rfl, v, r, d, b, rs, bs, rfl, ht, hv.hr, bp.rl, hb, bp.bl, fun v' r' us H1 s1 hv1 hr1 pw1 mm1 => ?_⟩
    exact ⟨_, rfl, _, rfl, p, _, 0, x, rfl, rfl, sqT_same hp s1, rfl, v', r', d, x, o, ad, rs ++ us.map some, ks, rfl, SqT.of hv1, ⟨hr1, (hv.same s1).hd, (hv.same s1).hl⟩, bp.to mm1, fun H' s' => k H' (s1.trans s')⟩
/-- _law_refused -/
def spRefused (K : PySem.W.Frag) : Sp := fun vs H Q _ => ∃ (v r d b p : Addr) (x y : V) (o : Obj) (ad : Int → Addr) (rs : List (Option Int)) (ks : Fs) (bs : List Int), vs = [.ref v, .ref b, .ref p] ∧ SqT K H v [.ref r, .ref d] ∧ Vw H r d o ad rs ks ∧ H b = some (.lst (bs.map V.int)) ∧ SqT K H p [x, y] ∧ BadP rs ks bs ∧ ∀ H', Same H H' → Q (.bl true) H'
theorem scRf : FnScope ["view", "back", "paper", "found", "way", "caught", "e"] ["view", "back", "paper"] (defScope sRef) := ⟨rfl, rfl, rfl, by decide +kernel, rfl, by decide +kernel, by decide +kernel⟩
theorem ok_refused {f fA fB : Addr} {fd fdA fdB : FuncData} (F : Fun K "_law_refused" "_law_refused" sRef f fd) (T : Txt K mg CH dB fXI) (zr : mg "range" = none) (zi : mg "isinstance" = none)
    (GA : FnOk P w K mg base (CXE P w) 6 fA fdA ["view", "read"] (spPaperX K dB)) (mA : mg "round_paper" = some (.ref fA)) (kA : PySem.W.keepIn K (.ref fA) = true) (bA : Binds K fdA ["view", "read"] [])
    (GB : FnOk P w K mg base (CXE P w) 6 fB fdB ["view", "read", "paper"] (spRoundX K dB)) (mB : mg "round_judged" = some (.ref fB)) (kB : PySem.W.keepIn K (.ref fB) = true) (bB : Binds K fdB ["view", "read", "paper"] []) : FnOk P w K mg base (CXE P w) 7 f fd ["view", "back", "paper"] (spRefused K) := by
  obtain ⟨cdH, xH⟩ := T.h
  obtain ⟨cd, xc, hmr⟩ := T.subB
  refine F.okE scRf (fun vs H Q E h => ?_) (fun cdv A outer s H vs Q E hr h => ?_)
  · obtain ⟨v, r, d, b, p, x, y, o, ad, rs, ks, bs, rfl, _⟩ := h
    rfl
  · obtain ⟨v, r, d, b, p, x, y, o, ad, rs, ks, bs, rfl, ht, hv, hb, hp, bp, k⟩ := h
    have hu := hu_of hr
    have hu0 := Nat.lt_of_succ_lt hu
    refine ⟨_, PSs.nox (pss_cons (ps_set (i := 3) scRf.nd rfl (Or.inl rfl) (pe_lst pa_nil))
      (pss_cons (ps_for PassesOwn.never rfl (pi_range1 rfl zr (pa_cons pe_int pa_nil)) (pg_name (i := 4) scRf.nd rfl (Or.inl rfl))
        (pss_cons (ps_set (i := 5) scRf.nd rfl (Or.inl rfl) pe_non)
        (pss_cons (ps_try (i := 6) rfl rfl rfl rfl T.mH xH scRf.nd rfl rfl
          (fun pins E' EK hx => pss_one (ps_if (pt_cmpR op_eq (pv 4) pe_int (nomark _)) (pss_one (ps_expr (xe_call GA hr rfl mA kA bA .nil hx (pa_cons (pv 0) (pa_cons (pv 1) pa_nil))))) (pss_one (ps_expr (xe_call GB hr rfl mB kB bB .nil hx (pa_cons (pv 0) (pa_cons (pv 1) (pa_cons (pv 2) pa_nil))))))))
          (fun ea => pss_one (ps_set (i := 5) scRf.nd rfl (Or.inl rfl) (pv 6))))
        (pss_one (ps_expr (pe_bm PySem.F.plainAttrs_list PySem.F.slot_list_append PySem.F.type_list_append mt_append (pv 3) (pa_cons (pe_and (pe_callB call_isi rfl zi PyProof.Rows.Boot.«isinstance» (pa_cons (pv 5) (pa_cons (pe_glob (v := .ref dB) rfl T.mB rfl) pa_nil)))
          (pe_one (pe_callB call_isiT rfl zi PyProof.Rows.Boot.«isinstance» (pa_cons (pv 5) (pa_cons (pe_ty rfl T.z_ValueError PyProof.Rows.Boot.«ValueError») pa_nil))))) pa_nil)))))))
      (pss_one (ps_ret (pe_cmpR (op_eqL hu0) (pv 3) (pe_lst (pa_cons pe_bl (pa_cons pe_bl pa_nil))) (nomark _)))))), ?_⟩
    refine ⟨Nat.zero_le _, fun fo hfo => ?_⟩
    have s0 := Same.upd (o := .lst []) hfo
    refine ⟨2, rfl, by decide, by decide, for_range (lo := 0) (n := 2) (fun i σ H2 => ∃ (v4 v5 v6 : Option V), σ = [some (.ref v), some (.ref b), some (.ref p), some (.ref fo), v4, v5, v6] ∧ Same H H2 ∧ H2 fo = some (.lst (List.replicate i (V.bl true)))) ⟨none, none, none, rfl, s0, upd_same⟩ ?_ ?_⟩
    · rintro i σ H2 hi ⟨v4, v5, v6, rfl, s2, z2⟩
      have fin : ∀ (H3 : Hp), Same H2 H3 → ∀ ea : Addr, H3 ea = none → TyX K (upd H3 ea (exo false dB ea none)) (.ref ea) (.ref dB) ∧ Same H (upd H3 ea (exo false dB ea none)) ∧ upd H3 ea (exo false dB ea none) fo = some (.lst (List.replicate i (V.bl true))) := fun H3 s3 ea hea => ⟨T.cB.ty upd_same, (s2.trans s3).trans (Same.upd hea), Same.upd hea _ _ (s3 _ _ z2)⟩
      obtain rfl | rfl : i = 0 ∨ i = 1 := by omega
      · refine ⟨_, rfl, rfl, _, rfl, iteT ⟨_, rfl, _, rfl, v, r, d, b, o, ad, rs, ks, bs, rfl, sqT_same ht s2, hv.same s2, s2 _ _ hb, bp, fun H3 s3 => ?_⟩⟩
        refine ⟨dB, cd, rfl, xc, hmr, fun ea hea => ⟨.ref ea, rfl, ?_⟩⟩
        obtain ⟨ty, s4, z4⟩ := fin H3 s3 ea hea
        refine ⟨_, rfl, .inl ⟨rfl, _, SqL.of z4⟩, ?_⟩
        refine isi_read (x := .ref ea) (t := .ref dB) (b := true) rfl ty (by simp [PySem.W.kitOne]) ⟨_, rfl, iteT ?_⟩
        refine isi_readT (x := .ref ea) (t := .ref dB) (b := true) rfl ty T.fv ?_
        exact ⟨fo, _, _, rfl, rfl, z4, by decide, _, _, _, rfl, fun c u g => by rw [upd_ne (ne_of_none g hfo)]; exact s4 c u g, upd_same⟩
      · refine ⟨_, rfl, rfl, _, rfl, iteF ⟨_, rfl, _, rfl, _, rfl, v, r, d, b, p, x, y, o, ad, rs, ks, bs, rfl, sqT_same ht s2, hv.same s2, s2 _ _ hb, sqT_same hp s2, bp, fun H3 s3 => ?_⟩⟩
        refine ⟨dB, cd, rfl, xc, hmr, fun ea hea => ⟨.ref ea, rfl, ?_⟩⟩
        obtain ⟨ty, s4, z4⟩ := fin H3 s3 ea hea
        refine ⟨_, rfl, .inl ⟨rfl, _, SqL.of z4⟩, ?_⟩
        refine isi_read (x := .ref ea) (t := .ref dB) (b := true) rfl ty (by simp [PySem.W.kitOne]) ⟨_, rfl, iteT ?_⟩
        refine isi_readT (x := .ref ea) (t := .ref dB) (b := true) rfl ty T.fv ?_
        exact ⟨fo, _, _, rfl, rfl, z4, by decide, _, _, _, rfl, fun c u g => by rw [upd_ne (ne_of_none g hfo)]; exact s4 c u g, upd_same⟩
    · rintro σ H2 ⟨v4, v5, v6, rfl, s2, z2⟩
      refine ⟨_, rfl, by show 2 ≤ sizeLine; decide, fun q hq => ?_⟩
      exact ⟨fo, q, _, _, rfl, rfl, SqL.of (Same.upd hq _ _ z2), SqL.of upd_same, rfl, rfl, rfl, k _ (s2.trans (Same.upd hq))⟩
end
end K70
end
section
set_option Elab.async false
set_option linter.all false
set_option maxRecDepth 100000
set_option maxHeartbeats 4000000
set_option exponentiation.threshold 4000
namespace K70
open PySem L2 LX
theorem comp_dict {d : Addr} {o : Obj} {kvs : List (Key × V)} {te : TE} {Q : VK} {D : Addr} {τ : St} {H : Hp} (Pv : Nat → List V → Hp → Prop) (h0 : Pv 0 [] H) (hD : ∀ i ys H, i ≤ kvs.length → Pv i ys H → H D = some (.lst ys) ∧ ys.length = i) (hl : ∀ i ys H, i ≤ kvs.length → Pv i ys H → H d = some (.frz o (.dK kvs))) (hn : kvs.length ≤ sizeLine)
    (hs : ∀ i p ys H, kvs[i]? = some p → Pv i ys H → te (some (kV p.1) :: τ) H fun v H4 => H4 D = some (.lst ys) ∧ Pv (i + 1) (ys ++ [v]) (upd H4 D (.lst (ys ++ [v])))) (hd : ∀ ys H, Pv kvs.length ys H → Q (.ref D) H) : CompTo (Itd d o kvs) D τ te Q H := by
  refine ⟨fun i m ys H => m = kvs.length - i ∧ i ≤ kvs.length ∧ Pv i ys H, ⟨kvs.length, by simp, Nat.zero_le _, h0⟩, ?_⟩
  rintro i m ys H2 ⟨rfl, hi, p⟩
  obtain ⟨d1, d2⟩ := hD i ys H2 hi p
  refine ⟨d1, ?_⟩
  have hS := hl i ys H2 hi p
  by_cases hlt : i < kvs.length
  · refine .inr ⟨⟨hS, hlt⟩, by omega, Pv (i + 1), fun zs H' p' => ⟨kvs.length - (i + 1), by omega, rfl, hlt, p'⟩, fun y H3 q => ?_⟩
    obtain ⟨e1, q', e2, e3⟩ := q
    subst e1 e3
    exact hs i q' ys _ e2 p
  · have e : i = kvs.length := by omega
    subst e
    exact .inl ⟨⟨hS, Nat.le_refl _⟩, hd ys H2 p⟩
section
variable {P : Program} {w : World} {K : PySem.W.Frag} {mg : Str → Option Value} {base : Heap}
/-! ### last_steps -/
def kvS (ua : Int → Addr) (ms : List Int) : List (Key × V) := ms.map fun t => (Sum.inl t, V.ref (ua t))
def tsS (tf : Int → Option Int × Option Int) (ms : List Int) : List Tr := ms.map fun t => (some t, (tf t).1, (tf t).2)
theorem kvS_keys (ua : Int → Addr) (ms : List Int) : (kvS ua ms).map (·.1) = ms.map Sum.inl := by
  unfold kvS
  rw [List.map_map]
  rfl
def setA (ua : Int → Addr) (n : Int) (u : Addr) : Int → Addr := fun k => if k = n then u else ua k
def setF (tf : Int → Option Int × Option Int) (n : Int) (x : Option Int × Option Int) : Int → Option Int × Option Int := fun k => if k = n then x else tf k
/-- the steps in the store -/
structure Stp (H : Hp) (st : Addr) (ua : Int → Addr) (tf : Int → Option Int × Option Int) (ms : List Int) : Prop where
  hs : H st = some (.dK (kvS ua ms))
  hu : ∀ t ∈ ms, H (ua t) = some (.tup [oV (tf t).1, oV (tf t).2])
theorem Stp.same {H H' : Hp} {st : Addr} {ua : Int → Addr} {tf : Int → Option Int × Option Int} {ms : List Int} (p : Stp H st ua tf ms) (s : Same H H') : Stp H' st ua tf ms := ⟨s _ _ p.hs, fun t h => s _ _ (p.hu t h)⟩
theorem Stp.other {H : Hp} {st m : Addr} {ua : Int → Addr} {tf : Int → Option Int × Option Int} {ms : List Int} {ys zs : List V} (p : Stp H st ua tf ms) (hm : H m = some (.lst ys)) : Stp (upd H m (.lst zs)) st ua tf ms :=
  ⟨(upd_ne (ne_of p.hs hm (by intro z; cases z))).trans p.hs, fun t h => (upd_ne (ne_of (p.hu t h) hm (by intro z; cases z))).trans (p.hu t h)⟩
theorem Stp.add {H : Hp} {st : Addr} {ua : Int → Addr} {tf : Int → Option Int × Option Int} {ms : List Int} (p : Stp H st ua tf ms) {u : Addr} (hu : H u = none) {n : Int} (hn : n ∉ ms) (hl : ms.length ≤ 1000) (x : Option Int × Option Int) :
    DPut (upd H u (.tup [oV x.1, oV x.2])) st (.int n) (.ref u) (upd (upd H u (.tup [oV x.1, oV x.2])) st (.dK (kvS (setA ua n u) (ms ++ [n])))) ∧ Stp (upd (upd H u (.tup [oV x.1, oV x.2])) st (.dK (kvS (setA ua n u) (ms ++ [n])))) st (setA ua n u) (setF tf n x) (ms ++ [n]) ∧ tsS (setF tf n x) (ms ++ [n]) = tsS tf ms ++ [(some n, x.1, x.2)] := by
  have hz := Same.upd (o := .tup [oV x.1, oV x.2]) hu _ _ p.hs
  have e1 : kvS (setA ua n u) (ms ++ [n]) = kvS ua ms ++ [(Sum.inl n, V.ref u)] := by
    unfold kvS
    rw [List.map_append]
    congr 1
    · refine List.map_congr_left fun t ht => ?_
      show (Sum.inl t, V.ref (if t = n then u else ua t)) = _
      rw [if_neg fun z => hn (by rw [← z]; exact ht)]
    · show [(Sum.inl n, V.ref (if n = n then u else ua n))] = _
      rw [if_pos rfl]
  have vn : valV (kvS ua ms) (Sum.inl n) = none := by
    have := val_some (kvS_keys ua ms) n
    rw [decide_eq_false hn] at this
    simpa using this
  have lk : (kvS ua ms).length = ms.length := by unfold kvS; rw [List.length_map]
  refine ⟨?_, ⟨upd_same, fun t h => ?_⟩, ?_⟩
  · rw [e1, ← putK_new (.ref u) vn]
    exact DPut.k (k := Sum.inl n) hz (Nat.lt_of_le_of_lt (show (kvS ua ms).length ≤ 1000 by omega) (by decide))
  · have nt : ∀ {a : Addr} {xs : List V}, upd H u (.tup [oV x.1, oV x.2]) a = some (.tup xs) → a ≠ st := fun g => ne_of g hz (by intro z; cases z)
    by_cases e : t = n
    · subst e
      show upd _ st _ (if t = t then u else ua t) = some (.tup [oV (if t = t then x else tf t).1, oV (if t = t then x else tf t).2])
      rw [if_pos rfl, if_pos rfl, upd_ne (nt upd_same), upd_same]
    · have ht : t ∈ ms := by
        rcases List.mem_append.mp h with g | g
        · exact g
        · exact absurd (List.mem_singleton.mp g) e
      have h2 := Same.upd (o := .tup [oV x.1, oV x.2]) hu _ _ (p.hu t ht)
      show upd _ st _ (if t = n then u else ua t) = some (.tup [oV (if t = n then x else tf t).1, oV (if t = n then x else tf t).2])
      rw [if_neg e, if_neg e, upd_ne (nt h2)]
      exact h2
  · unfold tsS
    rw [List.map_append]
    congr 1
    · refine List.map_congr_left fun t ht => ?_
      show (some t, (if t = n then x else tf t).1, (if t = n then x else tf t).2) = _
      rw [if_neg fun z => hn (by rw [← z]; exact ht)]
    · show [(some n, (if n = n then x else tf n).1, (if n = n then x else tf n).2)] = _
      rw [if_pos rfl]
/-- what the steps are, as a list -/
def stepT (o : Option Int) (i : Nat) (x : Option Int) (acc : List Tr) : List Tr := match x with
  | none => acc
  | some n => if some n ∈ acc.map (·.1) then acc else acc ++ [(some n, o, some (i : Int))]
def foldT (o : Option Int) : Nat → List (Option Int) → List Tr → List Tr
  | _, [], acc => acc
  | k, x :: r, acc => foldT o (k + 1) r (stepT o k x acc)
theorem foldT_append (o : Option Int) (x : Option Int) : ∀ (l : List (Option Int)) (k : Nat) (acc : List Tr), foldT o k (l ++ [x]) acc = stepT o (k + l.length) x (foldT o k l acc)
  | [], k, acc => rfl
  | y :: l, k, acc => by
    show foldT o (k + 1) (l ++ [x]) (stepT o k y acc) = stepT o (k + (l.length + 1)) x (foldT o (k + 1) l (stepT o k y acc))
    rw [foldT_append o x l (k + 1), show k + 1 + l.length = k + (l.length + 1) by omega]
theorem foldT_snoc {o : Option Int} {fs : List (Option Int)} {i : Nat} (hi : i < fs.length) (acc : List Tr) : foldT o 0 (fs.take (i + 1)) acc = stepT o i fs[i] (foldT o 0 (fs.take i) acc) := by
  rw [List.take_succ_eq_append_getElem hi, foldT_append, List.length_take, Nat.zero_add, Nat.min_eq_left (Nat.le_of_lt hi)]
def bfs (ks : Fs) : Nat → Nat → List Tr → List Tr
  | 0, _, acc => acc
  | f + 1, dn, acc => match acc[dn]? with
    | none => acc
    | some t => bfs ks f (dn + 1) (foldT t.1 0 (fsOf ks (t.1.getD 0)) acc)
theorem bfs_end {ks : Fs} {f dn : Nat} {acc : List Tr} (h : acc.length ≤ dn) : bfs ks f dn acc = acc := by
  cases f with
  | zero => rfl
  | succ f =>
    show (match acc[dn]? with | none => acc | some t => _) = acc
    rw [List.getElem?_eq_none h]
theorem bfs_go {ks : Fs} {f dn : Nat} {acc : List Tr} {t : Tr} (h : acc[dn]? = some t) : bfs ks (f + 1) dn acc = bfs ks f (dn + 1) (foldT t.1 0 (fsOf ks (t.1.getD 0)) acc) := by
  show (match acc[dn]? with | none => acc | some t => _) = _
  rw [h]
def paperOf (rs : List (Option Int)) (ks : Fs) : List Tr := bfs ks 13 0 (foldT none 0 rs [])
theorem tsS_mem {tf : Int → Option Int × Option Int} {ms : List Int} {n : Int} : some n ∈ (tsS tf ms).map (·.1) ↔ n ∈ ms := by
  unfold tsS
  rw [List.map_map, List.mem_map]
  exact ⟨fun ⟨x, hx, e⟩ => by injection e with e; rw [← e]; exact hx, fun h => ⟨n, h, rfl⟩⟩
theorem step_in {o : Option Int} {i : Nat} {n : Int} {tf : Int → Option Int × Option Int} {ms : List Int} (h : n ∈ ms) : stepT o i (some n) (tsS tf ms) = tsS tf ms := if_pos (tsS_mem.mpr h)
theorem step_out {o : Option Int} {i : Nat} {n : Int} {tf : Int → Option Int × Option Int} {ms : List Int} (h : n ∉ ms) : stepT o i (some n) (tsS tf ms) = tsS tf ms ++ [(some n, o, some (i : Int))] := if_neg fun z => h (tsS_mem.mp z)
def spSteps (K : PySem.W.Frag) : Sp := fun vs H Q _ => ∃ (v r d : Addr) (o : Obj) (ad : Int → Addr) (rs : List (Option Int)) (ks : Fs), vs = [.ref v] ∧ SqT K H v [.ref r, .ref d] ∧ Vw H r d o ad rs ks ∧ Rt rs ks ∧
  ∀ (st : Addr) (ua : Int → Addr) (tf : Int → Option Int × Option Int) (ms : List Int) (H' : Hp), Same H H' → H st = none → Stp H' st ua tf ms → Runs rs ks [] (tsS tf ms) ms → (∀ n, some n ∈ rs → n ∈ ms) → Shut ks ms → tsS tf ms = paperOf rs ks → Q (.ref st) H'
abbrev NSt : List Str := ["view", "steps", "place", "thing", "met", "done"]
theorem scSs : FnScope NSt ["view"] (defScope sSteps) := ⟨rfl, rfl, rfl, by decide +kernel, rfl, by decide +kernel, by decide +kernel⟩
/-- what the while keeps -/
def WS (H : Hp) (v st mt : Addr) (rs : List (Option Int)) (ks : Fs) (m : Nat) (σ : St) (H4 : Hp) : Prop := ∃ (dn : Nat) (v2 v3 : Option V) (ua : Int → Addr) (tf : Int → Option Int × Option Int) (ms : List Int), m = 13 - dn ∧ σ = [some (.ref v), some (.ref st), v2, v3, some (.ref mt), some (.int (dn : Int))] ∧ Same H H4 ∧ Stp H4 st ua tf ms ∧ H4 mt = some (.lst (ms.map V.int)) ∧
  Runs rs ks [] (tsS tf ms) ms ∧ (∀ n, some n ∈ rs → n ∈ ms) ∧ (∀ t ∈ ms.take dn, ∀ n, some n ∈ fsOf ks t → n ∈ ms) ∧ dn ≤ ms.length ∧ bfs ks (13 - dn) dn (tsS tf ms) = paperOf rs ks
theorem ok_steps {f : Addr} {fd : FuncData} (F : Fun K "last_steps" "last_steps" sSteps f fd) (zl : mg "list" = none) (ze : mg "enumerate" = none) (zn : mg "len" = none) : FnOk P w K mg base (CXE P w) 1 f fd ["view"] (spSteps K) := by
  refine F.okE scSs (fun vs H Q E h => ?_) (fun cdv A outer s H vs Q E hr h => ?_)
  · obtain ⟨v, r, d, o, ad, rs, ks, rfl, _⟩ := h
    rfl
  · obtain ⟨v, r, d, o, ad, rs, ks, rfl, ht, hv, rt, k⟩ := h
    have hu := hu_of hr
    refine ⟨_, PSs.nox (pss_cons (ps_set (i := 1) scSs.nd rfl (Or.inl rfl) pe_dnewK)
      (pss_cons (ps_for PassesOwn.never rfl (pi_enum rfl ze (pa_cons (pe_ix ix_tup (pv 0) pe_int (fun _ _ => rfl)) pa_nil)) (pg_tup rfl (pgs_cons (pg_name (i := 2) scSs.nd rfl (Or.inl rfl)) (pgs_cons (pg_name (i := 3) scSs.nd rfl (Or.inl rfl)) pgs_nil)))
        (pss_one (ps_if (PW.pt (pw_and (pt_cmpR op_notN (pv 3) pe_non (nomark _)) (pw_and1 (pt_cmp (pc_dnotin hu (pv 3) (pv 1)) (by with_unfolding_all rfl))))) (pss_one (ps_dput hu (pv 1) (pv 3) (pe_tup (pa_cons pe_non (pa_cons (pv 2) pa_nil))) rfl)) pss_nil)))
      (pss_cons (ps_set (i := 4) scSs.nd rfl (Or.inl rfl) (pe_callTy (call_listR rfl) rfl zl PyProof.Rows.Boot.«list» (pa_cons (pv 1) pa_nil)))
      (pss_cons (ps_set (i := 5) scSs.nd rfl (Or.inl rfl) pe_int)
      (pss_cons (ps_while PassesOwn.never (pt_cmpR op_lt (pv 5) (pe_callB call_len_seq rfl zn PyProof.Rows.Boot.«len» (pa_cons (pv 4) pa_nil)) (nomark _))
        (pss_cons (ps_for PassesOwn.never rfl (pi_enum rfl ze (pa_cons (pe_dget hu (pe_ix ix_tup (pv 0) pe_int (fun _ _ => rfl)) (pe_ix ix_list (pv 4) (pv 5) (fun _ _ => rfl)) (fun _ _ => rfl)) pa_nil)) (pg_tup rfl (pgs_cons (pg_name (i := 2) scSs.nd rfl (Or.inl rfl)) (pgs_cons (pg_name (i := 3) scSs.nd rfl (Or.inl rfl)) pgs_nil)))
          (pss_one (ps_if (PW.pt (pw_and (pt_cmpR op_notN (pv 3) pe_non (nomark _)) (pw_and1 (pt_cmp (pc_dnotin hu (pv 3) (pv 1)) (by with_unfolding_all rfl)))))
            (pss_cons (ps_dput hu (pv 1) (pv 3) (pe_tup (pa_cons (pe_ix ix_list (pv 4) (pv 5) (fun _ _ => rfl)) (pa_cons (pv 2) pa_nil))) rfl)
            (pss_one (ps_expr (pe_bm PySem.F.plainAttrs_list PySem.F.slot_list_append PySem.F.type_list_append mt_append (pv 4) (pa_cons (pv 3) pa_nil))))) pss_nil)))
        (pss_one (ps_aug (i := 5) scSs.nd rfl (Or.inl rfl) pe_int ip_add))))
      (pss_one (ps_ret (pv 1)))))))), ?_⟩
    refine fun st hst => ?_
    have s0 : Same H (upd H st (.dK [])) := Same.upd hst
    have hr0 := s0 _ _ hv.hr
    have small : ∀ {ts : List Tr} {m : List Int}, Runs rs ks [] ts m → m.length ≤ 12 := fun r => runs_small rt r
    refine ⟨_, rfl, v, _, 0, .ref r, rfl, rfl, sqT_same ht s0, rfl, r, rfl, ⟨_, SqL.of hr0⟩, for_enum (K := K) (a := r) (xs := rs.map oV) (fun i σ H2 => ∃ (v2 v3 : Option V) (ua : Int → Addr) (tf : Int → Option Int × Option Int) (ms : List Int), σ = [some (.ref v), some (.ref st), v2, v3, none, none] ∧ Same H H2 ∧ Stp H2 st ua tf ms ∧ Runs rs ks [] (tsS tf ms) ms ∧ (∀ n, some n ∈ rs.take i → n ∈ ms) ∧ tsS tf ms = foldT none 0 (rs.take i) [])
      ⟨none, none, fun _ => 0, fun _ => (none, none), [], rfl, s0, ⟨upd_same, fun t h => nomatch h⟩, .nil, (fun n h => nomatch h), rfl⟩ (fun i σ H2 _ ⟨_, _, _, _, _, _, s2, _⟩ => SqL.of (s2 _ _ hv.hr)) ?_ ?_⟩
    · rintro i x σ H2 t hx ⟨v2, v3, ua, tf, ms, rfl, s2, M, hR, hall, hfo⟩ htt
      have hlt : i < rs.length := by have := (List.getElem?_eq_some_iff.mp hx).1; rwa [List.length_map] at this
      have tk : rs.take (i + 1) = rs.take i ++ [rs[i]] := List.take_succ_eq_append_getElem hlt
      have hxe : x = oV rs[i] := by
        rw [List.getElem?_map, List.getElem?_eq_getElem hlt] at hx
        exact (Option.some.inj hx).symm
      subst hxe
      have s3 : Same H2 (upd H2 t (.tup [.int (i : Int), oV rs[i]])) := Same.upd htt
      have M3 := M.same s3
      have ml := small hR
      refine ⟨t, _, rfl, SqT.of upd_same, rfl, _, _, rfl, _, _, rfl, rfl, ?_⟩
      have fsn := foldT_snoc (o := none) hlt []
      rw [← hfo] at fsn
      rw [fsn, tk]
      have hat : rs[i]? = some rs[i] := List.getElem?_eq_getElem hlt
      cases hc : rs[i] with
      | none =>
        rw [hc] at s3 M3
        refine ⟨_, rfl, rfl, _, rfl, iteF (iteF ⟨_, _, ua, tf, ms, rfl, s2.trans s3, M3, hR, fun n hn => ?_, rfl⟩)⟩
        rcases List.mem_append.mp hn with g | g
        · exact hall n g
        · exact nomatch (List.mem_singleton.mp g)
      | some n =>
        rw [hc] at s3 M3 hat
        refine ⟨_, rfl, rfl, _, rfl, iteT ⟨_, rfl, _, rfl, st, _, rfl, DGet.k (k := Sum.inl n) M3.hs, _, rfl, ?_⟩⟩
        rw [val_some (kvS_keys ua ms)]
        by_cases hin : n ∈ ms
        · rw [decide_eq_true hin]
          refine iteF ⟨_, _, ua, tf, ms, rfl, s2.trans s3, M3, hR, fun n' hn => ?_, (step_in hin).symm⟩
          rcases List.mem_append.mp hn with g | g
          · exact hall n' g
          · injection (List.mem_singleton.mp g) with g
            rw [g]; exact hin
        · rw [decide_eq_false hin]
          refine iteT ⟨_, rfl, by show 2 ≤ sizeLine; decide, fun u hu' => ?_⟩
          obtain ⟨pd, M5, e5⟩ := M3.add hu' hin (by omega) (none, some (i : Int))
          refine ⟨_, rfl, _, rfl, st, _, rfl, pd, _, _, _, _, ms ++ [n], rfl, fun c u' g => ?_, M5, ?_, fun n' hn => ?_, by rw [e5, step_out hin]⟩
          · rw [upd_ne (ne_of_none g hst)]
            exact Same.upd hu' _ _ (s3 _ _ (s2 c u' g))
          · rw [e5]
            exact runs_snoc hR ⟨rfl, hin, i, rfl, hat⟩
          · rcases List.mem_append.mp hn with g | g
            · exact List.mem_append_left _ (hall n' g)
            · injection (List.mem_singleton.mp g) with g
              exact List.mem_append_right _ (by rw [g]; exact List.mem_singleton.mpr rfl)
    · rintro σ H2 ⟨v2, v3, ua, tf, ms, rfl, s2, M, hR, hall, hfo⟩
      rw [List.length_map, List.take_of_length_le (Nat.le_refl _)] at hall hfo
      refine ⟨_, rfl, st, kvS ua ms, ms, rfl, .inl M.hs, kvS_keys ua ms, fun mt hmt => ?_⟩
      have s3 := Same.upd (o := .lst (ms.map V.int)) hmt
      have hmt0 : H mt = none := s2.free hmt
      refine ⟨WS H v st mt rs ks, ⟨13, 0, v2, v3, ua, tf, ms, rfl, rfl, s2.trans s3, M.same s3, upd_same, hR, hall, (fun t h => nomatch h), Nat.zero_le _, by rw [hfo]; rfl⟩, ?_⟩
      clear M hR hall s3 s2 hfo
      rintro m σ H4 ⟨dn, v2, v3, ua, tf, ms, rfl, rfl, s4, M, zm, hR, hro, hdone, hdl, hbf⟩
      have ml := small hR
      have min := runs_keys rt (a := []) (fun x h => nomatch h) hR
      refine ⟨_, rfl, _, rfl, mt, _, rfl, .inl (SqL.of zm), _, _, rfl, rfl, _, rfl, ite2 (fun h => ?_) (fun h => ?_)⟩
      · have hlt : dn < ms.length := by
          have h1 : (dn : Int) < ((ms.map V.int).length : Int) := by simpa using h
          rw [List.length_map] at h1
          omega
        refine ⟨fun σ' H' => ∃ m', m' < 13 - dn ∧ WS H v st mt rs ks m' σ' H', fun _ _ h => h, ?_⟩
        have tk : ms.take (dn + 1) = ms.take dn ++ [ms[dn]] := List.take_succ_eq_append_getElem hlt
        obtain ⟨t, et⟩ : ∃ t, ms[dn] = t := ⟨_, rfl⟩
        have htm : t ∈ ms := by rw [← et]; exact List.getElem_mem hlt
        have hin : t ∈ keys ks := min t htm
        have hat : ∀ ex : List Int, atI ((ms ++ ex).map V.int) (dn : Int) = some (.int t) := fun ex => atI_nat (by rw [List.getElem?_map, List.getElem?_append_left hlt, List.getElem?_eq_getElem hlt, et]; rfl)
        have v4 := hv.same s4
        obtain ⟨f1, f2, f3⟩ := fs_at v4 rt hin
        obtain ⟨acc, eacc⟩ : ∃ acc, tsS tf ms = acc := ⟨_, rfl⟩
        have hbf2 : bfs ks (13 - (dn + 1)) (dn + 1) (foldT (some t) 0 (fsOf ks t) acc) = paperOf rs ks := by
          have hg : (tsS tf ms)[dn]? = some (some t, (tf t).1, (tf t).2) := by
            unfold tsS
            rw [List.getElem?_map, List.getElem?_eq_getElem hlt, et]
            rfl
          rw [show 13 - dn = (13 - (dn + 1)) + 1 by omega, bfs_go hg, eacc] at hbf
          exact hbf
        refine ⟨_, rfl, v, _, 1, .ref d, rfl, rfl, sqT_same ht s4, rfl, _, rfl, _, rfl, mt, _, _, .int t, rfl, rfl, SqL.of zm, (by have := hat []; rwa [List.append_nil] at this), d, _, rfl, dget_in v4.hd hin, ad t, rfl, ⟨_, SqL.of f1⟩,
          for_enum (K := K) (a := ad t) (xs := (fsOf ks t).map oV) (fun j σ H6 => ∃ (v2 v3 : Option V) (ua : Int → Addr) (tf : Int → Option Int × Option Int) (ex : List Int), σ = [some (.ref v), some (.ref st), v2, v3, some (.ref mt), some (.int (dn : Int))] ∧ Same H H6 ∧ Stp H6 st ua tf (ms ++ ex) ∧ H6 mt = some (.lst ((ms ++ ex).map V.int)) ∧ Runs rs ks [] (tsS tf (ms ++ ex)) (ms ++ ex) ∧ (∀ n, some n ∈ (fsOf ks t).take j → n ∈ ms ++ ex) ∧ tsS tf (ms ++ ex) = foldT (some t) 0 ((fsOf ks t).take j) acc)
          ⟨v2, v3, ua, tf, [], rfl, s4, by rw [List.append_nil]; exact M, by rw [List.append_nil]; exact zm, by rw [List.append_nil]; exact hR, (fun n h => nomatch h), by rw [List.append_nil]; exact eacc⟩ (fun j σ H6 _ ⟨_, _, _, _, _, _, s6, _⟩ => SqL.of (fs_at (hv.same s6) rt hin).1) ?_ ?_⟩
        · rintro j x σ H6 u hx ⟨v2, v3, ua, tf, ex, rfl, s6, M6, zm6, hR6, hall, hfo⟩ hut
          have hlj : j < (fsOf ks t).length := by have := (List.getElem?_eq_some_iff.mp hx).1; rwa [List.length_map] at this
          have tj : (fsOf ks t).take (j + 1) = (fsOf ks t).take j ++ [(fsOf ks t)[j]] := List.take_succ_eq_append_getElem hlj
          have hxe : x = oV (fsOf ks t)[j] := by
            rw [List.getElem?_map, List.getElem?_eq_getElem hlj] at hx
            exact (Option.some.inj hx).symm
          subst hxe
          have ml6 := small hR6
          have hat6 : (fsOf ks t)[j]? = some (fsOf ks t)[j] := List.getElem?_eq_getElem hlj
          refine ⟨u, _, rfl, SqT.of upd_same, rfl, _, _, rfl, _, _, rfl, rfl, ?_⟩
          have fsn := foldT_snoc (o := some t) hlj acc
          rw [← hfo] at fsn
          rw [fsn, tj]
          cases hc : (fsOf ks t)[j] with
          | none =>
            have s7 := Same.upd (o := .tup [.int (j : Int), oV none]) hut
            refine ⟨_, rfl, rfl, _, rfl, iteF (iteF ⟨_, _, ua, tf, ex, rfl, s6.trans s7, M6.same s7, s7 _ _ zm6, hR6, fun n hn => ?_, rfl⟩)⟩
            rcases List.mem_append.mp hn with g | g
            · exact hall n g
            · exact nomatch (List.mem_singleton.mp g)
          | some n =>
            rw [hc] at hat6
            have s7 := Same.upd (o := .tup [.int (j : Int), oV (some n)]) hut
            have M7 := M6.same s7
            refine ⟨_, rfl, rfl, _, rfl, iteT ⟨_, rfl, _, rfl, st, _, rfl, DGet.k (k := Sum.inl n) M7.hs, _, rfl, ?_⟩⟩
            rw [val_some (kvS_keys ua _)]
            by_cases hn6 : n ∈ ms ++ ex
            · rw [decide_eq_true hn6]
              refine iteF ⟨_, _, ua, tf, ex, rfl, s6.trans s7, M7, s7 _ _ zm6, hR6, fun n' hn => ?_, (step_in hn6).symm⟩
              rcases List.mem_append.mp hn with g | g
              · exact hall n' g
              · injection (List.mem_singleton.mp g) with g
                rw [g]; exact hn6
            · rw [decide_eq_false hn6]
              refine iteT ⟨_, rfl, _, rfl, mt, _, _, .int t, rfl, rfl, SqL.of (s7 _ _ zm6), hat ex, _, rfl, by show 2 ≤ sizeLine; decide, fun u2 hu2 => ?_⟩
              obtain ⟨pd, M9, e9⟩ := M7.add hu2 hn6 (by omega) (some t, some (j : Int))
              have s8 := Same.upd (o := .tup [oV (some t), oV (some (j : Int))]) hu2
              have zm8 := s8 _ _ (s7 _ _ zm6)
              have nms : mt ≠ st := ne_of zm8 (s8 _ _ M7.hs) (by intro z; cases z)
              have zm9 := (upd_ne (o := .dK (kvS (setA ua n u2) (ms ++ ex ++ [n]))) nms).trans zm8
              refine ⟨_, rfl, _, rfl, st, _, rfl, pd, ?_⟩
              refine ⟨_, rfl, .inl ⟨rfl, _, SqL.of zm9⟩, _, rfl, mt, _, _, rfl, rfl, zm9, Nat.lt_of_le_of_lt (show ((ms ++ ex).map V.int).length ≤ 12 by rw [List.length_map]; exact ml6) (by decide), ?_⟩
              refine ⟨_, _, setA ua n u2, setF tf n (some t, some (j : Int)), ex ++ [n], rfl, fun c u' g => ?_, ?_, ?_, ?_, fun n' hn => ?_, by rw [← List.append_assoc, e9, step_out hn6]⟩
              · rw [upd_ne (ne_of_none g hmt0), upd_ne (ne_of_none g hst)]
                exact s8 _ _ (s7 _ _ (s6 c u' g))
              · rw [← List.append_assoc]
                exact M9.other zm9
              · rw [upd_same, ← List.append_assoc, List.map_append (l₁ := ms ++ ex)]
                rfl
              · rw [← List.append_assoc, e9]
                exact runs_snoc hR6 ⟨rfl, hn6, List.mem_append_left _ htm, j, rfl, hat6⟩
              · rw [← List.append_assoc]
                rcases List.mem_append.mp hn with g | g
                · exact List.mem_append_left _ (hall n' g)
                · injection (List.mem_singleton.mp g) with g
                  exact List.mem_append_right _ (by rw [g]; exact List.mem_singleton.mpr rfl)
        · rintro σ H6 ⟨v2, v3, ua, tf, ex, rfl, s6, M6, zm6, hR6, hall, hfo⟩
          rw [List.length_map, List.take_of_length_le (Nat.le_refl _)] at hall hfo
          have ml6 := small hR6
          have fin : ∃ m', m' < 13 - dn ∧ WS H v st mt rs ks m' [some (.ref v), some (.ref st), v2, v3, some (.ref mt), some (.int ((dn : Int) + 1))] H6 := by
            refine ⟨13 - (dn + 1), by rw [List.length_append] at ml6; omega, dn + 1, v2, v3, ua, tf, ms ++ ex, rfl, rfl, s6, M6, zm6, hR6, fun n h => List.mem_append_left _ (hro n h), fun c h n hn => ?_, by rw [List.length_append]; omega, by rw [hfo]; exact hbf2⟩
            rw [List.take_append_of_le_length (by omega), tk, et] at h
            rcases List.mem_append.mp h with g | g
            · exact List.mem_append_left _ (hdone c g n hn)
            · rw [List.mem_singleton.mp g] at hn
              exact hall n hn
          exact ⟨_, rfl, _, 1, rfl, rfl, fin⟩
      · have hge : ms.length ≤ dn := by
          have h1 : ¬ (dn : Int) < ((ms.map V.int).length : Int) := by simpa using h
          rw [List.length_map] at h1
          omega
        rw [List.take_of_length_le hge] at hdone
        exact ⟨_, rfl, k st ua tf ms H4 s4 hst M hR hro hdone (by rw [← hbf, bfs_end (by unfold tsS; rw [List.length_map]; exact hge)])⟩
/-! ### reach_paper -/
abbrev scpP : Scope := scopeOf (ret? ((defBody sReach).getD 2 (.Pass ⟨0, 0, 0, 0⟩)))
theorem cP : CompP (defScope sReach) scpP "thing" ["steps"] ["view", "steps"] [1] := by decide +kernel
def spReach (K : PySem.W.Frag) : Sp := fun vs H Q _ => ∃ (v r d : Addr) (o : Obj) (ad : Int → Addr) (rs : List (Option Int)) (ks : Fs), vs = [.ref v] ∧ SqT K H v [.ref r, .ref d] ∧ Vw H r d o ad rs ks ∧ Rt rs ks ∧
  ∀ (l : Addr) (xs : List Addr) (tr : Addr → Tr) (ms : List Int) (H' : Hp), Same H H' → H l = none → Pap H' l xs tr → Runs rs ks [] (xs.map tr) ms → (∀ n, some n ∈ rs → n ∈ ms) → Shut ks ms → xs.map tr = paperOf rs ks → Q (.ref l) H'
theorem ok_reach {f fL fS : Addr} {fd fdL fdS : FuncData} (F : Fun K "reach_paper" "reach_paper" sReach f fd) (GL : FnOk P w K mg base (CXE P w) 2 fL fdL ["view"] (spLook K)) (mL : mg "look_at_view" = some (.ref fL)) (kL : PySem.W.keepIn K (.ref fL) = true) (bL : Binds K fdL ["view"] [])
    (GS : FnOk P w K mg base (CXE P w) 1 fS fdS ["view"] (spSteps K)) (mS : mg "last_steps" = some (.ref fS)) (kS : PySem.W.keepIn K (.ref fS) = true) (bS : Binds K fdS ["view"] []) : FnOk P w K mg base (CXE P w) 3 f fd ["view"] (spReach K) := by
  refine F.okE scRe (fun vs H Q E h => ?_) (fun cdv A outer s H vs Q E hr h => ?_)
  · obtain ⟨v, r, d, o, ad, rs, ks, rfl, _⟩ := h
    rfl
  · obtain ⟨v, r, d, o, ad, rs, ks, rfl, ht, hv, rt, k⟩ := h
    have hu := hu_of hr
    have co : CompOk (cxE P w K mg base ["view", "steps"] "reach_paper" (defScope sReach) f cdv A outer s H E).nox scpP [("steps", s.heap.objs.size + 1)] "thing" [1] ["thing", "steps"] :=
      comp_ok rfl rfl rfl cP rfl rfl (by intro q hq; rw [List.mem_singleton.mp hq]; rfl)
    refine ⟨_, PSs.nox (pss_cons (ps_expr (xe_call GL hr rfl mL kL bL .nil passN (pa_cons (pv 0) pa_nil)))
      (pss_cons (ps_set (i := 1) scRe.nd rfl (Or.inr rfl) (xe_call GS (hr.mono (by decide)) rfl mS kS bS .nil passN (pa_cons (pv 0) pa_nil)))
      (pss_one (ps_ret (pe_comp co rfl (pi_dict (pe_frz (pv 1))) (fun C fp s₀ H₀ => pe_tup (pa_cons (pv 0) (pa_cons (pe_ix (r := rIxT K) ix_tup (pe_dget hu (pv 1) (pv 0) (fun _ _ => rfl)) pe_int (fun _ _ => rfl)) (pa_cons (pe_ix (r := rIxT K) ix_tup (pe_dget hu (pv 1) (pv 0) (fun _ _ => rfl)) pe_int (fun _ _ => rfl)) pa_nil))))))))), ?_⟩
    refine ⟨_, rfl, v, r, d, o, ad, rs, ks, rfl, ht, hv, rt, ?_⟩
    refine ⟨_, rfl, v, r, d, o, ad, rs, ks, rfl, ht, hv, rt, fun st ua tf ms H1 s1 hst M hR hro hsh hpa => ?_⟩
    refine ⟨_, rfl, st, kvS ua ms, M.hs, fun oF => ⟨st, oF, kvS ua ms, rfl, upd_same, fun D hD => ?_⟩⟩
    have ml := runs_small rt hR
    have lk : (kvS ua ms).length = ms.length := by unfold kvS; rw [List.length_map]
    obtain ⟨H2, e2⟩ : ∃ H2, upd H1 st (.frz oF (.dK (kvS ua ms))) = H2 := ⟨_, rfl⟩
    have s2 : Same H H2 := fun c u q => by rw [← e2, upd_ne (ne_of_none q hst)]; exact s1 c u q
    have zst : H2 st = some (.frz oF (.dK (kvS ua ms))) := by rw [← e2]; exact upd_same
    have hu2 : ∀ t ∈ ms, H2 (ua t) = some (.tup [oV (tf t).1, oV (tf t).2]) := fun t h => by
      rw [← e2, upd_ne (ne_of (M.hu t h) M.hs (by intro z; cases z))]
      exact M.hu t h
    rw [e2] at hD ⊢
    refine comp_dict (d := st) (o := oF) (kvs := kvS ua ms) (fun i ys H3 => ∃ (xs : List Addr) (tr : Addr → Tr), ys = xs.map V.ref ∧ xs.length = i ∧ Same H2 H3 ∧ Pap H3 D xs tr ∧ xs.map tr = tsS tf (ms.take i)) ⟨[], fun _ => (none, none, none), rfl, rfl, Same.upd hD, ⟨upd_same, fun x h => nomatch h⟩, rfl⟩
      (fun i ys H3 _ ⟨xs, tr, e, l, _, p, _⟩ => ⟨by rw [e]; exact p.hl, by rw [e, List.length_map]; exact l⟩) (fun i ys H3 _ ⟨_, _, _, _, s3, _⟩ => s3 _ _ zst) (Nat.le_trans (show (kvS ua ms).length ≤ 12 by omega) (by decide)) (fun i p ys H3 hp ⟨xs, tr, e, l, s3, pp, et⟩ => ?_) (fun ys H3 ⟨xs, tr, e, l, s3, pp, et⟩ => ?_)
    · have hlt : i < ms.length := by rw [← lk]; exact (List.getElem?_eq_some_iff.mp hp).1
      obtain ⟨t, ett⟩ : ∃ t, ms[i] = t := ⟨_, rfl⟩
      have hpe : p.1 = Sum.inl t := by
        have h1 : ((kvS ua ms).map (·.1))[i]? = some p.1 := by rw [List.getElem?_map, hp]; rfl
        rw [kvS_keys, List.getElem?_map, List.getElem?_eq_getElem hlt, ett] at h1
        exact (Option.some.inj h1).symm
      have htm : t ∈ ms := by rw [← ett]; exact List.getElem_mem hlt
      have tk : ms.take (i + 1) = ms.take i ++ [t] := by rw [List.take_succ_eq_append_getElem hlt, ett]
      have gv : valV (kvS ua ms) (Sum.inl t) = some (V.ref (ua t)) := by
        have : ∀ l : List Int, t ∈ l → valV (kvS ua l) (Sum.inl t) = some (V.ref (ua t)) := by
          intro l
          induction l with
          | nil => intro h; cases h
          | cons a r ih =>
            intro h
            by_cases ea : a = t
            · subst ea
              exact valV_pos rfl
            · rcases List.mem_cons.mp h with g | g
              · exact absurd g.symm ea
              · show valV ((Sum.inl a, V.ref (ua a)) :: kvS ua r) (Sum.inl t) = _
                rw [valV_neg (fun z => ea (by injection z))]
                exact ih g
        exact this ms htm
      have hz := s3 _ _ (hu2 t htm)
      have dg : DGet H3 st (.int t) (some (V.ref (ua t))) := .inl ⟨_, Sum.inl t, .inr ⟨oF, s3 _ _ zst⟩, rfl, gv.symm⟩
      rw [hpe]
      refine ⟨_, rfl, _, rfl, _, rfl, st, _, rfl, dg, ua t, _, 0, oV (tf t).1, rfl, rfl, SqT.of hz, rfl, _, rfl, _, rfl, st, _, rfl, dg, ua t, _, 1, oV (tf t).2, rfl, rfl, SqT.of hz, rfl, by show 3 ≤ sizeLine; decide, fun u hu' => ?_⟩
      subst e
      obtain ⟨p5, e5⟩ := pp.add hu' (some t, (tf t).1, (tf t).2)
      refine ⟨Same.upd hu' _ _ pp.hl, xs ++ [u], _, by rw [List.map_append]; rfl, by rw [List.length_append, List.length_singleton, l], fun c v g => ?_, p5, ?_⟩
      · rw [upd_ne (ne_of_none g hD)]
        exact Same.upd hu' _ _ (s3 c v g)
      · rw [e5, et, tk]
        unfold tsS
        rw [List.map_append]
        rfl
    · rw [lk, List.take_of_length_le (Nat.le_refl _)] at et
      exact k D xs tr ms H3 (s2.trans s3) (s2.free hD) pp (by rw [et]; exact hR) hro hsh (by rw [et]; exact hpa)
/-! ### round_paper -/
def spPaper (K : PySem.W.Frag) : Sp := fun vs H Q _ => ∃ (v r d b : Addr) (o : Obj) (ad : Int → Addr) (rs : List (Option Int)) (ks : Fs) (bs us : List Int), vs = [.ref v, .ref b] ∧ SqT K H v [.ref r, .ref d] ∧ Vw H r d o ad rs ks ∧ Rt rs ks ∧ Rt (rs ++ us.map some) ks ∧
  H b = some (.lst (bs.map V.int)) ∧ bs.length ≤ 20 ∧ us.Pairwise (· < ·) ∧ (∀ k, k ∈ us ↔ k ∈ bs) ∧
  ∀ (tp l g : Addr) (xs : List Addr) (tr : Addr → Tr) (ms gs : List Int) (H' : Hp), Same H H' → H l = none → H g = none → l ≠ g → H' tp = some (.tup [.ref l, .ref g]) → Pap H' l xs tr → Runs (rs ++ us.map some) ks [] (xs.map tr) ms → (∀ n, some n ∈ rs ++ us.map some → n ∈ ms) → Shut ks ms → H' g = some (.lst (gs.map V.int)) → Gn ks (xs.map tr) gs → xs.map tr = paperOf (rs ++ us.map some) ks → Q (.ref tp) H'
theorem ok_paper {f fR fL fW : Addr} {fd fdR fdL fdW : FuncData} (F : Fun K "round_paper" "round_paper" sPaper f fd) (GR : FnOk P w K mg base (CXE P w) 1 fR fdR ["view", "read"] (spRooted K)) (mR : mg "rooted_view" = some (.ref fR)) (kR : PySem.W.keepIn K (.ref fR) = true) (bR : Binds K fdR ["view", "read"] [])
    (GL : FnOk P w K mg base (CXE P w) 3 fL fdL ["view"] (spReach K)) (mL : mg "reach_paper" = some (.ref fL)) (kL : PySem.W.keepIn K (.ref fL) = true) (bL : Binds K fdL ["view"] [])
    (GW : FnOk P w K mg base (CXE P w) 1 fW fdW ["view", "triples"] (spWithout K)) (mW : mg "things_without" = some (.ref fW)) (kW : PySem.W.keepIn K (.ref fW) = true) (bW : Binds K fdW ["view", "triples"] []) : FnOk P w K mg base (CXE P w) 4 f fd ["view", "read"] (spPaper K) := by
  refine F.okE scPp (fun vs H Q E h => ?_) (fun cdv A outer s H vs Q E hr h => ?_)
  · obtain ⟨v, r, d, b, o, ad, rs, ks, bs, us, rfl, _⟩ := h
    rfl
  · obtain ⟨v, r, d, b, o, ad, rs, ks, bs, us, rfl, ht, hv, rt, rtw, hb, hbl, upw, umm, k⟩ := h
    have r1 := hr.mono (show 1 ≤ 3 by decide)
    refine ⟨_, PSs.nox (pss_cons (ps_set (i := 2) scPp.nd rfl (Or.inl rfl) (xe_call GR r1 rfl mR kR bR .nil passN (pa_cons (pv 0) (pa_cons (pv 1) pa_nil))))
      (pss_cons (ps_set (i := 3) scPp.nd rfl (Or.inl rfl) (xe_call GL hr rfl mL kL bL .nil passN (pa_cons (pv 2) pa_nil)))
      (pss_one (ps_ret (pe_tup (pa_cons (pv 3) (pa_cons (xe_call GW r1 rfl mW kW bW .nil passN (pa_cons (pv 0) (pa_cons (pv 3) pa_nil))) pa_nil))))))), ?_⟩
    refine ⟨_, rfl, _, rfl, v, r, d, b, rs, bs, rfl, ht, hv.hr, rt.rl, hb, hbl, fun v' r' us' H1 s1 hv1 hr1 pw1 mm1 => ?_⟩
    have eu : us' = us := rise_one pw1 upw fun k => (mm1 k).trans (umm k).symm
    subst eu
    refine ⟨_, rfl, v', r', d, o, ad, rs ++ us'.map some, ks, rfl, SqT.of hv1, ⟨hr1, (hv.same s1).hd, (hv.same s1).hl⟩, rtw, fun l xs tr ms H2 s2 hl pap hR hro hsh hpa => ?_⟩
    have s2' := s1.trans s2
    have ml := runs_small rtw hR
    have xl : xs.length ≤ 12 := by have := runs_len hR; rw [List.length_map] at this; omega
    refine ⟨_, rfl, _, rfl, _, rfl, v, r, d, l, o, ad, rs, ks, xs, tr, rfl, sqT_same ht s2', hv.same s2', rt, pap, by omega, fun x hx => ?_, fun g gs H3 s3 hg zg hG => ⟨by show 2 ≤ sizeLine; decide, fun tp htp => ?_⟩⟩
    · have hth := things_are hR
      have h1 : oV (tr x).1 ∈ ms.map V.int := by rw [← hth]; exact List.mem_map.mpr ⟨x, hx, rfl⟩
      obtain ⟨n, _, e⟩ := List.mem_map.mp h1
      cases ht1 : (tr x).1 with
      | none => rw [ht1] at e; exact nomatch (show V.int n = V.non from e)
      | some n => exact ⟨n, rfl⟩
    · have st := Same.upd (o := .tup [V.ref l, V.ref g]) htp
      exact k tp l g xs tr ms gs _ ((s2'.trans s3).trans st) (s1.free hl) (s2'.free hg) (fun z => by rw [← z, pap.hl] at hg; cases hg) upd_same ((pap.same s3).same st) hR hro hsh (st _ _ zg) hG hpa
end
end K70
end
section
set_option Elab.async false
set_option linter.all false
set_option maxRecDepth 100000
set_option maxHeartbeats 4000000
set_option exponentiation.threshold 4000
namespace K70
open PySem L2 LX
section
variable {P : Program} {w : World} {K : PySem.W.Frag} {mg : Str → Option Value} {base : Heap}
def exA : Stmt → Option Expr
  | .Expr e _ => some e
  | _ => none
def inWh : Stmt → Nat → Stmt
  | .While _ b _ _, i => b.getD i (.Pass ⟨0, 0, 0, 0⟩)
  | s, _ => s
def inIf : Stmt → Nat → Stmt
  | .If _ b _ _, i => b.getD i (.Pass ⟨0, 0, 0, 0⟩)
  | s, _ => s
/-- _law_reached -/
def spReached (K : PySem.W.Frag) : Sp := fun vs H Q _ => ∃ (r d : Addr) (o : Obj) (ad : Int → Addr) (rs : List (Option Int)) (ks : Fs), vs = [.ref r, .ref d] ∧ Vw H r d o ad rs ks ∧ Rt rs ks ∧
  ∀ (q : Addr) (us : List Int) (H' : Hp), Same H H' → H q = none → H' q = some (.lst (us.map V.int)) → us.Pairwise (· < ·) → us.length ≤ 12 → (∀ k, k ∈ us ↔ Rch ks (rs.filterMap id) k) → Q (.ref q) H'
abbrev NRe : List Str := ["roots", "fields", "line", "met", "t"]
theorem scRh : FnScope NRe ["roots", "fields"] (defScope sReached) := ⟨rfl, rfl, rfl, by decide +kernel, rfl, by decide +kernel, by decide +kernel⟩
abbrev scpH1 : Scope := scopeOf (cmp? ((defBody sReached).getD 0 (.Pass ⟨0, 0, 0, 0⟩)))
abbrev scpH2 : Scope := scopeOf (arg0? (exA (inIf (inWh ((defBody sReached).getD 2 (.Pass ⟨0, 0, 0, 0⟩)) 1) 1)))
theorem cH1 : CompP (defScope sReached) scpH1 "t" [] NRe [] := by decide +kernel
theorem cH2 : CompP (defScope sReached) scpH2 "other" [] NRe [] := by decide +kernel
/-- what the while keeps -/
def WH (H : Hp) (r d lf mt : Addr) (rs : List (Option Int)) (ks : Fs) (m : Nat) (σ : St) (H4 : Hp) : Prop := ∃ (v4 : Option V) (ls ms : List Int) (kvs : List (Key × V)), m = 7 * (13 - ms.length) + ls.length ∧ σ = [some (.ref r), some (.ref d), some (.ref lf), some (.ref mt), v4] ∧ Same H H4 ∧ H4 lf = some (.lst (ls.map V.int)) ∧ H4 mt = some (.dK kvs) ∧ kvs.map (·.1) = ms.map Sum.inl ∧ ms.Nodup ∧
  (∀ t ∈ ms, Rch ks (rs.filterMap id) t) ∧ (∀ t ∈ ls, Rch ks (rs.filterMap id) t) ∧ (∀ n ∈ rs.filterMap id, n ∈ ms ∨ n ∈ ls) ∧ (∀ t ∈ ms, ∀ n, some n ∈ fsOf ks t → n ∈ ms ∨ n ∈ ls) ∧ ls.length ≤ 20 + 6 * ms.length
theorem ok_reached {f : Addr} {fd : FuncData} (F : Fun K "_law_reached" "_law_reached" sReached f fd) (zn : mg "len" = none) (zs : mg "sorted" = none) : FnOk P w K mg base (CXE P w) 1 f fd ["roots", "fields"] (spReached K) := by
  refine F.okE scRh (fun vs H Q E h => ?_) (fun cdv A outer s H vs Q E hr h => ?_)
  · obtain ⟨r, d, o, ad, rs, ks, rfl, _⟩ := h
    rfl
  · obtain ⟨r, d, o, ad, rs, ks, rfl, hv, rt, k⟩ := h
    have hu := hu_of hr
    have co1 : CompOk (cxE P w K mg base NRe "_law_reached" (defScope sReached) f cdv A outer s H E).nox scpH1 [] "t" [] ["t"] := comp_ok rfl rfl rfl cH1 rfl rfl (by intro q hq; cases hq)
    have co2 : CompOk (cxE P w K mg base NRe "_law_reached" (defScope sReached) f cdv A outer s H E).nox scpH2 [] "other" [] ["other"] := comp_ok rfl rfl rfl cH2 rfl rfl (by intro q hq; cases hq)
    refine ⟨_, PSs.nox (pss_cons (ps_compU (i := 2) scRh.nd rfl rfl co1 rfl (pi_list (pv 0)) (fun C fp s₀ H₀ => pt_cmpR op_notN (pv 0) pe_non (nomark _)) (fun C fp s₀ H₀ => pv 0))
      (pss_cons (ps_set (i := 3) scRh.nd rfl (Or.inl rfl) pe_dnewK)
      (pss_cons (ps_while PassesOwn.never (pt_cmpR op_gt (pe_callB call_len_seq rfl zn PyProof.Rows.Boot.«len» (pa_cons (pv 2) pa_nil)) pe_int (nomark _))
        (pss_cons (ps_set (i := 4) scRh.nd rfl (Or.inl rfl) (pe_bm0 PySem.F.plainAttrs_list PySem.F.slot_list_pop PySem.F.type_list_pop mt_pop (pv 2)))
        (pss_one (ps_if (pt_cmp (pc_dnotin hu (pv 4) (pv 3)) (by with_unfolding_all rfl))
          (pss_cons (ps_dput hu (pv 3) (pv 4) pe_bl rfl)
          (pss_one (ps_expr (pe_bm PySem.F.plainAttrs_list PySem.F.slot_list_extend PySem.F.type_list_extend mt_extend (pv 2) (pa_cons (pe_compU co2 rfl (pi_list (pe_dget hu (pv 1) (pv 4) (fun _ _ => rfl))) (fun C fp s₀ H₀ => pt_cmpR op_notN (pv 0) pe_non (nomark _)) (fun C fp s₀ H₀ => pv 0)) pa_nil))))) pss_nil))))
      (pss_one (ps_ret (pe_callB (call_sortedR rfl) rfl zs PyProof.Rows.Boot.«sorted» (pa_cons (pv 3) pa_nil))))))), ?_⟩
    have rl := rt.rl
    have rin : ∀ n ∈ rs.filterMap id, n ∈ keys ks := fun n hn => rt.ri n (mem_roots.mp hn)
    have rl9 : (rs.filterMap id).length ≤ 20 := Nat.le_trans (List.length_filterMap_le _ _) rl
    refine ⟨_, rfl, r, rfl, ⟨_, SqL.of hv.hr⟩, fun lf hlf => ?_⟩
    refine compT_list (K := K) (a := r) (xs := rs.map oV) (fun m ys H3 => ys = ((rs.take m).filterMap id).map V.int ∧ Same H H3 ∧ H3 lf = some (.lst ys)) ⟨rfl, Same.upd hlf, upd_same⟩ (fun m ys H3 hm ⟨e, _, z⟩ => ⟨z, ?_⟩)
      (fun m ys H3 _ ⟨_, s3, _⟩ => SqL.of (s3 _ _ hv.hr)) (Nat.le_trans (by rw [List.length_map]; exact rl) (by decide)) (fun m x ys H3 hx ⟨e, s3, z⟩ => ?_) (fun ys H3 ⟨e, s3, z3⟩ => ?_)
    · rw [e, List.length_map]
      exact Nat.le_trans (List.length_filterMap_le _ _) (by rw [List.length_take]; omega)
    · have hlm : m < rs.length := by have := (List.getElem?_eq_some_iff.mp hx).1; rwa [List.length_map] at this
      have tm : rs.take (m + 1) = rs.take m ++ [rs[m]] := List.take_succ_eq_append_getElem hlm
      have hxe : x = oV rs[m] := by
        rw [List.getElem?_map, List.getElem?_eq_getElem hlm] at hx
        exact (Option.some.inj hx).symm
      subst hxe
      cases hc : rs[m] with
      | none =>
        refine ⟨_, rfl, rfl, _, rfl, iteF ⟨?_, s3, z⟩⟩
        rw [tm, hc, List.filterMap_append, e]
        simp
      | some n =>
        refine ⟨_, rfl, rfl, _, rfl, iteT ⟨_, rfl, z, ?_, fun b u q => by rw [upd_ne (ne_of_none q hlf)]; exact s3 b u q, upd_same⟩⟩
        rw [tm, hc, List.filterMap_append, List.map_append, e]
        rfl
    · rw [List.length_map, List.take_of_length_le (Nat.le_refl _)] at e
      subst e
      refine fun mt hmt => ?_
      have s4 := Same.upd (o := .dK []) hmt
      have hmt0 : H mt = none := s3.free hmt
      refine ⟨WH H r d lf mt rs ks, ⟨_, none, rs.filterMap id, [], [], rfl, rfl, s3.trans s4, s4 _ _ z3, upd_same, rfl, List.nodup_nil, (fun t h => nomatch h), fun t h => .base h, fun n h => .inr h, (fun t h => nomatch h), by rw [List.length_nil]; omega⟩, ?_⟩
      clear s4 z3 s3 hmt
      rintro m σ H4 ⟨v4, ls, ms, kvs, rfl, rfl, s4, zl, zm, hk, nd, hm, hl, hro, hcl, ll⟩
      have kk : (keys ks).length = ks.length := List.length_map _
      have kl := rt.kl
      have mk : ∀ t ∈ ms, t ∈ keys ks := fun t h => rch_keys rt rin (hm t h)
      have ml := nodup_len nd mk
      have lk : kvs.length = ms.length := by
        have := congrArg List.length hk
        simpa using this
      refine ⟨_, rfl, lf, _, rfl, .inl (SqL.of zl), _, 0, rfl, rfl, _, rfl, ite2 (fun h => ?_) (fun h => ?_)⟩
      · have h0 : 0 < ls.length := by
          have h1 : (0 : Int) < ((ls.map V.int).length : Int) := by simpa using h
          rw [List.length_map] at h1
          omega
        refine ⟨fun σ' H' => ∃ m', m' < 7 * (13 - ms.length) + ls.length ∧ WH H r d lf mt rs ks m' σ' H', fun _ _ h => h, ?_⟩
        rcases List.eq_nil_or_concat ls with e | ⟨l0, t, e⟩
        · rw [e] at h0; cases h0
        rw [List.concat_eq_append] at e
        subst e
        rw [List.length_append, List.length_singleton] at ll
        have e1 : ((l0 ++ [t]).map V.int).dropLast = l0.map V.int := by rw [List.map_append]; simp
        refine ⟨_, rfl, .inl ⟨rfl, _, SqL.of zl⟩, lf, _, .int t, rfl, rfl, zl, ?_, ?_⟩
        · rw [List.map_append, List.length_append]
          simp
        rw [e1]
        have zl5 : upd H4 lf (.lst (l0.map V.int)) lf = some (.lst (l0.map V.int)) := upd_same
        have zm5 : upd H4 lf (.lst (l0.map V.int)) mt = some (.dK kvs) := (upd_ne (ne_of zm zl (by intro z; cases z))).trans zm
        have s5 : Same H (upd H4 lf (.lst (l0.map V.int))) := fun a u g => by rw [upd_ne (ne_of_none g hlf)]; exact s4 a u g
        obtain ⟨H5, e5⟩ : ∃ H5, upd H4 lf (.lst (l0.map V.int)) = H5 := ⟨_, rfl⟩
        rw [e5] at zl5 zm5 s5 ⊢
        have ht := hl t (List.mem_append_right _ (List.mem_singleton.mpr rfl))
        have hin := rch_keys rt rin ht
        refine ⟨_, rfl, _, rfl, mt, _, rfl, DGet.k (k := Sum.inl t) zm5, _, rfl, ?_⟩
        rw [val_some hk]
        by_cases hin2 : t ∈ ms
        · rw [decide_eq_true hin2]
          refine iteF ⟨7 * (13 - ms.length) + l0.length, by rw [List.length_append, List.length_singleton]; omega, _, l0, ms, kvs, rfl, rfl, s5, zl5, zm5, hk, nd, hm, fun c hc => hl c (List.mem_append_left _ hc), fun n hn => ?_, fun c hc n hn => ?_, by omega⟩
          · rcases hro n hn with g | g
            · exact .inl g
            · rcases List.mem_append.mp g with g | g
              · exact .inr g
              · rw [List.mem_singleton.mp g]; exact .inl hin2
          · rcases hcl c hc n hn with g | g
            · exact .inl g
            · rcases List.mem_append.mp g with g | g
              · exact .inr g
              · rw [List.mem_singleton.mp g]; exact .inl hin2
        · rw [decide_eq_false hin2]
          have vn : valV kvs (Sum.inl t) = none := by
            have := val_some hk t
            rw [decide_eq_false hin2] at this
            simpa using this
          have nd' : (ms ++ [t]).Nodup := by
            rw [List.nodup_append]
            refine ⟨nd, by simp, fun c hc b hb => ?_⟩
            rw [List.mem_singleton.mp hb]
            exact fun z => hin2 (by rw [← z]; exact hc)
          have mk' : ∀ c ∈ ms ++ [t], c ∈ keys ks := fun c h => by
            rcases List.mem_append.mp h with g | g
            · exact mk c g
            · rw [List.mem_singleton.mp g]; exact hin
          have ml' := nodup_len nd' mk'
          rw [List.length_append, List.length_singleton] at ml'
          refine iteT ⟨_, rfl, _, rfl, mt, _, rfl, DPut.k (k := Sum.inl t) zm5 (Nat.lt_of_le_of_lt (show kvs.length ≤ 12 by omega) (by decide)), ?_⟩
          rw [putK_new _ vn]
          have zl6 : upd H5 mt (.dK (kvs ++ [(Sum.inl t, V.bl true)])) lf = some (.lst (l0.map V.int)) := (upd_ne (ne_of zl5 zm5 (by intro z; cases z))).trans zl5
          have s6 : Same H (upd H5 mt (.dK (kvs ++ [(Sum.inl t, V.bl true)]))) := fun a u g => by rw [upd_ne (ne_of_none g hmt0)]; exact s5 a u g
          have zm6 : upd H5 mt (.dK (kvs ++ [(Sum.inl t, V.bl true)])) mt = some (.dK (kvs ++ [(Sum.inl t, V.bl true)])) := upd_same
          obtain ⟨H6, e6⟩ : ∃ H6, upd H5 mt (.dK (kvs ++ [(Sum.inl t, V.bl true)])) = H6 := ⟨_, rfl⟩
          rw [e6] at zl6 s6 zm6 ⊢
          have v6 := hv.same s6
          obtain ⟨f1, f2, f3⟩ := fs_at v6 rt hin
          refine ⟨_, rfl, .inl ⟨rfl, _, SqL.of zl6⟩, _, rfl, _, rfl, d, _, rfl, dget_in v6.hd hin, ad t, rfl, ⟨_, SqL.of f1⟩, fun D hD => ?_⟩
          refine compT_list (K := K) (a := ad t) (xs := (fsOf ks t).map oV) (fun m ys H7 => ys = (((fsOf ks t).take m).filterMap id).map V.int ∧ Same H6 H7 ∧ H7 D = some (.lst ys)) ⟨rfl, Same.upd hD, upd_same⟩ (fun m ys H7 hm ⟨e, _, z⟩ => ⟨z, ?_⟩)
            (fun m ys H7 _ ⟨_, s7, _⟩ => SqL.of (s7 _ _ f1)) (Nat.le_trans (by rw [List.length_map]; exact f2) (by decide)) (fun m x ys H7 hx ⟨e, s7, z⟩ => ?_) (fun ys H7 ⟨e, s7, z⟩ => ?_)
          · rw [e, List.length_map]
            exact Nat.le_trans (List.length_filterMap_le _ _) (by rw [List.length_take]; omega)
          · have hlm : m < (fsOf ks t).length := by have := (List.getElem?_eq_some_iff.mp hx).1; rwa [List.length_map] at this
            have tm : (fsOf ks t).take (m + 1) = (fsOf ks t).take m ++ [(fsOf ks t)[m]] := List.take_succ_eq_append_getElem hlm
            have hxe : x = oV (fsOf ks t)[m] := by
              rw [List.getElem?_map, List.getElem?_eq_getElem hlm] at hx
              exact (Option.some.inj hx).symm
            subst hxe
            cases hc : (fsOf ks t)[m] with
            | none =>
              refine ⟨_, rfl, rfl, _, rfl, iteF ⟨?_, s7, z⟩⟩
              rw [tm, hc, List.filterMap_append, e]
              simp
            | some n =>
              refine ⟨_, rfl, rfl, _, rfl, iteT ⟨_, rfl, z, ?_, fun b u q => by rw [upd_ne (ne_of_none q hD)]; exact s7 b u q, upd_same⟩⟩
              rw [tm, hc, List.filterMap_append, List.map_append, e]
              rfl
          · rw [List.length_map, List.take_of_length_le (Nat.le_refl _)] at e
            subst e
            have fl := List.length_filterMap_le id (fsOf ks t)
            have zl7 := s7 _ _ zl6
            refine ⟨lf, D, _, _, rfl, rfl, zl7, z, Nat.le_trans (show (l0.map V.int).length + (((fsOf ks t).filterMap id).map V.int).length ≤ 200 by rw [List.length_map, List.length_map]; omega) (by decide), ?_⟩
            have fm : ∀ n, n ∈ (fsOf ks t).filterMap id ↔ some n ∈ fsOf ks t := fun n => mem_roots
            refine ⟨7 * (13 - (ms ++ [t]).length) + (l0 ++ (fsOf ks t).filterMap id).length, by simp only [List.length_append, List.length_singleton]; omega, _, l0 ++ (fsOf ks t).filterMap id, ms ++ [t], kvs ++ [(Sum.inl t, V.bl true)], rfl, rfl, fun a u g => by rw [upd_ne (ne_of_none g hlf)]; exact s7 _ _ (s6 a u g), by rw [upd_same, List.map_append], ?_, by rw [List.map_append, hk, List.map_append]; rfl, nd', fun c hc => ?_, fun c hc => ?_, fun n hn => ?_, fun c hc n hn => ?_, by rw [List.length_append, List.length_append, List.length_singleton]; omega⟩
            · rw [upd_ne (ne_of (s7 _ _ zm6) zl7 (by intro z; cases z))]
              exact s7 _ _ zm6
            · rcases List.mem_append.mp hc with g | g
              · exact hm c g
              · rw [List.mem_singleton.mp g]; exact ht
            · rcases List.mem_append.mp hc with g | g
              · exact hl c (List.mem_append_left _ g)
              · exact .step ht ((fm c).mp g)
            · rcases hro n hn with g | g
              · exact .inl (List.mem_append_left _ g)
              · rcases List.mem_append.mp g with g | g
                · exact .inr (List.mem_append_left _ g)
                · exact .inl (List.mem_append_right _ g)
            · rcases List.mem_append.mp hc with hc | hc
              · rcases hcl c hc n hn with g | g
                · exact .inl (List.mem_append_left _ g)
                · rcases List.mem_append.mp g with g | g
                  · exact .inr (List.mem_append_left _ g)
                  · exact .inl (List.mem_append_right _ g)
              · rw [List.mem_singleton.mp hc] at hn
                exact .inr (List.mem_append_right _ ((fm n).mpr hn))
      · have h0 : ls = [] := by
          have h1 : ¬ (0 : Int) < ((ls.map V.int).length : Int) := by simpa using h
          rw [List.length_map] at h1
          exact List.length_eq_zero_iff.mp (by omega)
        subst h0
        have hsh : Shut ks ms := fun t ht n hn => (hcl t ht n hn).resolve_right (fun g => nomatch g)
        refine ⟨_, rfl, mt, kvs, ms, rfl, .inl zm, hk, by omega, fun q us hq pm pw => ?_⟩
        exact k q us _ (s4.trans (Same.upd hq)) (s4.free hq) upd_same (rise_of nd pm pw) (by rw [pm.length_eq]; omega) fun c => pm.mem_iff.trans ⟨hm c, fun hc => rch_all (fun n hn => (hro n hn).resolve_right (fun g => nomatch g)) hsh hc⟩
/-- _law_steps_right -/
def spRight (K : PySem.W.Frag) : Sp := fun vs H Q _ => ∃ (r d l : Addr) (o : Obj) (ad : Int → Addr) (rs : List (Option Int)) (ks : Fs) (xs : List Addr) (tr : Addr → Tr) (m : List Int), vs = [.ref r, .ref d, .ref l] ∧ Vw H r d o ad rs ks ∧ Rt rs ks ∧ Pap H l xs tr ∧ Runs rs ks [] (xs.map tr) m ∧ ∀ H', Same H H' → Q (.bl true) H'
abbrev NR : List Str := ["roots", "fields", "triples", "ahead", "triple", "told"]
theorem scRi : FnScope NR ["roots", "fields", "triples"] (defScope sRight) := ⟨rfl, rfl, rfl, by decide +kernel, rfl, by decide +kernel, by decide +kernel⟩
theorem ok_right {f : Addr} {fd : FuncData} (F : Fun K "_law_steps_right" "_law_steps_right" sRight f fd) (zi : mg "isinstance" = none) (zt : mg "tuple" = none) (zn : mg "len" = none) (zI : mg "int" = none) (zb : mg "bool" = none) : FnOk P w K mg base (CXE P w) 1 f fd ["roots", "fields", "triples"] (spRight K) := by
  refine F.okE scRi (fun vs H Q E h => ?_) (fun cdv A outer s H vs Q E hr h => ?_)
  · obtain ⟨r, d, l, o, ad, rs, ks, xs, tr, m, rfl, _⟩ := h
    rfl
  · obtain ⟨r, d, l, o, ad, rs, ks, xs, tr, mF, rfl, hv, rt, pap, hRF, k⟩ := h
    have hu := hu_of hr
    refine ⟨_, PSs.nox (pss_cons (ps_set (i := 3) scRi.nd rfl (Or.inl rfl) pe_dnewK)
      (pss_cons (ps_for PassesOwn.never rfl (pi_list (pv 2)) (pg_name (i := 4) scRi.nd rfl (Or.inl rfl))
        (pss_cons (ps_if (PW.pt (pw_or (pt_not (pt_val (pe_callB call_isiT rfl zi PyProof.Rows.Boot.«isinstance» (pa_cons (pv 4) (pa_cons (pe_ty rfl zt PyProof.Rows.Boot.«tuple») pa_nil))))) (pw_or (pt_cmpR op_ne (pe_callB call_len_seq rfl zn PyProof.Rows.Boot.«len» (pa_cons (pv 4) pa_nil)) pe_int (nomark _)) (pw_or1 (pt_cmp (pc_din hu (pe_ix ix_tup (pv 4) pe_int (fun _ _ => rfl)) (pv 3)) (by with_unfolding_all rfl)))))) (pss_one (ps_ret pe_bl)) pss_nil)
        (pss_cons (ps_set (i := 5) scRi.nd rfl (Or.inl rfl) (pv 0))
        (pss_cons (ps_if (pt_cmpR op_notN (pe_ix ix_tup (pv 4) pe_int (fun _ _ => rfl)) pe_non (nomark _)) (pss_cons (ps_if (pt_cmp (pc_dnotin hu (pe_ix ix_tup (pv 4) pe_int (fun _ _ => rfl)) (pv 3)) (by with_unfolding_all rfl)) (pss_one (ps_ret pe_bl)) pss_nil) (pss_one (ps_set (i := 5) scRi.nd rfl (Or.inl rfl) (pe_dget hu (pv 1) (pe_ix ix_tup (pv 4) pe_int (fun _ _ => rfl)) (fun _ _ => rfl))))) pss_nil)
        (pss_cons (ps_if (PW.pt (pw_or (pt_not (pt_val (pe_callB call_isiT rfl zi PyProof.Rows.Boot.«isinstance» (pa_cons (pe_ix ix_tup (pv 4) pe_int (fun _ _ => rfl)) (pa_cons (pe_ty rfl zI PyProof.Rows.Boot.«int») pa_nil))))) (pw_or (pt_val (pe_callB call_isiT rfl zi PyProof.Rows.Boot.«isinstance» (pa_cons (pe_ix ix_tup (pv 4) pe_int (fun _ _ => rfl)) (pa_cons (pe_ty rfl zb PyProof.Rows.Boot.«bool») pa_nil)))) (pw_or1 (pt_not (pt_chain op_le op_lt pe_int (pe_ix ix_tup (pv 4) pe_int (fun _ _ => rfl)) (pe_callB call_len_seq rfl zn PyProof.Rows.Boot.«len» (pa_cons (pv 5) pa_nil)))))))) (pss_one (ps_ret pe_bl)) pss_nil)
        (pss_cons (ps_if (PW.pt (pw_or (pt_cmpR op_isN (pe_ix ix_tup (pv 4) pe_int (fun _ _ => rfl)) pe_non (nomark _)) (pw_or1 (pt_cmpR op_ne (pe_ix ix_list (pv 5) (pe_ix ix_tup (pv 4) pe_int (fun _ _ => rfl)) (fun _ _ => rfl)) (pe_ix ix_tup (pv 4) pe_int (fun _ _ => rfl)) (nomark _))))) (pss_one (ps_ret pe_bl)) pss_nil)
        (pss_one (ps_dput hu (pv 3) (pe_ix ix_tup (pv 4) pe_int (fun _ _ => rfl)) pe_bl rfl))))))))
      (pss_one (ps_ret pe_bl)))), ?_⟩
    refine fun a ha => ?_
    have s0 : Same H (upd H a (.dK [])) := Same.upd ha
    refine ⟨_, rfl, l, rfl, ⟨_, SqL.of (s0 _ _ pap.hl)⟩, for_list (K := K) (a := l) (xs := xs.map V.ref) (fun i σ H2 => ∃ (v4 v5 : Option V) (kvs : List (Key × V)) (met : List Int), σ = [some (.ref r), some (.ref d), some (.ref l), some (.ref a), v4, v5] ∧ Same H H2 ∧ H2 a = some (.dK kvs) ∧ kvs.map (·.1) = met.map Sum.inl ∧ Runs rs ks [] ((xs.take i).map tr) met)
      ⟨none, none, [], [], rfl, s0, upd_same, rfl, .nil⟩ (fun i σ H2 _ ⟨_, _, _, _, _, s2, _⟩ => SqL.of (s2 _ _ pap.hl)) ?_ ?_⟩
    · rintro i y σ H2 hy ⟨v4, v5, kvs, met, rfl, s2, zm, hk, hR⟩
      have hlt : i < xs.length := by have := (List.getElem?_eq_some_iff.mp hy).1; rwa [List.length_map] at this
      have tk : xs.take (i + 1) = xs.take i ++ [xs[i]] := List.take_succ_eq_append_getElem hlt
      have hxe : y = .ref xs[i] := by
        rw [List.getElem?_map, List.getElem?_eq_getElem hlt] at hy
        exact (Option.some.inj hy).symm
      subst hxe
      have ml := runs_small rt hR
      have lk : kvs.length = met.length := by
        have := congrArg List.length hk
        simpa using this
      have mk := runs_keys rt (a := []) (fun x h => nomatch h) hR
      have v2 := hv.same s2
      obtain ⟨n, hso⟩ : ∃ n, StepOk rs ks met (tr xs[i]) n := by
        have e : xs.map tr = (xs.take i).map tr ++ tr xs[i] :: (xs.drop (i + 1)).map tr := by
          rw [← List.map_cons, ← List.drop_eq_getElem_cons hlt, ← List.map_append, List.take_append_drop]
        have hr' := hRF
        rw [e] at hr'
        obtain ⟨m2, h1, h2⟩ := runs_split hr'
        rw [runs_det h1 hR] at h2
        cases h2 with
        | cons s _ => exact ⟨_, s⟩
      have hx := s2 _ _ (pap.hx _ (List.getElem_mem hlt))
      obtain ⟨x, ex⟩ : ∃ x, xs[i] = x := ⟨_, rfl⟩
      rw [ex] at hx hso tk ⊢
      obtain ⟨⟨th, si, pl⟩, etr⟩ : ∃ t, tr x = t := ⟨_, rfl⟩
      have hso' := hso
      rw [etr] at hx hso'
      obtain ⟨h1, nu, hfrom⟩ := hso'
      have h1 : th = some n := h1
      subst h1
      obtain ⟨m, hpl⟩ : ∃ m : Nat, pl = some (m : Int) := by
        cases si with
        | none => obtain ⟨p, e, _⟩ := hfrom; exact ⟨p, e⟩
        | some og => obtain ⟨_, p, e, _⟩ := hfrom; exact ⟨p, e⟩
      subst hpl
      have vn : valV kvs (Sum.inl n) = none := by
        have := val_some hk n
        rw [decide_eq_false nu] at this
        simpa using this
      refine ⟨_, rfl, .ref x, .ty "tuple", .type "tuple", true, rfl, .of (.tup hx), ⟨_, rfl⟩, rfl, _, rfl, iteF ?_⟩
      refine ⟨_, rfl, x, _, rfl, .inr (SqT.of hx), rfl, _, rfl, ite2 (fun h => absurd h (by simp [trV])) (fun _ => ?_)⟩
      refine ⟨_, rfl, x, _, 0, oV (some n), rfl, rfl, SqT.of hx, rfl, _, rfl, a, _, rfl, DGet.k (k := Sum.inl n) zm, _, rfl, ?_⟩
      rw [vn]
      refine iteF ?_
      refine ⟨_, rfl, ?_⟩
      cases si with
      | none =>
        obtain ⟨p, ep, hat⟩ := hfrom
        have ep : m = p := by injection ep with ep; omega
        subst ep
        have hml : m < rs.length := (List.getElem?_eq_some_iff.mp hat).1
        refine ⟨_, rfl, x, _, 1, oV none, rfl, rfl, SqT.of hx, rfl, rfl, _, rfl, iteF ?_⟩
        refine ⟨_, rfl, x, _, 2, oV (some (m : Int)), rfl, rfl, SqT.of hx, rfl, .int (m : Int), .ty "int", .type "int", true, rfl, .of (.int _), ⟨_, rfl⟩, rfl, _, rfl, iteF ?_⟩
        refine ⟨_, rfl, x, _, 2, oV (some (m : Int)), rfl, rfl, SqT.of hx, rfl, .int (m : Int), .ty "bool", .type "int", false, rfl, .of (.int _), ⟨_, rfl⟩, rfl, _, rfl, iteF ?_⟩
        refine ⟨_, rfl, x, _, 2, oV (some (m : Int)), rfl, rfl, SqT.of hx, rfl, 0, (m : Int), rfl, rfl, _, rfl, ite2 (fun _ => ?_) (fun h0 => ?_)⟩
        · refine ⟨_, rfl, r, _, rfl, .inl (SqL.of v2.hr), _, _, rfl, rfl, _, rfl, ite2 (fun h1 => ?_) (fun _ => ?_)⟩
          · have h2 : ¬ (m : Int) < (((rs).map oV).length : Int) := by simpa using h1
            rw [List.length_map] at h2
            omega
          · refine ⟨_, rfl, x, _, 0, oV (some n), rfl, rfl, SqT.of hx, rfl, rfl, _, rfl, iteF ?_⟩
            refine ⟨_, rfl, _, rfl, x, _, 2, oV (some (m : Int)), rfl, rfl, SqT.of hx, rfl, r, _, _, oV (some n), rfl, rfl, SqL.of v2.hr, atI_nat (by rw [List.getElem?_map, hat]; rfl), _, rfl, x, _, 0, oV (some n), rfl, rfl, SqT.of hx, rfl, rfl, _, rfl, ite2 (fun h2 => absurd h2 (by simp)) (fun _ => ?_)⟩
            refine ⟨_, rfl, _, rfl, x, _, 0, oV (some n), rfl, rfl, SqT.of hx, rfl, a, _, rfl, DPut.k (k := Sum.inl n) zm (Nat.lt_of_le_of_lt (show kvs.length ≤ 12 by omega) (by decide)), ?_⟩
            rw [putK_new _ vn]
            refine ⟨_, _, kvs ++ [(Sum.inl n, V.bl true)], met ++ [n], rfl, fun c u g => by rw [upd_ne (ne_of_none g ha)]; exact s2 c u g, upd_same, by rw [List.map_append, hk, List.map_append]; rfl, ?_⟩
            rw [tk, List.map_append, List.map_singleton]
            exact runs_snoc hR hso
        · have h0 : ¬ (0 : Int) ≤ (m : Int) := by simpa using h0
          omega
      | some og =>
        obtain ⟨ho, p, ep, hat⟩ := hfrom
        have ep : m = p := by injection ep with ep; omega
        subst ep
        have hml : m < (fsOf ks og).length := (List.getElem?_eq_some_iff.mp hat).1
        obtain ⟨f1, f2, f3⟩ := fs_at v2 rt (mk og ho)
        refine ⟨_, rfl, x, _, 1, oV (some og), rfl, rfl, SqT.of hx, rfl, rfl, _, rfl, iteT ?_⟩
        refine ⟨_, rfl, x, _, 1, oV (some og), rfl, rfl, SqT.of hx, rfl, _, rfl, a, _, rfl, DGet.k (k := Sum.inl og) zm, _, rfl, ?_⟩
        rw [val_some hk, decide_eq_true ho]
        refine iteF ?_
        refine ⟨_, rfl, _, rfl, x, _, 1, oV (some og), rfl, rfl, SqT.of hx, rfl, d, _, rfl, dget_in v2.hd (mk og ho), ?_⟩
        refine ⟨_, rfl, x, _, 2, oV (some (m : Int)), rfl, rfl, SqT.of hx, rfl, .int (m : Int), .ty "int", .type "int", true, rfl, .of (.int _), ⟨_, rfl⟩, rfl, _, rfl, iteF ?_⟩
        refine ⟨_, rfl, x, _, 2, oV (some (m : Int)), rfl, rfl, SqT.of hx, rfl, .int (m : Int), .ty "bool", .type "int", false, rfl, .of (.int _), ⟨_, rfl⟩, rfl, _, rfl, iteF ?_⟩
        refine ⟨_, rfl, x, _, 2, oV (some (m : Int)), rfl, rfl, SqT.of hx, rfl, 0, (m : Int), rfl, rfl, _, rfl, ite2 (fun _ => ?_) (fun h0 => ?_)⟩
        · refine ⟨_, rfl, (ad og), _, rfl, .inl (SqL.of f1), _, _, rfl, rfl, _, rfl, ite2 (fun h1 => ?_) (fun _ => ?_)⟩
          · have h2 : ¬ (m : Int) < ((((fsOf ks og)).map oV).length : Int) := by simpa using h1
            rw [List.length_map] at h2
            omega
          · refine ⟨_, rfl, x, _, 0, oV (some n), rfl, rfl, SqT.of hx, rfl, rfl, _, rfl, iteF ?_⟩
            refine ⟨_, rfl, _, rfl, x, _, 2, oV (some (m : Int)), rfl, rfl, SqT.of hx, rfl, (ad og), _, _, oV (some n), rfl, rfl, SqL.of f1, atI_nat (by rw [List.getElem?_map, hat]; rfl), _, rfl, x, _, 0, oV (some n), rfl, rfl, SqT.of hx, rfl, rfl, _, rfl, ite2 (fun h2 => absurd h2 (by simp)) (fun _ => ?_)⟩
            refine ⟨_, rfl, _, rfl, x, _, 0, oV (some n), rfl, rfl, SqT.of hx, rfl, a, _, rfl, DPut.k (k := Sum.inl n) zm (Nat.lt_of_le_of_lt (show kvs.length ≤ 12 by omega) (by decide)), ?_⟩
            rw [putK_new _ vn]
            refine ⟨_, _, kvs ++ [(Sum.inl n, V.bl true)], met ++ [n], rfl, fun c u g => by rw [upd_ne (ne_of_none g ha)]; exact s2 c u g, upd_same, by rw [List.map_append, hk, List.map_append]; rfl, ?_⟩
            rw [tk, List.map_append, List.map_singleton]
            exact runs_snoc hR hso
        · have h0 : ¬ (0 : Int) ≤ (m : Int) := by simpa using h0
          omega
    · rintro σ H2 ⟨v4, v5, kvs, met, rfl, s2, zm, hk, hR⟩
      exact k H2 s2
end
end K70
end
section
set_option Elab.async false
set_option linter.all false
set_option maxRecDepth 100000
set_option maxHeartbeats 4000000
set_option exponentiation.threshold 4000
namespace K70
open PySem L2 LX
theorem paired_of {α β : Type} {R : α → β → Prop} : ∀ {xs : List α} {ys : List β}, xs.length = ys.length → (∀ j (h1 : j < xs.length) (h2 : j < ys.length), R xs[j] ys[j]) → Paired R xs ys
  | [], [], _, _ => .nil
  | [], _ :: _, h, _ => by simp at h
  | _ :: _, [], h, _ => by simp at h
  | x :: xs, y :: ys, h, f => .cons (f 0 (Nat.succ_pos _) (Nat.succ_pos _)) (paired_of (by simpa using h) fun j h1 h2 => f (j + 1) (Nat.succ_lt_succ h1) (Nat.succ_lt_succ h2))
section
variable {P : Program} {w : World} {K : PySem.W.Frag} {mg : Str → Option Value} {base : Heap}
def rIsnB : R2 := fun x y H Q => ∃ b c : Bool, x = .bl b ∧ y = .bl c ∧ Q (.bl (!decide (b = c))) H
theorem op_isnB {X : Cx} : OpR X (compareOp .IsNot) rIsnB := by
  rintro pins s σ H x y v u Q I rx ry ⟨b, c, rfl, rfl, q⟩
  cases rx
  cases ry
  refine wpAny_isNot_plain rfl (fin_bl I q ?_)
  cases b <;> cases c <;> rfl
theorem due_is {rs : List (Option Int)} {ks : Fs} {ts : List Tr} {m us ms : List Int} (hR : Runs rs ks [] ts m) (hro : ∀ n, some n ∈ rs → n ∈ m) (hs : Shut ks m) (pm : us.Perm m) (pw : us.Pairwise (· ≤ ·)) (hms : ms.Pairwise (· < ·)) (hk : ∀ k, k ∈ ms ↔ Rch ks (rs.filterMap id) k) : us = ms := by
  have nd : us.Nodup := pm.nodup_iff.mpr (runs_nodup List.nodup_nil hR)
  have rise : us.Pairwise (· < ·) := (pw.and nd).imp fun ⟨h1, h2⟩ => Int.lt_iff_le_and_ne.mpr ⟨h1, h2⟩
  refine rise_one rise hms fun k => pm.mem_iff.trans (Iff.trans ⟨fun h => ?_, fun h => ?_⟩ (hk k).symm)
  · exact runs_rch (a := []) (fun n hn => mem_roots.mpr hn) (fun x h => nomatch h) hR k h
  · exact rch_all (fun n hn => hro n (mem_roots.mp hn)) hs h
theorem runs_mem {rs : List (Option Int)} {ks : Fs} {ts : List Tr} {m : List Int} (hR : Runs rs ks [] ts m) (t : Int) : some t ∈ ts.map (·.1) ↔ t ∈ m := by
  have h := runs_things hR
  rw [List.map_nil, List.nil_append] at h
  rw [← h, List.mem_map]
  exact ⟨fun ⟨x, hx, e⟩ => by injection e with e; rw [← e]; exact hx, fun hx => ⟨t, hx, rfl⟩⟩
def cmpR? : Option Expr → Option Expr
  | some (.Compare _ _ (b :: _) _) => some b
  | _ => none
abbrev rLst (K : PySem.W.Frag) : List V → Hp → VK → Prop := fun xs H Q => ∃ p ys, xs = [.ref p] ∧ (SqL K H p ys ∨ SqT K H p ys) ∧ ∀ l, H l = none → Q (.ref l) (upd H l (.lst ys))
def tup1? : Option Expr → Option Expr
  | some (.Tuple (_ :: b :: _) _ _) => some b
  | _ => none
theorem rt_wide {rs : List (Option Int)} {ks : Fs} {bs us : List Int} (rt : Rt rs ks) (r8 : rs.length ≤ 8) (ul : us.length ≤ 3) (hb : ∀ b ∈ bs, b ∈ keys ks) (hm : ∀ k, k ∈ us ↔ k ∈ bs) : Rt (rs ++ us.map some) ks :=
  ⟨rt.nd, rt.pos, rt.kl, by rw [List.length_append, List.length_map]; omega, rt.fl, fun n hn => by
    rcases List.mem_append.mp hn with g | g
    · exact rt.ri n g
    · obtain ⟨b, h1, e⟩ := List.mem_map.mp g
      injection e with e
      rw [← e]
      exact hb b ((hm b).mp h1), rt.fi⟩
abbrev NW : List Str := ["script", "roots", "fields", "back", "t", "view", "handed", "told", "triples", "gone", "wide", "due", "kept", "strange", "bad", "wrong", "one"]
theorem scL : FnScope NW ["script"] (defScope sLaw) := ⟨rfl, rfl, rfl, by decide +kernel, rfl, by decide +kernel, by decide +kernel⟩
def fst? : Option Expr → Option Expr
  | some (.BoolOp _ (a :: _) _) => some a
  | _ => none
abbrev scpD : Scope := scopeOf (arg0? (tup1? (cmp? ((defBody sLaw).getD 1 (.Pass ⟨0, 0, 0, 0⟩)))))
abbrev scpT' : Scope := scopeOf (arg0? (left? (fst? (tst? ((defBody sLaw).getD 9 (.Pass ⟨0, 0, 0, 0⟩))))))
abbrev scpG : Scope := scopeOf (cmpR? (fst? (tst? ((defBody sLaw).getD 10 (.Pass ⟨0, 0, 0, 0⟩)))))
abbrev scpX : Scope := scopeOf (arg0? (cmp? (inFor ((defBody sLaw).getD 17 (.Pass ⟨0, 0, 0, 0⟩)) 0)))
theorem cD : CompP (defScope sLaw) scpD "t" ["fields"] NW [2] := by decide +kernel
theorem cT' : CompP (defScope sLaw) scpT' "triple" [] NW [] := by decide +kernel
theorem cG : CompP (defScope sLaw) scpG "t" ["due"] NW [11] := by decide +kernel
theorem cX : CompP (defScope sLaw) scpX "other" ["fields"] NW [2] := by decide +kernel
def spLaw (K : PySem.W.Frag) : Sp := fun vs H Q _ => ∃ (a : Addr) (ns : List Int), vs = [.ref a] ∧ SqL K H a (ns.map V.int) ∧ ns.length ≤ 63 ∧ ∀ H', Q (.bl true) H'
theorem dict_copy {Ha : Hp} {r d : Addr} {o : Obj} {ad : Int → Addr} {rs : List (Option Int)} {ks : Fs} (va : Vw Ha r d o ad rs ks) (nd : (keys ks).Nodup) (kl : ks.length ≤ 12) {D : Addr} (hD : Ha D = none) {Q : VK}
    (k : ∀ (ps : List Addr) (ad' : Int → Addr) (Hb : Hp), Same Ha Hb → Hb D = some (.lst (ps.map V.ref)) → Paired (fun x (p : Key × V) => Hb x = some (.tup [kV p.1, p.2])) ps (kvl ad' ks) → (∀ p ∈ ks, Hb (ad' p.1) = some (.lst (p.2.map oV)) ∧ Ha (ad' p.1) = none) → Q (.ref D) Hb) :
    CompTo (Itd d o (kvl ad ks)) D [some (.ref d)] (tTup (tCons (tVar 0) (tCons (tCB (rLst K) (tCons (tDGet (tVar 1) (tVar 0)) tNil)) tNil))) Q (upd Ha D (.lst [])) := by
  have el : (kvl ad ks).length = ks.length := by unfold kvl; rw [List.length_map]
  refine comp_dict (d := d) (o := o) (kvs := kvl ad ks) (fun i ys Hx => ∃ (ps : List Addr) (ad' : Int → Addr), ys = ps.map V.ref ∧ ps.length = i ∧ Same Ha Hx ∧ Hx D = some (.lst ys) ∧ (∀ j (h : j < ps.length) (h2 : j < ks.length), Hx ps[j] = some (.tup [.int ks[j].1, .ref (ad' ks[j].1)])) ∧ ∀ p ∈ ks.take i, Hx (ad' p.1) = some (.lst (p.2.map oV)) ∧ ad' p.1 ≠ D ∧ Ha (ad' p.1) = none)
    ⟨[], fun _ => 0, rfl, rfl, Same.upd hD, upd_same, (fun j h => absurd h (Nat.not_lt_zero _)), (fun p h => nomatch h)⟩ (fun i ys Hx _ ⟨ps, ad', e, l, _, z, _⟩ => ⟨z, by rw [e, List.length_map]; exact l⟩) (fun i ys Hx _ ⟨_, _, _, _, sx, _⟩ => sx _ _ va.hd) (Nat.le_trans (show (kvl ad ks).length ≤ 12 by omega) (by decide)) (fun i p ys Hx hp ⟨ps, ad', e, pl, sx, z, hps, hls⟩ => ?_) (fun ys Hb ⟨ps, ad', e, pl, sb, zD, hps, hls⟩ => ?_)
  · obtain ⟨q, hq, hqi, rfl⟩ := key_at hp
    obtain ⟨hlt, eq⟩ := List.getElem?_eq_some_iff.mp hqi
    have tk : ks.take (i + 1) = ks.take i ++ [q] := by rw [List.take_succ_eq_append_getElem hlt, eq]
    have vx := va.same sx
    have hin : q.1 ∈ keys ks := List.mem_map_of_mem hq
    have nk : q.1 ∉ keys (ks.take i) := fun g => by
      have h1 : (keys (ks.take i) ++ [q.1]).Nodup := by
        have e9 : keys (ks.take (i + 1)) = keys (ks.take i) ++ [q.1] := by
          show (ks.take (i + 1)).map (·.1) = _
          rw [tk, List.map_append]; rfl
        rw [← e9]
        exact ((List.take_sublist _ _).map _).nodup nd
      exact (List.nodup_append.mp h1).2.2 _ g _ (List.mem_singleton.mpr rfl) rfl
    refine ⟨_, rfl, _, rfl, _, rfl, d, _, rfl, dget_in vx.hd hin, ad q.1, _, rfl, .inl (SqL.of (vx.hl q hq)), fun l2 hl2 => ⟨by show 2 ≤ sizeLine; decide, fun tp htp => ?_⟩⟩
    have sl := Same.upd (o := .lst (q.2.map oV)) hl2
    have st := Same.upd (o := .tup [V.int q.1, V.ref l2]) htp
    have slt := sl.trans st
    have zD2 := slt _ _ z
    subst e
    have nlD : l2 ≠ D := fun y => by rw [y, z] at hl2; cases hl2
    have ntD : tp ≠ D := fun y => by rw [y, sl _ _ z] at htp; cases htp
    refine ⟨zD2, ps ++ [tp], fun k => if k = q.1 then l2 else ad' k, by rw [List.map_append]; rfl, by rw [List.length_append, List.length_singleton, pl], fun c u g => ?_, upd_same, fun j h1 h2 => ?_, fun p hp => ?_⟩
    · rw [upd_ne (ne_of_none g hD)]
      exact slt _ _ (sx c u g)
    · by_cases hj : j < ps.length
      · have ej : (ps ++ [tp])[j] = ps[j] := List.getElem_append_left hj
        have hkj : ks[j].1 ≠ q.1 := fun y => nk (by
          rw [← y]
          refine List.mem_map.mpr ⟨ks[j], ?_, rfl⟩
          rw [List.mem_take_iff_getElem]
          exact ⟨j, by omega, rfl⟩)
        have hz := hps j hj h2
        show upd _ D _ ((ps ++ [tp])[j]) = some (.tup [.int ks[j].1, .ref (if ks[j].1 = q.1 then l2 else ad' ks[j].1)])
        rw [if_neg hkj, ej, upd_ne (ne_of (slt _ _ hz) zD2 (by intro z; cases z))]
        exact slt _ _ hz
      · have ej : j = ps.length := by rw [List.length_append, List.length_singleton] at h1; omega
        subst ej
        have ek : ks[ps.length] = q := by
          have : ks[ps.length]? = some q := by rw [pl]; exact hqi
          exact (List.getElem?_eq_some_iff.mp this).2
        show upd _ D _ ((ps ++ [tp])[ps.length]) = some (.tup [.int ks[ps.length].1, .ref (if ks[ps.length].1 = q.1 then l2 else ad' ks[ps.length].1)])
        rw [ek, if_pos rfl, List.getElem_append_right (Nat.le_refl _)]
        simp only [Nat.sub_self, List.getElem_cons_zero]
        rw [upd_ne ntD, upd_same]
        rfl
    · rw [tk] at hp
      rcases List.mem_append.mp hp with h | h
      · have hne : p.1 ≠ q.1 := fun y => nk (by rw [← y]; exact List.mem_map_of_mem h)
        obtain ⟨hz, hnD, hn0⟩ := hls p h
        show upd _ D _ (if p.1 = q.1 then l2 else ad' p.1) = _ ∧ (if p.1 = q.1 then l2 else ad' p.1) ≠ D ∧ Ha (if p.1 = q.1 then l2 else ad' p.1) = none
        rw [if_neg hne]
        exact ⟨(upd_ne hnD).trans (slt _ _ hz), hnD, hn0⟩
      · rw [List.mem_singleton.mp h]
        show upd _ D _ (if q.1 = q.1 then l2 else _) = _ ∧ (if q.1 = q.1 then l2 else _) ≠ D ∧ Ha (if q.1 = q.1 then l2 else _) = none
        rw [if_pos rfl]
        exact ⟨(upd_ne nlD).trans (st _ _ upd_same), nlD, sx.free hl2⟩
  · rw [el] at pl
    rw [el, List.take_of_length_le (Nat.le_refl _)] at hls
    subst e
    refine k ps ad' Hb sb zD (paired_of (by unfold kvl; rw [List.length_map, pl]) fun j h1 h2 => ?_) fun p hp => ⟨(hls p hp).1, (hls p hp).2.2⟩
    have hz := hps j h1 (by omega)
    have ek : (kvl ad' ks)[j] = (Sum.inl ks[j].1, V.ref (ad' ks[j].1)) := List.getElem_map _
    show Hb ps[j] = some (.tup [L2.kV (kvl ad' ks)[j].1, (kvl ad' ks)[j].2])
    rw [ek]
    exact hz
theorem kvl_nodup {ad : Int → Addr} {ks : Fs} (nd : (keys ks).Nodup) : ((kvl ad ks).map (·.1)).Nodup := by
  rw [kvl_keys]
  exact List.Pairwise.map _ (fun x y q e => q (by injection e)) nd
theorem kvl_put {ad : Int → Addr} {l : Addr} {t : Int} : ∀ {ks : Fs}, t ∈ keys ks → putK (kvl ad ks) (Sum.inl t) (V.ref l) = kvl (fun k => if k = t then l else ad k) ks := fun {ks} h => by
  unfold putK
  have e : ((kvl ad ks).any fun kv => decide (kv.1 = Sum.inl t)) = true := by
    rw [valV_any, val_kvl, if_pos h]
    rfl
  rw [if_pos e]
  unfold kvl
  rw [List.map_map]
  refine List.map_congr_left fun p _ => ?_
  show (if (Sum.inl p.1 : Key) = Sum.inl t then (Sum.inl p.1, V.ref l) else (Sum.inl p.1, V.ref (ad p.1))) = (Sum.inl p.1, V.ref (if p.1 = t then l else ad p.1))
  by_cases e : p.1 = t
  · rw [if_pos (by rw [e]), if_pos e]
  · rw [if_neg (fun z => e (by injection z)), if_neg e]
/-- the fields of t are others -/
def setFs (ks : Fs) (t : Int) (fs : List (Option Int)) : Fs := ks.map fun p => if p.1 = t then (p.1, fs) else p
theorem setFs_keys (ks : Fs) (t : Int) (fs : List (Option Int)) : keys (setFs ks t fs) = keys ks := by
  show (setFs ks t fs).map (·.1) = ks.map (·.1)
  unfold setFs
  rw [List.map_map]
  refine List.map_congr_left fun p _ => ?_
  show (if p.1 = t then (p.1, fs) else p).1 = p.1
  split <;> rfl
theorem setFs_kvl (ad : Int → Addr) (ks : Fs) (t : Int) (fs : List (Option Int)) : kvl ad (setFs ks t fs) = kvl ad ks := by
  unfold kvl setFs
  rw [List.map_map]
  refine List.map_congr_left fun p _ => ?_
  show (Sum.inl (if p.1 = t then (p.1, fs) else p).1, V.ref (ad (if p.1 = t then (p.1, fs) else p).1)) = _
  have e : (if p.1 = t then (p.1, fs) else p).1 = p.1 := by split <;> rfl
  rw [e]
theorem sml_of {n : Int} (h0 : 0 ≤ n) (h : n < 10 ^ 60) : n.natAbs.log2 < 1920 := by
  refine log_small ?_
  have h1 : (n.natAbs : Int) = n := Int.natAbs_of_nonneg h0
  have h2 : (n.natAbs : Int) < ((2 ^ 1920 : Nat) : Int) := by
    rw [h1]
    exact Int.lt_trans h (by decide +kernel)
  exact Int.ofNat_lt.mp h2
/-- a view that is told to be refused -/
def BV (H : Hp) (bd : Addr) (bs : List Int) (y : Addr) : Prop := ∃ (r d : Addr) (o : Obj) (ad : Int → Addr) (rs : List (Option Int)) (ks : Fs), H y = some (.tup [.ref r, .ref d]) ∧ Vw H r d o ad rs ks ∧ BadP rs ks bs ∧ r ≠ bd ∧ ∀ p ∈ ks, ad p.1 ≠ bd
theorem BV.same {H H' : Hp} {bd y : Addr} {bs : List Int} (b : BV H bd bs y) (s : Same H H') : BV H' bd bs y := by
  obtain ⟨r, d, o, ad, rs, ks, h1, h2, h3, h4, h5⟩ := b
  exact ⟨r, d, o, ad, rs, ks, s _ _ h1, h2.same s, h3, h4, h5⟩
theorem BV.upd {H : Hp} {bd y : Addr} {bs : List Int} {xs zs : List V} (b : BV H bd bs y) (hb : H bd = some (.lst xs)) : BV (L2.upd H bd (.lst zs)) bd bs y := by
  obtain ⟨r, d, o, ad, rs, ks, h1, h2, h3, h4, h5⟩ := b
  exact ⟨r, d, o, ad, rs, ks, (upd_ne (ne_of h1 hb (by intro z; cases z))).trans h1, ⟨(upd_ne h4).trans h2.hr, (upd_ne (ne_of h2.hd hb (by intro z; cases z))).trans h2.hd, fun p hp => (upd_ne (h5 p hp)).trans (h2.hl p hp)⟩, h3, h4, h5⟩
theorem deep_same {H : Hp} {x y : Addr} {t : Tr} (h : H x = some (.tup (trV t))) (h' : H y = some (.tup (trV t))) : Deep K H 1 (.ref x) (.ref y) := by
  refine .tup (SqT.of h) (SqT.of h') rfl fun j h1 h2 => .flat ?_
  have h1 : j < 3 := h1
  obtain h | h | h : j = 0 ∨ j = 1 ∨ j = 2 := by omega
  all_goals subst h; exact oV_flat _
theorem exists_rise : ∀ bs : List Int, ∃ us : List Int, us.Pairwise (· < ·) ∧ ∀ k, k ∈ us ↔ k ∈ bs
  | [] => ⟨[], .nil, fun k => Iff.rfl⟩
  | b :: bs => by
    obtain ⟨us, h1, h2⟩ := exists_rise bs
    by_cases h : b ∈ us
    · exact ⟨us, h1, fun k => by rw [h2, List.mem_cons]; exact ⟨.inr, fun z => z.elim (fun e => by rw [e]; exact (h2 b).mp h) id⟩⟩
    · refine ⟨us.filter (fun x => decide (x < b)) ++ ([b] ++ us.filter (fun x => decide (b < x))), ?_, fun k => ?_⟩
      · rw [List.pairwise_append, List.pairwise_append]
        refine ⟨h1.sublist List.filter_sublist, ⟨List.pairwise_singleton _ _, h1.sublist List.filter_sublist, fun x hx y hy => ?_⟩, fun x hx y hy => ?_⟩
        · rw [List.mem_singleton.mp hx]
          exact of_decide_eq_true (List.mem_filter.mp hy).2
        · have hxb : x < b := of_decide_eq_true (List.mem_filter.mp hx).2
          rcases List.mem_append.mp hy with g | g
          · rw [List.mem_singleton.mp g]; exact hxb
          · exact Int.lt_trans hxb (of_decide_eq_true (List.mem_filter.mp g).2)
      · rw [List.mem_append, List.mem_append, List.mem_filter, List.mem_filter, List.mem_singleton, List.mem_cons, ← h2]
        simp only [decide_eq_true_eq]
        constructor
        · rintro (⟨g, _⟩ | g | ⟨g, _⟩)
          · exact .inr g
          · exact .inl g
          · exact .inr g
        · rintro (g | g)
          · exact .inr (.inl g)
          · rcases Int.lt_trichotomy k b with z | z | z
            · exact .inl ⟨g, z⟩
            · exact .inr (.inl z)
            · exact .inr (.inr ⟨g, z⟩)
theorem cut_oV (fs : List (Option Int)) (lo hi : Option Int) : ∃ cs : List (Option Int), cutV (fs.map oV) lo hi = cs.map oV ∧ cs.length ≤ fs.length ∧ ∀ c ∈ cs, c ∈ fs := by
  refine ⟨(fs.drop (HT.sIx (fs.map oV).length 0 lo)).take (HT.sIx (fs.map oV).length (fs.map oV).length hi - HT.sIx (fs.map oV).length 0 lo), ?_, ?_, fun c h => List.mem_of_mem_drop (List.mem_of_mem_take h)⟩
  · unfold cutV
    rw [List.map_take, List.map_drop]
  · rw [List.length_take, List.length_drop]
    omega
theorem ok_law {f fC fV fP fE fR fJ fF : Addr} {fd fdC fdV fdP fdE fdR fdJ fdF : FuncData} (F : Fun K "law" "law" sLaw f fd) (zso : mg "sorted" = none) (ze : mg "set" = none) (zl : mg "list" = none) (zd : mg "dict" = none) (zi : mg "isinstance" = none) (zt : mg "tuple" = none) (zn : mg "len" = none) (zu : mg "sum" = none)
    (GC : FnOk P w K mg base (CXE P w) 1 fC fdC ["script", "many"] (spCodes K)) (mC : mg "_law_codes" = some (.ref fC)) (kC : PySem.W.keepIn K (.ref fC) = true) (bC : Binds K fdC ["script", "many"] [])
    (GV : FnOk P w K mg base (CXE P w) 2 fV fdV ["codes"] (spView K)) (mV : mg "_law_view" = some (.ref fV)) (kV : PySem.W.keepIn K (.ref fV) = true) (bV : Binds K fdV ["codes"] [])
    (GP : FnOk P w K mg base (CXE P w) 4 fP fdP ["view", "read"] (spPaper K)) (mP : mg "round_paper" = some (.ref fP)) (kP : PySem.W.keepIn K (.ref fP) = true) (bP : Binds K fdP ["view", "read"] [])
    (GE : FnOk P w K mg base (CXE P w) 1 fE fdE ["roots", "fields"] (spReached K)) (mE : mg "_law_reached" = some (.ref fE)) (kE : PySem.W.keepIn K (.ref fE) = true) (bE : Binds K fdE ["roots", "fields"] [])
    (GR : FnOk P w K mg base (CXE P w) 1 fR fdR ["roots", "fields", "triples"] (spRight K)) (mR : mg "_law_steps_right" = some (.ref fR)) (kR : PySem.W.keepIn K (.ref fR) = true) (bR : Binds K fdR ["roots", "fields", "triples"] [])
    (GJ : FnOk P w K mg base (CXE P w) 4 fJ fdJ ["view", "read", "paper"] (spRound K)) (mJ : mg "round_judged" = some (.ref fJ)) (kJ : PySem.W.keepIn K (.ref fJ) = true) (bJ : Binds K fdJ ["view", "read", "paper"] [])
    (GF : FnOk P w K mg base (CXE P w) 7 fF fdF ["view", "back", "paper"] (spRefused K)) (mF : mg "_law_refused" = some (.ref fF)) (kF : PySem.W.keepIn K (.ref fF) = true) (bF : Binds K fdF ["view", "back", "paper"] []) :
    FnOk P w K mg base (CXE P w) 8 f fd ["script"] (spLaw K) := by
  refine F.okE scL (fun vs H Q E h => ?_) (fun cdv A outer s H vs Q E hr h => ?_)
  · obtain ⟨a, ns, rfl, _⟩ := h
    rfl
  · obtain ⟨a, ns, rfl, hS, hz, k⟩ := h
    have hu := hu_of hr
    have hu0 := Nat.lt_of_succ_lt hu
    have hu3 : (cxE P w K mg base NW "law" (defScope sLaw) f cdv A outer s H E).nox.A.units + 1 + 2 < cLine := Nat.lt_of_le_of_lt (Nat.add_le_add_left (by decide : 3 ≤ 64) _) hr.units
    have hu2 : (cxE P w K mg base NW "law" (defScope sLaw) f cdv A outer s H E).nox.A.units + 2 + 1 < cLine := hu3
    have r1 := hr.mono (show 1 ≤ 7 by decide)
    have r2 := hr.mono (show 2 ≤ 7 by decide)
    have r4 := hr.mono (show 4 ≤ 7 by decide)
    have coD : CompOk (cxE P w K mg base NW "law" (defScope sLaw) f cdv A outer s H E).nox scpD [("fields", s.heap.objs.size + 1)] "t" [2] ["t", "fields"] := comp_ok rfl rfl rfl cD rfl rfl (by intro q hq; rw [List.mem_singleton.mp hq]; rfl)
    have coT : CompOk (cxE P w K mg base NW "law" (defScope sLaw) f cdv A outer s H E).nox scpT' [] "triple" [] ["triple"] := comp_ok rfl rfl rfl cT' rfl rfl (by intro q hq; cases hq)
    have coG : CompOk (cxE P w K mg base NW "law" (defScope sLaw) f cdv A outer s H E).nox scpG [("due", s.heap.objs.size + 2)] "t" [11] ["t", "due"] := comp_ok rfl rfl rfl cG rfl rfl (by intro q hq; rw [List.mem_singleton.mp hq]; rfl)
    have coW : CompOk (cxE P w K mg base NW "law" (defScope sLaw) f cdv A outer s H E).nox scpX [("fields", s.heap.objs.size + 1)] "other" [2] ["other", "fields"] := comp_ok rfl rfl rfl cX rfl rfl (by intro q hq; rw [List.mem_singleton.mp hq]; rfl)
    refine ⟨_, PSs.nox (pss_cons (ps_asg (xe_call GV r2 rfl mV kV bV .nil passN (pa_cons (xe_call GC r1 rfl mC kC bC .nil passN (pa_cons (pv 0) (pa_cons pe_int pa_nil))) pa_nil)) (pg_tup rfl (pgs_cons (pg_name (i := 1) scL.nd rfl (Or.inl rfl)) (pgs_cons (pg_name (i := 2) scL.nd rfl (Or.inr rfl)) (pgs_cons (pg_name (i := 3) scL.nd rfl (Or.inl rfl)) pgs_nil)))))
      (pss_cons (ps_set (i := 5) scL.nd rfl (Or.inl rfl) (pe_frz (pe_tup (pa_cons (pe_callTy call_list_of rfl zl PyProof.Rows.Boot.«list» (pa_cons (pv 1) pa_nil)) (pa_cons (pe_callTy (call_dictP rfl) rfl zd PyProof.Rows.Boot.«dict» (pa_cons (pe_comp coD rfl (pi_dict (pv 2)) (fun C fp s₀ H₀ => pe_tup (pa_cons (pv 0) (pa_cons (pe_callTy (r := rLst K) call_list_of rfl zl PyProof.Rows.Boot.«list» (pa_cons (pe_dget hu (pv 1) (pv 0) (fun _ _ => rfl)) pa_nil)) pa_nil)))) pa_nil)) pa_nil)))))
      (pss_cons (ps_set (i := 6) scL.nd rfl (Or.inl rfl) (pe_callTy call_list_of rfl zl PyProof.Rows.Boot.«list» (pa_cons (pv 3) pa_nil)))
      (pss_cons (ps_set (i := 7) scL.nd rfl (Or.inl rfl) (xe_call GP r4 rfl mP kP bP .nil passN (pa_cons (pv 5) (pa_cons (pv 6) pa_nil))))
      (pss_cons (ps_if (PW.pt (pw_or (pt_not (pt_val (pe_callB call_isiT rfl zi PyProof.Rows.Boot.«isinstance» (pa_cons (pv 7) (pa_cons (pe_ty rfl zt PyProof.Rows.Boot.«tuple») pa_nil))))) (pw_or1 (pt_cmpR op_ne (pe_callB call_len_seq rfl zn PyProof.Rows.Boot.«len» (pa_cons (pv 7) pa_nil)) pe_int (nomark _))))) (pss_one (ps_ret pe_bl)) pss_nil)
      (pss_cons (ps_asg (pv 7) (pg_tup rfl (pgs_cons (pg_name (i := 8) scL.nd rfl (Or.inl rfl)) (pgs_cons (pg_name (i := 9) scL.nd rfl (Or.inl rfl)) pgs_nil))))
      (pss_cons (ps_set (i := 10) scL.nd rfl (Or.inl rfl) (pe_op op_cat (pv 1) (pe_callB (call_sortedS rfl) rfl zso PyProof.Rows.Boot.«sorted» (pa_cons (pe_callTy (call_set rfl) rfl ze PyProof.Rows.Boot.«set» (pa_cons (pv 3) pa_nil)) pa_nil))))
      (pss_cons (ps_set (i := 11) scL.nd rfl (Or.inr rfl) (xe_call GE r1 rfl mE kE bE .nil passN (pa_cons (pv 10) (pa_cons (pv 2) pa_nil))))
      (pss_cons (ps_if (PW.pt (pw_or (pt_not (pt_val (pe_callB call_isiT rfl zi PyProof.Rows.Boot.«isinstance» (pa_cons (pv 8) (pa_cons (pe_ty rfl zl PyProof.Rows.Boot.«list») pa_nil))))) (pw_or1 (pt_not (pt_val (xe_call GR r1 rfl mR kR bR .nil passN (pa_cons (pv 10) (pa_cons (pv 2) (pa_cons (pv 8) pa_nil))))))))) (pss_one (ps_ret pe_bl)) pss_nil)
      (pss_cons (ps_if (PW.pt (pw_or (pt_cmpR (op_neI hu0) (pe_callB call_sortedL rfl zso PyProof.Rows.Boot.«sorted» (pa_cons (pe_comp coT rfl (pi_list (pv 8)) (fun C fp s₀ H₀ => pe_ix (r := rIxT K) ix_tup (pv 0) pe_int (fun _ _ => rfl))) pa_nil)) (pv 11) (nomark _)) (pw_or1 (pt_not (pt_val (pe_callB call_isiT rfl zi PyProof.Rows.Boot.«isinstance» (pa_cons (pv 9) (pa_cons (pe_ty rfl zl PyProof.Rows.Boot.«list») pa_nil)))))))) (pss_one (ps_ret pe_bl)) pss_nil)
      (pss_cons (ps_if (PW.pt (pw_or (pt_cmpR (op_neI hu0) (pv 9) (pe_compU coG rfl (pi_list (pe_callB (call_sortedR rfl) rfl zso PyProof.Rows.Boot.«sorted» (pa_cons (pv 2) pa_nil))) (fun C fp s₀ H₀ => pt_cmpR (r := rIn K true) op_notIn_seq (pv 0) (pv 1) (by with_unfolding_all rfl)) (fun C fp s₀ H₀ => pv 0)) (nomark _)) (pw_or1 (pt_cmpR op_isnB (xe_call GJ r4 rfl mJ kJ bJ .nil passN (pa_cons (pv 5) (pa_cons (pv 6) (pa_cons (pv 7) pa_nil)))) pe_bl (nomark _))))) (pss_one (ps_ret pe_bl)) pss_nil)
      (pss_cons (ps_set (i := 12) scL.nd rfl (Or.inl rfl) (pe_tup (pa_cons (pe_callTy call_list_of rfl zl PyProof.Rows.Boot.«list» (pa_cons (pv 8) pa_nil)) (pa_cons (pe_callTy call_list_of rfl zl PyProof.Rows.Boot.«list» (pa_cons (pv 9) pa_nil)) pa_nil))))
      (pss_cons (ps_expr (pe_bm PySem.F.plainAttrs_list PySem.F.slot_list_append PySem.F.type_list_append mt_append (pv 8) (pa_cons (pe_tup (pa_cons pe_int (pa_cons pe_non (pa_cons pe_int pa_nil)))) pa_nil)))
      (pss_cons (ps_expr (pe_bm PySem.F.plainAttrs_list PySem.F.slot_list_append PySem.F.type_list_append mt_append (pv 9) (pa_cons pe_int pa_nil)))
      (pss_cons (ps_if (PW.pt (pw_or (pt_cmpR (op_neDT (n := 2) hu2) (xe_call GP r4 rfl mP kP bP .nil passN (pa_cons (pv 5) (pa_cons (pv 6) pa_nil))) (pv 12) (nomark _)) (pw_or (pt_cmpR (op_neVw (n := 1) hu3) (pv 5) (pe_tup (pa_cons (pv 1) (pa_cons (pv 2) pa_nil))) (nomark _)) (pw_or1 (pt_cmpR (op_neI hu0) (pv 6) (pv 3) (nomark _)))))) (pss_one (ps_ret pe_bl)) pss_nil)
      (pss_cons (ps_set (i := 13) scL.nd rfl (Or.inl rfl) (pe_op op_add (pe_op op_mul (pe_op op_mod (pe_callB (call_sum rfl) rfl zu PyProof.Rows.Boot.«sum» (pa_cons (pv 0) pa_nil)) (pe_op op_pow pe_int pe_int)) pe_int) (pe_op op_pow pe_int pe_int)))
      (pss_cons (ps_set (i := 14) scL.nd rfl (Or.inl rfl) (pe_lst (pa_cons (pe_tup (pa_cons (pe_op op_cat (pv 1) (pe_lst (pa_cons (pv 13) pa_nil))) (pa_cons (pv 2) pa_nil))) pa_nil)))
      (pss_cons (ps_for PassesOwn.never rfl (pi_list (pe_slice sl_list (pe_callB (call_sortedR rfl) rfl zso PyProof.Rows.Boot.«sorted» (pa_cons (pv 2) pa_nil)) po_none (po_some pe_int))) (pg_name (i := 4) scL.nd rfl (Or.inl rfl)) (pss_cons (ps_set (i := 15) scL.nd rfl (Or.inl rfl) (pe_callTy (call_dictP rfl) rfl zd PyProof.Rows.Boot.«dict» (pa_cons (pe_comp coW rfl (pi_dict (pv 2)) (fun C fp s₀ H₀ => pe_tup (pa_cons (pv 0) (pa_cons (pe_callTy (r := rLst K) call_list_of rfl zl PyProof.Rows.Boot.«list» (pa_cons (pe_dget hu (pv 1) (pv 0) (fun _ _ => rfl)) pa_nil)) pa_nil)))) pa_nil)))
      (pss_cons (ps_dput hu (pv 15) (pv 4) (pe_op op_cat (pe_lst (pa_cons (pv 13) pa_nil)) (pe_slice sl_list (pe_dget hu (pv 15) (pv 4) (fun _ _ => rfl)) (po_some pe_int) po_none)) rfl)
      (pss_one (ps_expr (pe_bm PySem.F.plainAttrs_list PySem.F.slot_list_append PySem.F.type_list_append mt_append (pv 14) (pa_cons (pe_frz (pe_tup (pa_cons (pe_callTy call_list_of rfl zl PyProof.Rows.Boot.«list» (pa_cons (pv 1) pa_nil)) (pa_cons (pv 15) pa_nil)))) pa_nil)))))))
      (pss_cons (ps_for PassesOwn.never rfl (pi_list (pv 14)) (pg_name (i := 16) scL.nd rfl (Or.inl rfl)) (pss_one (ps_if (pt_not (pt_val (xe_call GF hr rfl mF kF bF .nil passN (pa_cons (pv 16) (pa_cons (pe_callTy call_list_of rfl zl PyProof.Rows.Boot.«list» (pa_cons (pv 3) pa_nil)) (pa_cons (pv 12) pa_nil)))))) (pss_one (ps_ret pe_bl)) pss_nil)))
      (pss_one (ps_ret (pe_and (xe_call GF hr rfl mF kF bF .nil passN (pa_cons (pv 5) (pa_cons (pe_op op_cat (pv 3) (pe_lst (pa_cons (pv 13) pa_nil))) (pa_cons (pv 12) pa_nil)))) (pe_one (xe_call GF hr rfl mF kF bF .nil passN (pa_cons (pv 5) (pa_cons (pe_op op_cat (pe_lst (pa_cons (pv 13) pa_nil)) (pv 3)) (pa_cons (pv 12) pa_nil))))))))))))))))))))))))))), ?_⟩
    refine ⟨_, rfl, a, ns, 40, rfl, by decide, hS, hz, fun ca cs H1 s1 hca zca cl _ => ?_⟩
    refine ⟨ca, cs, rfl, zca, cl, fun v3 r d bk o ad rs ks bs H2 s2 ht3 hv rt r8 zbk b3 hbk htop => ?_⟩
    refine ⟨v3, _, rfl, SqT.of ht3, rfl, _, _, rfl, _, _, rfl, _, _, rfl, rfl, ?_⟩
    have kl := rt.kl
    have kk : (keys ks).length = ks.length := List.length_map _
    obtain ⟨us, pmu, mmu⟩ := exists_rise bs
    have ul : us.length ≤ 3 := Nat.le_trans (nodup_len (pmu.imp fun h => Int.ne_of_lt h) fun k hk => (mmu k).mp hk) b3
    have rtw : Rt (rs ++ us.map some) ks := rt_wide rt r8 ul hbk mmu
    -- view
    refine ⟨_, rfl, r, _, rfl, .inl (SqL.of hv.hr), fun r' hr' => ?_⟩
    have s10 := Same.upd (o := .lst (rs.map oV)) hr'
    obtain ⟨Ha, eHa⟩ : ∃ Ha, upd H2 r' (.lst (rs.map oV)) = Ha := ⟨_, rfl⟩
    have zr' : Ha r' = some (.lst (rs.map oV)) := by rw [← eHa]; exact upd_same
    rw [eHa] at s10 ⊢
    have va := hv.same s10
    refine ⟨_, rfl, d, o, _, rfl, va.hd, fun D hD => dict_copy va rt.nd kl hD fun ps ad' Hb sb zD hpr hls => ?_⟩
    refine ⟨D, ps, kvl ad' ks, rfl, zD, hpr, kvl_nodup rt.nd, fun d' hd' => ⟨by show 2 ≤ sizeLine; decide, fun v' hv' => ?_⟩⟩
    have sd := Same.upd (o := .dK (kvl ad' ks)) hd'
    have sv := Same.upd (o := .tup [V.ref r', V.ref d']) hv'
    have sdv := sd.trans sv
    refine ⟨d', kvl ad' ks, sv _ _ upd_same, fun o' => ?_⟩
    obtain ⟨Hc, eHc⟩ : ∃ Hc, upd (upd (upd Hb d' (.dK (kvl ad' ks))) v' (.tup [V.ref r', V.ref d'])) d' (.frz o' (.dK (kvl ad' ks))) = Hc := ⟨_, rfl⟩
    have sc : Same Hb Hc := fun c u q => by
      rw [← eHc, upd_ne (ne_of_none q hd')]
      exact sdv c u q
    have nvd : v' ≠ d' := fun y => by rw [y, upd_same] at hv'; cases hv'
    have zv' : Hc v' = some (.tup [.ref r', .ref d']) := by rw [← eHc, upd_ne nvd, upd_same]
    have zd' : Hc d' = some (.frz o' (.dK (kvl ad' ks))) := by rw [← eHc]; exact upd_same
    show gName 5 (V.ref v') _ (upd (upd (upd Hb d' (.dK (kvl ad' ks))) v' (.tup [V.ref r', V.ref d'])) d' (.frz o' (.dK (kvl ad' ks)))) _
    rw [eHc]
    have s2c := (s10.trans sb).trans sc
    have vl : Vw Hc r' d' o' ad' rs ks := ⟨sc _ _ (sb _ _ zr'), zd', fun p hp => sc _ _ (hls p hp).1⟩
    have vc := hv.same s2c
    -- handed
    refine ⟨_, rfl, bk, _, rfl, .inl (SqL.of (s2c _ _ zbk)), fun hh hhh => ?_⟩
    have se := Same.upd (o := .lst (bs.map V.int)) hhh
    obtain ⟨HB, eHB⟩ : ∃ HB, upd Hc hh (.lst (bs.map V.int)) = HB := ⟨_, rfl⟩
    have zhh : HB hh = some (.lst (bs.map V.int)) := by rw [← eHB]; exact upd_same
    rw [eHB] at se ⊢
    have s1B := s2.trans (s2c.trans se)
    have vlB := vl.same se
    have vcB := vc.same se
    have zvB := se _ _ zv'
    have zbkB := se _ _ (s2c _ _ zbk)
    -- told
    refine ⟨_, rfl, _, rfl, v', r', d', hh, o', ad', rs, ks, bs, us, rfl, SqT.of zvB, vlB, rt, rtw, zhh, by omega, pmu, mmu, fun tp l g xs tr ms gs H4 s4 hl hg nlg htp pap hR hro hsh zg hG hpa => ?_⟩
    have msl := runs_small rtw hR
    have xl : xs.length ≤ 12 := by have := runs_len hR; rw [List.length_map] at this; omega
    have gl : gs.length ≤ 12 := by
      have := nodup_len (hG.1.imp fun h => Int.ne_of_lt h) fun k hk => ((hG.2 k).mp hk).1
      omega
    refine ⟨_, rfl, .ref tp, .ty "tuple", .type "tuple", true, rfl, .of (.tup htp), ⟨_, rfl⟩, rfl, _, rfl, iteF ?_⟩
    refine ⟨_, rfl, tp, _, rfl, .inr (SqT.of htp), rfl, _, rfl, ite2 (fun h => absurd h (by simp)) (fun _ => ?_)⟩
    refine ⟨_, rfl, tp, _, rfl, SqT.of htp, rfl, _, _, rfl, _, _, rfl, rfl, ?_⟩
    -- wide
    have zbk4 := s4 _ _ zbkB
    have v4 := vcB.same s4
    refine ⟨_, rfl, _, rfl, bk, bs, rfl, SqL.of zbk4, by omega, fun qs hqs => ⟨qs, bs, rfl, upd_same, Nat.lt_of_le_of_lt (dd_le fun k hk => hk) (by omega), fun qu us' hqu pmu' mmu' => ?_⟩⟩
    have eus : us' = us := rise_one pmu' pmu fun k => (mmu' k).trans (mmu k).symm
    subst eus
    have s5a := (Same.upd (o := SetO P w qs bs) hqs).trans (Same.upd (o := .lst (us'.map V.int)) hqu)
    refine ⟨r, qu, rs.map oV, us'.map V.int, rfl, rfl, s5a _ _ v4.hr, upd_same, Nat.le_trans (show (rs.map oV).length + (us'.map V.int).length ≤ 40 by rw [List.length_map, List.length_map]; omega) (by decide), fun wd hwd => ?_⟩
    rw [oV_ints, ← List.map_append]
    obtain ⟨H5, e5⟩ : ∃ H5, upd (upd (upd H4 qs (SetO P w qs bs)) qu (.lst ((us'.map some).map oV))) wd (.lst ((rs ++ us'.map some).map oV)) = H5 := ⟨_, rfl⟩
    have s5 : Same H4 H5 := by
      rw [← e5, ← oV_ints]
      exact s5a.trans (Same.upd hwd)
    have zwd : H5 wd = some (.lst ((rs ++ us'.map some).map oV)) := by rw [← e5]; exact upd_same
    show gName 10 (V.ref wd) _ (upd (upd (upd H4 qs (SetO P w qs bs)) qu (.lst ((us'.map some).map oV))) wd (.lst ((rs ++ us'.map some).map oV))) _
    rw [e5]
    have v5 := v4.same s5
    -- due
    refine ⟨_, rfl, _, rfl, wd, d, o, ad, rs ++ us'.map some, ks, rfl, ⟨zwd, v5.hd, v5.hl⟩, rtw, fun du ue H6 s6 hdu zdu pue lue mue => ?_⟩
    have s46 := s5.trans s6
    have v6 := v5.same s6
    have pap6 := pap.same s46
    refine ⟨_, rfl, .ref l, .ty "list", .type "list", true, rfl, .of (.lst pap6.hl), ⟨_, rfl⟩, rfl, _, rfl, iteF ?_⟩
    refine ⟨_, rfl, _, rfl, _, rfl, wd, d, l, o, ad, rs ++ us'.map some, ks, xs, tr, ms, rfl, ⟨s6 _ _ zwd, v6.hd, v6.hl⟩, rtw, pap6, hR, fun H7 s7 => ⟨_, rfl, iteF ?_⟩⟩
    have s47 := s46.trans s7
    have pap7 := pap.same s47
    -- sorted
    refine ⟨_, rfl, l, rfl, ⟨_, SqL.of pap7.hl⟩, fun D9 hD9 => ?_⟩
    refine comp_list (K := K) (a := l) (xs := xs.map V.ref) (fun j zs Hx => zs = (xs.take j).map (fun x => oV (tr x).1) ∧ Same H7 Hx ∧ Hx D9 = some (.lst zs)) ⟨rfl, Same.upd hD9, upd_same⟩
      (fun j zs Hx hj ⟨e, _, z⟩ => ⟨z, by rw [List.length_map] at hj; rw [e, List.length_map, List.length_take]; omega⟩) (fun j zs Hx _ ⟨_, sx, _⟩ => SqL.of (sx _ _ pap7.hl)) (Nat.le_trans (show (xs.map V.ref).length ≤ 12 by rw [List.length_map]; exact xl) (by decide))
      (fun j x zs Hx hx ⟨e, sx, z⟩ => ?_) (fun zs H9 ⟨e, s9, z9⟩ => ?_)
    · have hlt : j < xs.length := by have := (List.getElem?_eq_some_iff.mp hx).1; rwa [List.length_map] at this
      have tk : xs.take (j + 1) = xs.take j ++ [xs[j]] := List.take_succ_eq_append_getElem hlt
      have hxe : x = .ref xs[j] := by
        rw [List.getElem?_map, List.getElem?_eq_getElem hlt] at hx
        exact (Option.some.inj hx).symm
      subst hxe
      refine ⟨_, rfl, xs[j], _, 0, oV (tr xs[j]).1, rfl, rfl, SqT.of (sx _ _ (pap7.hx _ (List.getElem_mem hlt))), rfl, z, by rw [tk, List.map_append, e]; rfl, fun c u g => by rw [upd_ne (ne_of_none g hD9)]; exact sx c u g, upd_same⟩
    rw [List.length_map, List.take_of_length_le (Nat.le_refl _), things_are hR] at e
    subst e
    refine ⟨D9, ms, rfl, SqL.of z9, by omega, fun sl u9 hsl pm9 pw9 => ?_⟩
    have eu := due_is hR hro hsh pm9 pw9 pue mue
    subst eu
    have s10' := Same.upd (o := .lst (u9.map V.int)) hsl
    obtain ⟨Hd, eHd⟩ : ∃ Hd, upd H9 sl (.lst (u9.map V.int)) = Hd := ⟨_, rfl⟩
    have zsl : Hd sl = some (.lst (u9.map V.int)) := by rw [← eHd]; exact upd_same
    rw [eHd] at s10' ⊢
    have s4d := (s47.trans s9).trans s10'
    have s6d := (s7.trans s9).trans s10'
    refine ⟨_, rfl, sl, du, u9, u9, rfl, rfl, SqL.of zsl, SqL.of (s6d _ _ zdu), _, rfl, ?_⟩
    rw [decide_eq_true rfl]
    have zgd := s4d _ _ zg
    refine iteF ⟨_, rfl, .ref g, .ty "list", .type "list", true, rfl, .of (.lst zgd), ⟨_, rfl⟩, rfl, _, rfl, iteF ?_⟩
    -- gone
    have vd := v4.same s4d
    refine ⟨_, rfl, _, rfl, d, kvl ad ks, keys ks, rfl, rd_vw vd, kvl_keys ad ks, by omega, fun q5 u5 hq5 pm5 pw5 => ?_⟩
    have s11 := Same.upd (o := .lst (u5.map V.int)) hq5
    obtain ⟨He, eHe⟩ : ∃ He, upd Hd q5 (.lst (u5.map V.int)) = He := ⟨_, rfl⟩
    have zq5 : He q5 = some (.lst (u5.map V.int)) := by rw [← eHe]; exact upd_same
    rw [eHe] at s11 ⊢
    have u5l : u5.length ≤ 12 := by rw [pm5.length_eq]; omega
    have rise5 := rise_of rt.nd pm5 pw5
    have zdue := s11 _ _ (s6d _ _ zdu)
    refine ⟨q5, rfl, ⟨_, SqL.of zq5⟩, fun D2 hD2 => ?_⟩
    refine compT_list (K := K) (a := q5) (xs := u5.map V.int) (fun m ys Hx => ys = ((u5.take m).filter fun t => !decide (t ∈ u9)).map V.int ∧ Same He Hx ∧ Hx D2 = some (.lst ys)) ⟨rfl, Same.upd hD2, upd_same⟩ (fun m ys Hx hm' ⟨e, _, z⟩ => ⟨z, ?_⟩)
      (fun m ys Hx _ ⟨_, sx, _⟩ => SqL.of (sx _ _ zq5)) (Nat.le_trans (show (u5.map V.int).length ≤ 12 by rw [List.length_map]; exact u5l) (by decide)) (fun m x ys Hx hx ⟨e, sx, z⟩ => ?_) (fun ys Hf ⟨e, sf, zD2⟩ => ?_)
    · rw [e, List.length_map]
      exact Nat.le_trans (List.length_filter_le _ _) (by rw [List.length_take]; omega)
    · have hlm : m < u5.length := by have := (List.getElem?_eq_some_iff.mp hx).1; rwa [List.length_map] at this
      have tm : u5.take (m + 1) = u5.take m ++ [u5[m]] := List.take_succ_eq_append_getElem hlm
      have hxe : x = .int u5[m] := by
        rw [List.getElem?_map, List.getElem?_eq_getElem hlm] at hx
        exact (Option.some.inj hx).symm
      subst hxe
      refine ⟨_, rfl, _, rfl, du, u9.map V.int, rfl, .inl (SqL.of (sx _ _ zdue)), rfl, flat_ints _, _, rfl, ite2 (fun h => ?_) (fun h => ?_)⟩
      · have h9 : (!inV (.int u5[m]) (u9.map V.int)) = true := h
        rw [inV_i] at h9
        refine ⟨_, rfl, z, ?_, fun b u q => by rw [upd_ne (ne_of_none q hD2)]; exact sx b u q, upd_same⟩
        rw [tm, List.filter_append, List.map_append, e, List.filter_cons_of_pos (p := fun t => !decide (t ∈ u9)) h9]
        rfl
      · have h9 : ¬ (!inV (.int u5[m]) (u9.map V.int)) = true := h
        rw [inV_i] at h9
        refine ⟨?_, sx, z⟩
        rw [tm, List.filter_append, List.map_append, e, List.filter_cons_of_neg (p := fun t => !decide (t ∈ u9)) h9]
        simp
    rw [List.length_map, List.take_of_length_le (Nat.le_refl _)] at e
    subst e
    have hG2 : Gn ks (xs.map tr) (u5.filter fun t => !decide (t ∈ u9)) := by
      refine ⟨rise5.sublist List.filter_sublist, fun t => ?_⟩
      rw [List.mem_filter, pm5.mem_iff, runs_mem hR, ← pm9.mem_iff]
      simp
    have egs := hG.one hG2
    have s4f := (s4d.trans s11).trans sf
    have zgf := s4f _ _ zg
    refine ⟨g, D2, gs, gs, rfl, rfl, SqL.of zgf, by rw [← egs] at zD2; exact SqL.of zD2, _, rfl, ?_⟩
    rw [decide_eq_true rfl]
    have sBf := s4.trans s4f
    have papf := pap.same s4f
    refine iteF ⟨_, rfl, _, rfl, _, rfl, v', r', d', hh, tp, l, g, o', ad', rs, ks, bs, us', xs, tr, gs, rfl, SqT.of (sBf _ _ zvB), vlB.same sBf, rt, rtw, sBf _ _ zhh, by omega, pmu, mmu, SqT.of (s4f _ _ htp), papf, by omega, zgf, by omega, fun b1 Hk sk hb1 => ⟨b1, true, rfl, rfl, _, rfl, ?_⟩⟩
    rw [hb1.mpr ⟨⟨ms, hR, hro, hsh⟩, hG⟩]
    refine iteF ?_
    -- kept
    have s4k := s4f.trans sk
    have sBk := s4.trans s4k
    have papk := pap.same s4k
    have zgk := s4k _ _ zg
    refine ⟨_, rfl, l, _, rfl, .inl (SqL.of papk.hl), fun kl' hkl => ⟨_, rfl, g, _, rfl, .inl (SqL.of (Same.upd hkl _ _ zgk)), fun kg hkg => ⟨by show 2 ≤ sizeLine; decide, fun kp hkp => ?_⟩⟩⟩
    have sk1 := Same.upd (o := .lst (xs.map V.ref)) hkl
    have sk2 := sk1.trans (Same.upd (o := .lst (gs.map V.int)) hkg)
    have sk3 := sk2.trans (Same.upd (o := .tup [V.ref kl', V.ref kg]) hkp)
    have nkl : kl' ≠ l := Ne.symm (ne_of_none papk.hl hkl)
    have nkg : kl' ≠ g := Ne.symm (ne_of_none zgk hkl)
    have ngl : kg ≠ l := Ne.symm (ne_of_none (sk1 _ _ papk.hl) hkg)
    have ngg : kg ≠ g := Ne.symm (ne_of_none (sk1 _ _ zgk) hkg)
    obtain ⟨Hl, eHl⟩ : ∃ Hl, upd (upd (upd Hk kl' (.lst (xs.map V.ref))) kg (.lst (gs.map V.int))) kp (.tup [V.ref kl', V.ref kg]) = Hl := ⟨_, rfl⟩
    have zkp : Hl kp = some (.tup [.ref kl', .ref kg]) := by rw [← eHl]; exact upd_same
    have zkl : Hl kl' = some (.lst (xs.map V.ref)) := by rw [← eHl]; exact Same.upd hkp _ _ (Same.upd hkg _ _ upd_same)
    have zkg : Hl kg = some (.lst (gs.map V.int)) := by rw [← eHl]; exact Same.upd hkp _ _ upd_same
    rw [eHl] at sk3 ⊢
    have papl := papk.same sk3
    have zgl := sk3 _ _ zgk
    have sBl := sBk.trans sk3
    -- the appends
    refine ⟨_, rfl, .inl ⟨rfl, _, SqL.of papl.hl⟩, by show 3 ≤ sizeLine; decide, fun u hu' => ?_⟩
    have su := Same.upd (o := .tup [V.int 0, V.non, V.int 0]) hu'
    refine ⟨l, _, _, rfl, rfl, su _ _ papl.hl, Nat.lt_of_le_of_lt (show (xs.map V.ref).length ≤ 12 by rw [List.length_map]; exact xl) (by decide), ?_⟩
    have zgu : upd (upd Hl u (.tup [V.int 0, V.non, V.int 0])) l (.lst (xs.map V.ref ++ [V.ref u])) g = some (.lst (gs.map V.int)) := (upd_ne (Ne.symm nlg)).trans (su _ _ zgl)
    refine ⟨_, rfl, .inl ⟨rfl, _, SqL.of zgu⟩, g, _, _, rfl, rfl, zgu, Nat.lt_of_le_of_lt (show (gs.map V.int).length ≤ 12 by rw [List.length_map]; exact gl) (by decide), ?_⟩
    obtain ⟨HM, eHM⟩ : ∃ HM, upd (upd (upd Hl u (.tup [V.int 0, V.non, V.int 0])) l (.lst (xs.map V.ref ++ [V.ref u]))) g (.lst (gs.map V.int ++ [V.int 0])) = HM := ⟨_, rfl⟩
    have keepM : ∀ {c : Addr} {u' : HO}, Hl c = some u' → c ≠ l → c ≠ g → HM c = some u' := fun h1 h2 h3 => by
      rw [← eHM, upd_ne h3, upd_ne h2]
      exact su _ _ h1
    have sBM : Same HB HM := fun c u' q => keepM (sBl c u' q) (ne_of_none q hl) (ne_of_none q hg)
    have zkpM : HM kp = some (.tup [.ref kl', .ref kg]) := keepM zkp (ne_of zkp papl.hl (by intro z; cases z)) (ne_of zkp zgl (by intro z; cases z))
    have zklM : HM kl' = some (.lst (xs.map V.ref)) := keepM zkl nkl nkg
    have zkgM : HM kg = some (.lst (gs.map V.int)) := keepM zkg ngl ngg
    have zxM : ∀ x ∈ xs, HM x = some (.tup (trV (tr x))) := fun x hx => keepM (papl.hx x hx) (ne_of (papl.hx x hx) papl.hl (by intro z; cases z)) (ne_of (papl.hx x hx) zgl (by intro z; cases z))
    show tSeq _ _ _ _ (upd (upd (upd Hl u (.tup [V.int 0, V.non, V.int 0])) l (.lst (xs.map V.ref ++ [V.ref u]))) g (.lst (gs.map V.int ++ [V.int 0])))
    rw [eHM]
    -- once more
    refine ⟨_, rfl, _, rfl, v', r', d', hh, o', ad', rs, ks, bs, us', rfl, SqT.of (sBM _ _ zvB), vlB.same sBM, rt, rtw, sBM _ _ zhh, by omega, pmu, mmu, fun tp2 l2 g2 xs2 tr2 ms2 gs2 HN sN _ _ _ htp2 pap2 _ _ _ zg2 hG3 hpa2 => ?_⟩
    have ets : xs2.map tr2 = xs.map tr := hpa2.trans hpa.symm
    have eg2 : gs2 = gs := by
      rw [ets] at hG3
      exact hG3.one hG
    subst eg2
    have exl : xs2.length = xs.length := by
      have := congrArg List.length ets
      rw [List.length_map, List.length_map] at this
      exact this
    refine ⟨_, rfl, tp2, kp, _, _, rfl, rfl, SqT.of htp2, SqT.of (sN _ _ zkpM), rfl, fun j h1 h2 => ?_, _, rfl, iteF ?_⟩
    · match j, h1 with
      | 0, _ =>
        refine .lst (SqL.of pap2.hl) (SqL.of (sN _ _ zklM)) (by rw [List.length_map, List.length_map, exl]) fun j h1 h2 => ?_
        have hj2 : j < xs2.length := by rw [List.length_map] at h1; exact h1
        have hj : j < xs.length := by omega
        rw [List.getElem_map, List.getElem_map]
        have et : tr2 xs2[j] = tr xs[j] := by
          have h3 : (xs2.map tr2)[j]? = (xs.map tr)[j]? := by rw [ets]
          rw [List.getElem?_map, List.getElem?_map, List.getElem?_eq_getElem hj2, List.getElem?_eq_getElem hj] at h3
          exact Option.some.inj h3
        have hz := pap2.hx xs2[j] (List.getElem_mem hj2)
        rw [et] at hz
        exact deep_same hz (sN _ _ (zxM xs[j] (List.getElem_mem hj)))
      | 1, _ => exact .lst (SqL.of zg2) (SqL.of (sN _ _ zkgM)) rfl fun j h1 h2 => .flat (by rw [List.getElem_map]; rfl)
      | j + 2, h1 => exact absurd (show j + 2 < 2 from h1) (by omega)
    have sBN := sBM.trans sN
    refine ⟨_, rfl, _, rfl, _, rfl, by show 2 ≤ sizeLine; decide, fun tq htq => ?_⟩
    have sq := Same.upd (o := .tup [V.ref r, V.ref d]) htq
    have sBq := sBN.trans sq
    have vlg := vlB.same sBq
    have vcg := vcB.same sBq
    refine ⟨v', tq, r', d', r, d, kvl ad' ks, kvl ad ks, rfl, rfl, SqT.of (sBq _ _ zvB), SqT.of upd_same, deep_list vlg.hr vcg.hr, rd_vw vlg, rd_vw vcg, by unfold kvl; rw [List.length_map, List.length_map], kvl_int, kvl_int, kvl_eq vcg vlg, _, rfl, iteF ?_⟩
    refine ⟨_, rfl, _, rfl, hh, bk, bs, bs, rfl, rfl, SqL.of (sBq _ _ zhh), SqL.of (sBq _ _ zbkB), _, rfl, ?_⟩
    rw [decide_eq_true rfl]
    refine iteF ?_
    -- strange
    obtain ⟨HO', eHO⟩ : ∃ Ho, upd HN tq (.tup [V.ref r, V.ref d]) = Ho := ⟨_, rfl⟩
    rw [eHO] at sq sBq vlg vcg ⊢
    have zkpO := sq _ _ (sN _ _ zkpM)
    refine ⟨_, rfl, a, ns, rfl, sq_same (sq_same hS s1) (s1B.trans sBq), fun n => ⟨10, 40, rfl, rfl, ⟨by decide, by decide, by decide⟩, n, _, rfl, rfl, (by show (0 : Int) < 10 ^ (40 : Int).toNat; decide), _, 3, rfl, rfl, .inr ⟨by decide, by decide⟩, 10, 55, rfl, rfl, ⟨by decide, by decide, by decide⟩, _, _, rfl, rfl, ?_⟩⟩
    have n0 := Int.emod_nonneg n (show (10 : Int) ^ (40 : Int).toNat ≠ 0 by decide)
    have n1 := Int.emod_lt_of_pos n (show (0 : Int) < (10 : Int) ^ (40 : Int).toNat by decide)
    obtain ⟨S, eS⟩ : ∃ S, n % 10 ^ (40 : Int).toNat * 3 + 10 ^ (55 : Int).toNat = S := ⟨_, rfl⟩
    have c40 : (10 : Int) ^ (40 : Int).toNat = 10000000000000000000000000000000000000000 := by decide
    have c55 : (10 : Int) ^ (55 : Int).toNat = 10000000000000000000000000000000000000000000000000000000 := by decide
    have t55 : (10 : Int) ^ 55 = 10000000000000000000000000000000000000000000000000000000 := by decide
    have t60 : (10 : Int) ^ 60 = 1000000000000000000000000000000000000000000000000000000000000 := by decide
    rw [c40] at n0 n1
    have S0 : (10 : Int) ^ 55 ≤ S := by rw [← eS, c40, c55, t55]; omega
    have S1 : S < 10 ^ 60 := by rw [← eS, c40, c55, t60]; omega
    have Sn : S ∉ keys ks := fun h => by have := htop S h; omega
    have Sl : S.natAbs.log2 < 1920 := sml_of (Int.le_trans (by decide) S0) S1
    have kS : ∀ n ∈ keys ks, n.natAbs.log2 < 1920 := fun n h => by
      obtain ⟨p, hp, e⟩ := List.mem_map.mp h
      have h0 := rt.pos p hp
      rw [e] at h0
      exact sml_of h0 (Int.lt_trans (htop n h) (by decide))
    have srs : Sml rs := fun n h => kS n (rt.ri n h)
    have sfs : ∀ p ∈ ks, Sml p.2 := fun p hp n h => kS n (rt.fi p hp n h)
    have sbs : ∀ b ∈ bs, b.natAbs.log2 < 1920 := fun b h => kS b (hbk b h)
    show tSeq _ _ _ [some (.ref a), some (.ref r), some (.ref d), some (.ref bk), none, some (.ref v'), some (.ref hh), some (.ref tp), some (.ref l), some (.ref g), some (.ref wd), some (.ref du), some (.ref kp), some (.int (n % 10 ^ (40 : Int).toNat * 3 + 10 ^ (55 : Int).toNat)), none, none, none] _
    rw [eS]
    -- bad
    refine ⟨_, rfl, _, rfl, by show 1 ≤ sizeLine; decide, fun q1 hq1 => ⟨r, q1, rs.map oV, [some S].map oV, rfl, rfl, Same.upd hq1 _ _ vcg.hr, upd_same, Nat.le_trans (show (rs.map oV).length + 1 ≤ 40 by rw [List.length_map]; omega) (by decide), fun rb hrb => ?_⟩⟩
    rw [← List.map_append]
    refine ⟨_, rfl, by show 2 ≤ sizeLine; decide, fun yb hyb => ⟨by show 1 ≤ sizeLine; decide, fun bd hbd => ?_⟩⟩
    have sb1 := Same.upd (o := .lst [V.int S]) hq1
    have sb2 := Same.upd (o := .lst ((rs ++ [some S]).map oV)) hrb
    have sb3 := Same.upd (o := .tup [V.ref rb, V.ref d]) hyb
    have sb4 := Same.upd (o := .lst [V.ref yb]) hbd
    have sO4 := ((sb1.trans sb2).trans sb3).trans sb4
    have vcb := vcg.same sO4
    have hbd0 : HO' bd = none := ((sb1.trans sb2).trans sb3).free hbd
    have bv0 : BV (upd (upd (upd (upd HO' q1 (.lst [V.int S])) rb (.lst ((rs ++ [some S]).map oV))) yb (.tup [V.ref rb, V.ref d])) bd (.lst [V.ref yb])) bd bs yb := by
      refine ⟨rb, d, o, ad, rs ++ [some S], ks, sb4 _ _ upd_same, ⟨sb4 _ _ (sb3 _ _ upd_same), vcb.hd, vcb.hl⟩, ⟨rt.pos, fun n hn => ?_, sfs, sbs, rt.nd, by rw [List.length_append, List.length_singleton]; omega, by omega, fun ⟨h1, _⟩ => Sn (h1 S (List.mem_append_right _ (List.mem_singleton.mpr rfl)))⟩, ne_of_none (sb3 _ _ upd_same) hbd, fun p hp => ne_of_none (vcg.hl p hp) hbd0⟩
      rcases List.mem_append.mp hn with g | g
      · exact srs n g
      · injection (List.mem_singleton.mp g) with g
        rw [g]; exact Sl
    obtain ⟨HP, eHP⟩ : ∃ HP, upd (upd (upd (upd HO' q1 (.lst [V.int S])) rb (.lst ((rs ++ [some S]).map oV))) yb (.tup [V.ref rb, V.ref d])) bd (.lst [V.ref yb]) = HP := ⟨_, rfl⟩
    have zbd : HP bd = some (.lst [V.ref yb]) := by rw [← eHP]; exact upd_same
    show gName 14 (V.ref bd) _ (upd (upd (upd (upd HO' q1 (.lst [V.int S])) rb (.lst ((rs ++ [some S]).map oV))) yb (.tup [V.ref rb, V.ref d])) bd (.lst [V.ref yb])) _
    rw [eHP] at sO4 vcb bv0 ⊢
    -- the loop over the first thing
    refine ⟨_, rfl, d, kvl ad ks, keys ks, rfl, rd_vw vcb, kvl_keys ad ks, by omega, fun q5 u5 hq5 pm5 pw5 => ⟨_, rfl, q5, _, rfl, SqL.of upd_same, fun q6 hq6 => ?_⟩⟩
    obtain ⟨c6, e6, _, m6, l6⟩ := cut_mem u5 none (some 1)
    have l6' : c6.length ≤ 12 := Nat.le_trans l6 (by rw [pm5.length_eq]; omega)
    rw [e6]
    have t1 := (Same.upd (o := .lst (u5.map V.int)) hq5).trans (Same.upd (o := .lst (c6.map V.int)) hq6)
    have n6 : q6 ≠ bd := Ne.symm (ne_of_none (Same.upd hq5 _ _ zbd) hq6)
    obtain ⟨HQ, eHQ⟩ : ∃ HQ, upd (upd HP q5 (.lst (u5.map V.int))) q6 (.lst (c6.map V.int)) = HQ := ⟨_, rfl⟩
    have zq6 : HQ q6 = some (.lst (c6.map V.int)) := by rw [← eHQ]; exact upd_same
    rw [eHQ] at t1 ⊢
    refine ⟨q6, rfl, ⟨_, SqL.of zq6⟩, for_list (K := K) (a := q6) (xs := c6.map V.int) (fun i σ Hx => ∃ (v4 v15 : Option V) (ys : List Addr), σ = [some (.ref a), some (.ref r), some (.ref d), some (.ref bk), v4, some (.ref v'), some (.ref hh), some (.ref tp), some (.ref l), some (.ref g), some (.ref wd), some (.ref du), some (.ref kp), some (.int S), some (.ref bd), v15, none] ∧ Same HO' Hx ∧ Hx q6 = some (.lst (c6.map V.int)) ∧ Hx bd = some (.lst (ys.map V.ref)) ∧ (∀ y ∈ ys, BV Hx bd bs y) ∧ ys.length ≤ 1 + i)
      ⟨none, none, [yb], rfl, sO4.trans t1, zq6, t1 _ _ zbd, (fun y hy => by rw [List.mem_singleton.mp hy]; exact bv0.same t1), Nat.le_refl _⟩ (fun i σ Hx _ ⟨_, _, _, _, _, z, _⟩ => SqL.of z) ?_ ?_⟩
    · rintro i x σ Hx hx ⟨v4, v15, ys, rfl, sx, z6, zb, hys, yl⟩
      have hi : i < c6.length := by have := (List.getElem?_eq_some_iff.mp hx).1; rwa [List.length_map] at this
      rw [List.getElem?_map] at hx
      obtain ⟨t, ht, rfl⟩ := Option.map_eq_some_iff.mp hx
      have hin : t ∈ keys ks := pm5.mem_iff.mp (m6 t (List.mem_of_getElem? ht))
      obtain ⟨p, hp, ep⟩ := List.mem_map.mp hin
      subst ep
      have vx := vcg.same sx
      refine ⟨_, rfl, d, o, _, rfl, vx.hd, fun D hD => dict_copy vx rt.nd kl hD fun ps ad2 Hb sb zD hpr hls => ?_⟩
      refine ⟨D, ps, kvl ad2 ks, rfl, zD, hpr, kvl_nodup rt.nd, fun dw hdw => ?_⟩
      have w0 := Same.upd (o := .dK (kvl ad2 ks)) hdw
      refine ⟨_, rfl, by show 1 ≤ sizeLine; decide, fun q7 hq7 => ?_⟩
      have w1 := Same.upd (o := .lst [V.int S]) hq7
      have dg : DGet (upd (upd Hb dw (.dK (kvl ad2 ks))) q7 (.lst [V.int S])) dw (.int p.1) (some (V.ref (ad2 p.1))) := by
        have := DGet.k (k := Sum.inl p.1) (w1 _ _ (upd_same (H := Hb) (a := dw) (o := .dK (kvl ad2 ks))))
        rw [val_kvl, if_pos hin] at this
        exact this
      refine ⟨_, rfl, _, rfl, dw, _, rfl, dg, _, rfl, ad2 p.1, _, rfl, SqL.of (w1 _ _ (w0 _ _ (hls p hp).1)), fun q8 hq8 => ?_⟩
      obtain ⟨cs, ec, lc, mc⟩ := cut_oV p.2 (some 1) none
      rw [ec]
      have w2 := Same.upd (o := .lst (cs.map oV)) hq8
      refine ⟨q7, q8, [some S].map oV, cs.map oV, rfl, rfl, w2 _ _ upd_same, upd_same, Nat.le_trans (show 1 + (cs.map oV).length ≤ 40 by have := rt.fl p hp; rw [List.length_map]; omega) (by decide), fun q9 hq9 => ?_⟩
      rw [← List.map_append]
      have w3 := Same.upd (o := .lst (([some S] ++ cs).map oV)) hq9
      have w13 := (w1.trans w2).trans w3
      have w03 := w0.trans w13
      have zdw9 := w13 _ _ (upd_same (H := Hb) (a := dw) (o := .dK (kvl ad2 ks)))
      have z9 : upd (upd (upd (upd Hb dw (.dK (kvl ad2 ks))) q7 (.lst [V.int S])) q8 (.lst (cs.map oV))) q9 (.lst (([some S] ++ cs).map oV)) q9 = some (.lst (([some S] ++ cs).map oV)) := upd_same
      have zbb := sb _ _ zb
      have nq9 : q9 ≠ bd := Ne.symm (ne_of_none ((w1.trans w2) _ _ (w0 _ _ zbb)) hq9)
      obtain ⟨H9, e9⟩ : ∃ H9, upd (upd (upd (upd Hb dw (.dK (kvl ad2 ks))) q7 (.lst [V.int S])) q8 (.lst (cs.map oV))) q9 (.lst (([some S] ++ cs).map oV)) = H9 := ⟨_, rfl⟩
      rw [e9] at w03 zdw9 z9
      refine ⟨_, rfl, _, rfl, dw, _, rfl, DPut.k (k := Sum.inl p.1) (by rw [e9]; exact zdw9) (Nat.lt_of_le_of_lt (show (kvl ad2 ks).length ≤ 12 by unfold kvl; rw [List.length_map]; exact kl) (by decide)), ?_⟩
      rw [e9, kvl_put hin]
      obtain ⟨ad3, ea3⟩ : ∃ ad3 : Int → Addr, (fun k => if k = p.1 then q9 else ad2 k) = ad3 := ⟨_, rfl⟩
      rw [ea3]
      obtain ⟨HD, eHD⟩ : ∃ HD, upd H9 dw (.dK (kvl ad3 ks)) = HD := ⟨_, rfl⟩
      have sD : Same Hb HD := fun c u q => by
        rw [← eHD, upd_ne (ne_of_none q hdw)]
        exact w03 c u q
      have zdD : HD dw = some (.dK (kvl ad3 ks)) := by rw [← eHD]; exact upd_same
      have nq9d : q9 ≠ dw := ne_of z9 zdw9 (by intro z; cases z)
      have z9D : HD q9 = some (.lst (([some S] ++ cs).map oV)) := by rw [← eHD, upd_ne nq9d]; exact z9
      rw [eHD]
      have sxD := sb.trans sD
      have zbD := sxD _ _ zb
      refine ⟨_, rfl, .inl ⟨rfl, _, SqL.of zbD⟩, _, rfl, r, _, rfl, .inl (SqL.of (sxD _ _ vx.hr)), fun r3 hr3 => ⟨_, rfl, by show 2 ≤ sizeLine; decide, fun y3 hy3 => ?_⟩⟩
      have x1 := Same.upd (o := .lst (rs.map oV)) hr3
      have x2 := Same.upd (o := .tup [V.ref r3, V.ref dw]) hy3
      have x12 := x1.trans x2
      refine ⟨dw, kvl ad3 ks, x12 _ _ zdD, fun o3 => ?_⟩
      obtain ⟨HF, eHF⟩ : ∃ HF, upd (upd (upd HD r3 (.lst (rs.map oV))) y3 (.tup [V.ref r3, V.ref dw])) dw (.frz o3 (.dK (kvl ad3 ks))) = HF := ⟨_, rfl⟩
      have kF : ∀ {c : Addr} {u : HO}, HD c = some u → c ≠ dw → HF c = some u := fun h1 h2 => by
        rw [← eHF, upd_ne h2]
        exact x12 _ _ h1
      have sF : Same Hb HF := fun c u q => kF (sD c u q) (ne_of_none q hdw)
      have sxF := sb.trans sF
      have zyF : HF y3 = some (.tup [.ref r3, .ref dw]) := by
        rw [← eHF, upd_ne (Ne.symm (ne_of_none (x1 _ _ zdD) hy3)), upd_same]
      have zrF : HF r3 = some (.lst (rs.map oV)) := by
        rw [← eHF, upd_ne (Ne.symm (ne_of_none zdD hr3))]
        exact x2 _ _ upd_same
      have zdF : HF dw = some (.frz o3 (.dK (kvl ad3 ks))) := by rw [← eHF]; exact upd_same
      have zbF := sxF _ _ zb
      rw [eHF]
      have a3 : ad3 p.1 = q9 := by rw [← ea3]; exact if_pos rfl
      have a3' : ∀ n, n ≠ p.1 → ad3 n = ad2 n := fun n h => by rw [← ea3]; exact if_neg h
      have bvn : BV HF bd bs y3 := by
        refine ⟨r3, dw, o3, ad3, rs, setFs ks p.1 ([some S] ++ cs), zyF, ⟨zrF, by rw [setFs_kvl]; exact zdF, fun q hq => ?_⟩, ⟨fun q hq => ?_, srs, fun q hq => ?_, sbs, by rw [setFs_keys]; exact rt.nd, rt.rl, by omega, fun ⟨_, _, h⟩ => Sn ?_⟩, Ne.symm (ne_of_none zbD hr3), fun q hq => ?_⟩
        · obtain ⟨p', hp', rfl⟩ := List.mem_map.mp hq
          by_cases e : p'.1 = p.1
          · rw [if_pos e]
            show HF (ad3 p'.1) = _
            rw [e, a3]
            exact kF z9D nq9d
          · rw [if_neg e, a3' _ e]
            exact sF _ _ (hls p' hp').1
        · obtain ⟨p', hp', rfl⟩ := List.mem_map.mp hq
          by_cases e : p'.1 = p.1
          · rw [if_pos e]
            exact rt.pos p' hp'
          · rw [if_neg e]
            exact rt.pos p' hp'
        · obtain ⟨p', hp', rfl⟩ := List.mem_map.mp hq
          by_cases e : p'.1 = p.1
          · rw [if_pos e]
            intro n hn
            rcases List.mem_append.mp hn with g | g
            · injection (List.mem_singleton.mp g) with g
              rw [g]; exact Sl
            · exact sfs p hp n (mc _ g)
          · rw [if_neg e]
            exact sfs p' hp'
        · rw [← setFs_keys ks p.1 ([some S] ++ cs)]
          exact h (p.1, [some S] ++ cs) (List.mem_map.mpr ⟨p, hp, if_pos rfl⟩) S (List.mem_append_left _ (List.mem_singleton.mpr rfl))
        · obtain ⟨p', hp', rfl⟩ := List.mem_map.mp hq
          by_cases e : p'.1 = p.1
          · rw [if_pos e]
            show ad3 p'.1 ≠ bd
            rw [e, a3]
            exact nq9
          · rw [if_neg e, a3' _ e]
            exact Ne.symm (ne_of_none zb (hls p' hp').2)
      refine ⟨bd, _, _, rfl, rfl, zbF, Nat.lt_of_le_of_lt (show (ys.map V.ref).length ≤ 13 by rw [List.length_map]; omega) (by decide), some (.int p.1), some (.ref dw), ys ++ [y3], rfl, fun c u q => (upd_ne (ne_of_none q hbd0)).trans (sxF _ _ (sx _ _ q)), (upd_ne n6).trans (sxF _ _ z6), by rw [List.map_append]; exact upd_same, fun y hy => ?_, by rw [List.length_append, List.length_singleton]; omega⟩
      rcases List.mem_append.mp hy with g | g
      · exact ((hys y g).same sxF).upd zbF
      · rw [List.mem_singleton.mp g]
        exact bvn.upd zbF
    · rintro σ Hy ⟨v4, v15, ys, rfl, sx, z6, zb, hys, yl⟩
      have sBy := sBq.trans sx
      refine ⟨_, rfl, bd, rfl, ⟨_, SqL.of zb⟩, for_list (K := K) (a := bd) (xs := ys.map V.ref) (fun i σ Hz => ∃ (v16 : Option V), σ = [some (.ref a), some (.ref r), some (.ref d), some (.ref bk), v4, some (.ref v'), some (.ref hh), some (.ref tp), some (.ref l), some (.ref g), some (.ref wd), some (.ref du), some (.ref kp), some (.int S), some (.ref bd), v15, v16] ∧ Same Hy Hz)
        ⟨none, rfl, Same.refl _⟩ (fun i σ Hz _ ⟨_, _, s⟩ => SqL.of (s _ _ zb)) ?_ ?_⟩
      · rintro i x σ Hz hx ⟨v16, rfl, sz⟩
        rw [List.getElem?_map] at hx
        obtain ⟨y, hy, rfl⟩ := Option.map_eq_some_iff.mp hx
        obtain ⟨r2, d2, o2, ad2, rs2, ks2, h1, h2, h3, _⟩ := (hys y (List.mem_of_getElem? hy)).same sz
        refine ⟨_, rfl, _, rfl, bk, _, rfl, .inl (SqL.of (sz _ _ (sBy _ _ zbkB))), fun q hq => ?_⟩
        have sq' := Same.upd (o := .lst (bs.map V.int)) hq
        refine ⟨_, rfl, y, r2, d2, q, kp, .ref kl', .ref kg, o2, ad2, rs2, ks2, bs, rfl, SqT.of (sq' _ _ h1), h2.same sq', upd_same, SqT.of (sq' _ _ (sz _ _ (sx _ _ zkpO))), h3, fun H' s' => ⟨_, rfl, iteF ⟨_, rfl, (sz.trans sq').trans s'⟩⟩⟩
      · rintro σ Hz ⟨v16, rfl, sz⟩
        have sBz := sBy.trans sz
        have zkpz := sz _ _ (sx _ _ zkpO)
        have bad : ∀ cs : List Int, (∀ c ∈ cs, c ∈ bs ∨ c = S) → S ∈ cs → cs.length ≤ 20 → BadP rs ks cs := fun cs h1 h2 h3 => ⟨rt.pos, srs, sfs, fun b hb => (h1 b hb).elim (sbs b) (fun e => by rw [e]; exact Sl), rt.nd, rt.rl, h3, fun ⟨_, h, _⟩ => Sn (h S h2)⟩
        refine ⟨_, rfl, _, rfl, _, rfl, by show 1 ≤ sizeLine; decide, fun q1 hq1 => ⟨bk, q1, bs.map V.int, [S].map V.int, rfl, rfl, Same.upd hq1 _ _ (sBz _ _ zbkB), upd_same, Nat.le_trans (show (bs.map V.int).length + 1 ≤ 40 by rw [List.length_map]; omega) (by decide), fun q2 hq2 => ?_⟩⟩
        rw [← List.map_append]
        have y12 := (Same.upd (o := .lst [V.int S]) hq1).trans (Same.upd (o := .lst ((bs ++ [S]).map V.int)) hq2)
        have sB2 := sBz.trans y12
        refine ⟨_, rfl, v', r', d', q2, kp, .ref kl', .ref kg, o', ad', rs, ks, bs ++ [S], rfl, SqT.of (sB2 _ _ zvB), vlB.same sB2, upd_same, SqT.of (y12 _ _ zkpz), bad _ (fun c hc => (List.mem_append.mp hc).imp id List.mem_singleton.mp) (List.mem_append_right _ (List.mem_singleton.mpr rfl)) (by rw [List.length_append, List.length_singleton]; omega), fun H' s' => ⟨_, rfl, ?_⟩⟩
        rw [if_pos rfl]
        have sB3 := sB2.trans s'
        refine ⟨_, rfl, _, rfl, by show 1 ≤ sizeLine; decide, fun q3 hq3 => ⟨_, rfl, q3, bk, [S].map V.int, bs.map V.int, rfl, rfl, upd_same, Same.upd hq3 _ _ (sB3 _ _ zbkB), Nat.le_trans (show 1 + (bs.map V.int).length ≤ 40 by rw [List.length_map]; omega) (by decide), fun q4 hq4 => ?_⟩⟩
        rw [← List.map_append]
        have y34 := (Same.upd (o := .lst [V.int S]) hq3).trans (Same.upd (o := .lst (([S] ++ bs).map V.int)) hq4)
        have sB4 := sB3.trans y34
        exact ⟨_, rfl, v', r', d', q4, kp, .ref kl', .ref kg, o', ad', rs, ks, [S] ++ bs, rfl, SqT.of (sB4 _ _ zvB), vlB.same sB4, upd_same, SqT.of (y34 _ _ (s' _ _ (y12 _ _ zkpz))), bad _ (fun c hc => (List.mem_append.mp hc).symm.imp id List.mem_singleton.mp) (List.mem_append_left _ (List.mem_singleton.mpr rfl)) (by rw [List.length_append, List.length_singleton]; omega), fun H'' s'' => k _⟩
end
end K70
end
section
set_option Elab.async false
set_option linter.all false
set_option maxRecDepth 100000
set_option maxHeartbeats 4000000
set_option exponentiation.threshold 4000
namespace K70
open PySem L2 LX
theorem all_mk {l : PySem.W.OpenLaw} {w : World} {K : PySem.W.Frag} {h : Heap} {mg : Str → Option Value} {fa CH dB f1 f2 f3 f4 f5 f6 f8 f7 f9 f10 f11 f12 f13 f14 f15 f17 f18 f19 f20 f16 fXI : Addr} (X : K.In h) (G : h.Ns mainGlobals mg) (hfa : mg "law" = some (.ref fa))
    {od1 an1 od2 an2 od3 an3 od4 an4 od5 an5 od6 an6 od8 an8 od7 an7 od9 an9 od10 an10 od11 an11 od12 an12 od13 an13 od14 an14 od15 an15 od17 an17 od18 an18 od19 an19 od20 an20 od16 an16 odXI anXI : Option Addr} {sl1 sl2 sl3 sl4 sl5 sl6 sl8 sl7 sl9 sl10 sl11 sl12 sl13 sl14 sl15 sl17 sl18 sl19 sl20 sl16 slXI : Array (Option Value)} {oc1 kV1 dc1 pm1 cd1 ct1 oc2 kV2 dc2 pm2 cd2 ct2 oc3 kV3 dc3 pm3 cd3 ct3 oc4 kV4 dc4 pm4 cd4 ct4 oc5 kV5 dc5 pm5 cd5 ct5 oc6 kV6 dc6 pm6 cd6 ct6 oc8 kV8 dc8 pm8 cd8 ct8 oc7 kV7 dc7 pm7 cd7 ct7 oc9 kV9 dc9 pm9 cd9 ct9 oc10 kV10 dc10 pm10 cd10 ct10 oc11 kV11 dc11 pm11 cd11 ct11 oc12 kV12 dc12 pm12 cd12 ct12 oc13 kV13 dc13 pm13 cd13 ct13 oc14 kV14 dc14 pm14 cd14 ct14 oc15 kV15 dc15 pm15 cd15 ct15 oc17 kV17 dc17 pm17 cd17 ct17 oc18 kV18 dc18 pm18 cd18 ct18 oc19 kV19 dc19 pm19 cd19 ct19 oc20 kV20 dc20 pm20 cd20 ct20 oc16 kV16 dc16 pm16 cd16 ct16 ocXI kVXI dcXI pmXI cdXI ctXI : Value}
    (nCH : PySem.W.nsIn K mainGlobals "HeapError" = some (some (.ref CH)))
    (ndB : PySem.W.nsIn K mainGlobals "BadView" = some (some (.ref dB)))
    (xH : xclsIn K CH = true)
    (xB : xclsIn K dB = true)
    (ga : PySem.W.findIn K (.ref dB) "__getattribute__" = some (some (.builtin "BaseException.__getattribute__")))
    (gt : PySem.W.findIn K (.ref dB) "__getattr__" = some none)
    (gc : PySem.W.findIn K (.ref dB) "__class__" = some (some (.builtin "object.__class__")))
    (ii : PySem.W.findIn K (.ref dB) "__init__" = some (some (.ref fXI)))
    (kc : PySem.W.keepIn K (.ref dB) = true)
    (fi : PySem.W.isFn K (.ref fXI) = true)
    (fv : PySem.W.kitOne K (.ref dB) (.type "ValueError") = some true)
    (sb : PySem.W.mroIn K dB (.ref CH) = some true)
    (lXI : K.lookup fXI = some ⟨ocXI, odXI, .func (PySem.W.fnOf "__init__" "HeapError.__init__" (defArgs sXI) (defBody sXI) (defScope sXI) .none kVXI dcXI pmXI anXI cdXI ctXI), slXI⟩)
    (cXI : PySem.W.codeIn K cdXI "HeapError.__init__" = true)
    (kXI : PySem.W.keepIn K (.ref fXI) = true)
    (a1 : PySem.W.nsIn K mainGlobals "paper_judged" = some (some (.ref f1)))
    (l1 : K.lookup f1 = some ⟨oc1, od1, .func (PySem.W.fnOf "paper_judged" "paper_judged" (defArgs sJudged) (defBody sJudged) (defScope sJudged) .none kV1 dc1 pm1 an1 cd1 ct1), sl1⟩)
    (c1 : PySem.W.codeIn K cd1 "paper_judged" = true)
    (k1 : PySem.W.keepIn K (.ref f1) = true)
    (a2 : PySem.W.nsIn K mainGlobals "closed_in" = some (some (.ref f2)))
    (l2 : K.lookup f2 = some ⟨oc2, od2, .func (PySem.W.fnOf "closed_in" "closed_in" (defArgs sIn) (defBody sIn) (defScope sIn) .none kV2 dc2 pm2 an2 cd2 ct2), sl2⟩)
    (c2 : PySem.W.codeIn K cd2 "closed_in" = true)
    (k2 : PySem.W.keepIn K (.ref f2) = true)
    (a3 : PySem.W.nsIn K mainGlobals "look_at_view" = some (some (.ref f3)))
    (l3 : K.lookup f3 = some ⟨oc3, od3, .func (PySem.W.fnOf "look_at_view" "look_at_view" (defArgs sLook) (defBody sLook) (defScope sLook) .none kV3 dc3 pm3 an3 cd3 ct3), sl3⟩)
    (c3 : PySem.W.codeIn K cd3 "look_at_view" = true)
    (k3 : PySem.W.keepIn K (.ref f3) = true)
    (a4 : PySem.W.nsIn K mainGlobals "look_at_told" = some (some (.ref f4)))
    (l4 : K.lookup f4 = some ⟨oc4, od4, .func (PySem.W.fnOf "look_at_told" "look_at_told" (defArgs sLTold) (defBody sLTold) (defScope sLTold) .none kV4 dc4 pm4 an4 cd4 ct4), sl4⟩)
    (c4 : PySem.W.codeIn K cd4 "look_at_told" = true)
    (k4 : PySem.W.keepIn K (.ref f4) = true)
    (a5 : PySem.W.nsIn K mainGlobals "tells_within" = some (some (.ref f5)))
    (l5 : K.lookup f5 = some ⟨oc5, od5, .func (PySem.W.fnOf "tells_within" "tells_within" (defArgs sWithin) (defBody sWithin) (defScope sWithin) .none kV5 dc5 pm5 an5 cd5 ct5), sl5⟩)
    (c5 : PySem.W.codeIn K cd5 "tells_within" = true)
    (k5 : PySem.W.keepIn K (.ref f5) = true)
    (a6 : PySem.W.nsIn K mainGlobals "is_step" = some (some (.ref f6)))
    (l6 : K.lookup f6 = some ⟨oc6, od6, .func (PySem.W.fnOf "is_step" "is_step" (defArgs sStep) (defBody sStep) (defScope sStep) .none kV6 dc6 pm6 an6 cd6 ct6), sl6⟩)
    (c6 : PySem.W.codeIn K cd6 "is_step" = true)
    (k6 : PySem.W.keepIn K (.ref f6) = true)
    (a8 : PySem.W.nsIn K mainGlobals "tells_at" = some (some (.ref f8)))
    (l8 : K.lookup f8 = some ⟨oc8, od8, .func (PySem.W.fnOf "tells_at" "tells_at" (defArgs sTells) (defBody sTells) (defScope sTells) .none kV8 dc8 pm8 an8 cd8 ct8), sl8⟩)
    (c8 : PySem.W.codeIn K cd8 "tells_at" = true)
    (k8 : PySem.W.keepIn K (.ref f8) = true)
    (a7 : PySem.W.nsIn K mainGlobals "round_judged" = some (some (.ref f7)))
    (l7 : K.lookup f7 = some ⟨oc7, od7, .func (PySem.W.fnOf "round_judged" "round_judged" (defArgs sRound) (defBody sRound) (defScope sRound) .none kV7 dc7 pm7 an7 cd7 ct7), sl7⟩)
    (c7 : PySem.W.codeIn K cd7 "round_judged" = true)
    (k7 : PySem.W.keepIn K (.ref f7) = true)
    (a9 : PySem.W.nsIn K mainGlobals "rooted_view" = some (some (.ref f9)))
    (l9 : K.lookup f9 = some ⟨oc9, od9, .func (PySem.W.fnOf "rooted_view" "rooted_view" (defArgs sRooted) (defBody sRooted) (defScope sRooted) .none kV9 dc9 pm9 an9 cd9 ct9), sl9⟩)
    (c9 : PySem.W.codeIn K cd9 "rooted_view" = true)
    (k9 : PySem.W.keepIn K (.ref f9) = true)
    (a10 : PySem.W.nsIn K mainGlobals "things_without" = some (some (.ref f10)))
    (l10 : K.lookup f10 = some ⟨oc10, od10, .func (PySem.W.fnOf "things_without" "things_without" (defArgs sWithout) (defBody sWithout) (defScope sWithout) .none kV10 dc10 pm10 an10 cd10 ct10), sl10⟩)
    (c10 : PySem.W.codeIn K cd10 "things_without" = true)
    (k10 : PySem.W.keepIn K (.ref f10) = true)
    (a11 : PySem.W.nsIn K mainGlobals "_law_codes" = some (some (.ref f11)))
    (l11 : K.lookup f11 = some ⟨oc11, od11, .func (PySem.W.fnOf "_law_codes" "_law_codes" (defArgs sCodes) (defBody sCodes) (defScope sCodes) .none kV11 dc11 pm11 an11 cd11 ct11), sl11⟩)
    (c11 : PySem.W.codeIn K cd11 "_law_codes" = true)
    (k11 : PySem.W.keepIn K (.ref f11) = true)
    (a12 : PySem.W.nsIn K mainGlobals "_law_picked" = some (some (.ref f12)))
    (l12 : K.lookup f12 = some ⟨oc12, od12, .func (PySem.W.fnOf "_law_picked" "_law_picked" (defArgs sPicked) (defBody sPicked) (defScope sPicked) .none kV12 dc12 pm12 an12 cd12 ct12), sl12⟩)
    (c12 : PySem.W.codeIn K cd12 "_law_picked" = true)
    (k12 : PySem.W.keepIn K (.ref f12) = true)
    (a13 : PySem.W.nsIn K mainGlobals "_law_view" = some (some (.ref f13)))
    (l13 : K.lookup f13 = some ⟨oc13, od13, .func (PySem.W.fnOf "_law_view" "_law_view" (defArgs sView) (defBody sView) (defScope sView) .none kV13 dc13 pm13 an13 cd13 ct13), sl13⟩)
    (c13 : PySem.W.codeIn K cd13 "_law_view" = true)
    (k13 : PySem.W.keepIn K (.ref f13) = true)
    (a14 : PySem.W.nsIn K mainGlobals "last_steps" = some (some (.ref f14)))
    (l14 : K.lookup f14 = some ⟨oc14, od14, .func (PySem.W.fnOf "last_steps" "last_steps" (defArgs sSteps) (defBody sSteps) (defScope sSteps) .none kV14 dc14 pm14 an14 cd14 ct14), sl14⟩)
    (c14 : PySem.W.codeIn K cd14 "last_steps" = true)
    (k14 : PySem.W.keepIn K (.ref f14) = true)
    (a15 : PySem.W.nsIn K mainGlobals "reach_paper" = some (some (.ref f15)))
    (l15 : K.lookup f15 = some ⟨oc15, od15, .func (PySem.W.fnOf "reach_paper" "reach_paper" (defArgs sReach) (defBody sReach) (defScope sReach) .none kV15 dc15 pm15 an15 cd15 ct15), sl15⟩)
    (c15 : PySem.W.codeIn K cd15 "reach_paper" = true)
    (k15 : PySem.W.keepIn K (.ref f15) = true)
    (a17 : PySem.W.nsIn K mainGlobals "round_paper" = some (some (.ref f17)))
    (l17 : K.lookup f17 = some ⟨oc17, od17, .func (PySem.W.fnOf "round_paper" "round_paper" (defArgs sPaper) (defBody sPaper) (defScope sPaper) .none kV17 dc17 pm17 an17 cd17 ct17), sl17⟩)
    (c17 : PySem.W.codeIn K cd17 "round_paper" = true)
    (k17 : PySem.W.keepIn K (.ref f17) = true)
    (a18 : PySem.W.nsIn K mainGlobals "_law_reached" = some (some (.ref f18)))
    (l18 : K.lookup f18 = some ⟨oc18, od18, .func (PySem.W.fnOf "_law_reached" "_law_reached" (defArgs sReached) (defBody sReached) (defScope sReached) .none kV18 dc18 pm18 an18 cd18 ct18), sl18⟩)
    (c18 : PySem.W.codeIn K cd18 "_law_reached" = true)
    (k18 : PySem.W.keepIn K (.ref f18) = true)
    (a19 : PySem.W.nsIn K mainGlobals "_law_steps_right" = some (some (.ref f19)))
    (l19 : K.lookup f19 = some ⟨oc19, od19, .func (PySem.W.fnOf "_law_steps_right" "_law_steps_right" (defArgs sRight) (defBody sRight) (defScope sRight) .none kV19 dc19 pm19 an19 cd19 ct19), sl19⟩)
    (c19 : PySem.W.codeIn K cd19 "_law_steps_right" = true)
    (k19 : PySem.W.keepIn K (.ref f19) = true)
    (a20 : PySem.W.nsIn K mainGlobals "_law_refused" = some (some (.ref f20)))
    (l20 : K.lookup f20 = some ⟨oc20, od20, .func (PySem.W.fnOf "_law_refused" "_law_refused" (defArgs sRef) (defBody sRef) (defScope sRef) .none kV20 dc20 pm20 an20 cd20 ct20), sl20⟩)
    (c20 : PySem.W.codeIn K cd20 "_law_refused" = true)
    (k20 : PySem.W.keepIn K (.ref f20) = true)
    (a16 : PySem.W.nsIn K mainGlobals "law" = some (some (.ref f16)))
    (l16 : K.lookup f16 = some ⟨oc16, od16, .func (PySem.W.fnOf "law" "law" (defArgs sLaw) (defBody sLaw) (defScope sLaw) .none kV16 dc16 pm16 an16 cd16 ct16), sl16⟩)
    (c16 : PySem.W.codeIn K cd16 "law" = true)
    (k16 : PySem.W.keepIn K (.ref f16) = true)
    (z_isinstance : PySem.W.nsIn K mainGlobals "isinstance" = some none)
    (z_bool : PySem.W.nsIn K mainGlobals "bool" = some none)
    (z_int : PySem.W.nsIn K mainGlobals "int" = some none)
    (z_list : PySem.W.nsIn K mainGlobals "list" = some none)
    (z_len : PySem.W.nsIn K mainGlobals "len" = some none)
    (z_range : PySem.W.nsIn K mainGlobals "range" = some none)
    (z_sorted : PySem.W.nsIn K mainGlobals "sorted" = some none)
    (z_set : PySem.W.nsIn K mainGlobals "set" = some none)
    (z_enumerate : PySem.W.nsIn K mainGlobals "enumerate" = some none)
    (z_all : PySem.W.nsIn K mainGlobals "all" = some none)
    (z_dict : PySem.W.nsIn K mainGlobals "dict" = some none)
    (z_sum : PySem.W.nsIn K mainGlobals "sum" = some none)
    (z_tuple : PySem.W.nsIn K mainGlobals "tuple" = some none)
    (z_ValueError : PySem.W.nsIn K mainGlobals "ValueError" = some none) :
    ∃ fd : FuncData, (∀ (s : Shared) (v : Value), BindsTo s fd ⟨[v], []⟩ [("script", v)]) ∧ ∀ base : Heap, K.In base → base.Ns mainGlobals mg → FnOk l.prog w K mg base (CXE l.prog w) 8 fa fd ["script"] (spLaw K) := by
  have e := hfa.symm.trans (PySem.W.mg_of X G a16)
  cases e
  have m := fun {n : Str} {v : Value} (q : PySem.W.nsIn K mainGlobals n = some (some v)) => PySem.W.mg_of X G q
  have z := fun {n : Str} (q : PySem.W.nsIn K mainGlobals n = some none) => PySem.W.mg_none_of X G q
  obtain ⟨cdH, _, yH⟩ := xcls_of xH
  obtain ⟨cx, hcx, yB⟩ := xcls_of xB
  have su : ∃ cd, XCls K dB cd ∧ cd.mro.contains (.ref CH) = true := ⟨cx, yB, by
    unfold PySem.W.mroIn at sb
    rw [hcx, Option.bind_some, if_neg (by rw [yB.notEmpty]; decide)] at sb
    exact Option.some.inj sb⟩
  have T : Txt K mg CH dB fXI := ⟨⟨cdH, yH⟩, m nCH, m ndB, ⟨⟨cx, yB⟩, ⟨ga, gt⟩, gc⟩, ⟨⟨cx, yB⟩, ii, fi, kc⟩, fv, su, z z_ValueError⟩
  have F1 := fun_mk (st := sJudged) l1 c1 k1
  have F2 := fun_mk (st := sIn) l2 c2 k2
  have F3 := fun_mk (st := sLook) l3 c3 k3
  have F4 := fun_mk (st := sLTold) l4 c4 k4
  have F5 := fun_mk (st := sWithin) l5 c5 k5
  have F6 := fun_mk (st := sStep) l6 c6 k6
  have F8 := fun_mk (st := sTells) l8 c8 k8
  have F7 := fun_mk (st := sRound) l7 c7 k7
  have F9 := fun_mk (st := sRooted) l9 c9 k9
  have F10 := fun_mk (st := sWithout) l10 c10 k10
  have F11 := fun_mk (st := sCodes) l11 c11 k11
  have F12 := fun_mk (st := sPicked) l12 c12 k12
  have F13 := fun_mk (st := sView) l13 c13 k13
  have F14 := fun_mk (st := sSteps) l14 c14 k14
  have F15 := fun_mk (st := sReach) l15 c15 k15
  have F17 := fun_mk (st := sPaper) l17 c17 k17
  have F18 := fun_mk (st := sReached) l18 c18 k18
  have F19 := fun_mk (st := sRight) l19 c19 k19
  have F20 := fun_mk (st := sRef) l20 c20 k20
  have F16 := fun_mk (st := sLaw) l16 c16 k16
  have FXI := fun_mk (st := sXI) lXI cXI kXI
  have b1 := F1.binds (ps := ["view", "triples"]) fun _ _ _ _ _ _ us hl => match us, hl with | [_, _], _ => rfl
  have b2 := F2.binds (ps := ["view", "things"]) fun _ _ _ _ _ _ us hl => match us, hl with | [_, _], _ => rfl
  have b3 := F3.binds (ps := ["view"]) fun _ _ _ _ _ _ us hl => match us, hl with | [_], _ => rfl
  have b4 := F4.binds (ps := ["told", "fields"]) fun _ _ _ _ _ _ us hl => match us, hl with | [_, _], _ => rfl
  have b5 := F5.binds (ps := ["told", "inside"]) fun _ _ _ _ _ _ us hl => match us, hl with | [_, _], _ => rfl
  have b6 := F6.binds (ps := ["view", "ahead", "triple"]) fun _ _ _ _ _ _ us hl => match us, hl with | [_, _, _], _ => rfl
  have b8 := F8.binds (ps := ["told", "place", "thing"]) fun _ _ _ _ _ _ us hl => match us, hl with | [_, _, _], _ => rfl
  have b7 := F7.binds (ps := ["view", "read", "paper"]) fun _ _ _ _ _ _ us hl => match us, hl with | [_, _, _], _ => rfl
  have b9 := F9.binds (ps := ["view", "read"]) fun _ _ _ _ _ _ us hl => match us, hl with | [_, _], _ => rfl
  have b10 := F10.binds (ps := ["view", "triples"]) fun _ _ _ _ _ _ us hl => match us, hl with | [_, _], _ => rfl
  have b11 := F11.binds (ps := ["script", "many"]) fun _ _ _ _ _ _ us hl => match us, hl with | [_, _], _ => rfl
  have b12 := F12.binds (ps := ["things", "number"]) fun _ _ _ _ _ _ us hl => match us, hl with | [_, _], _ => rfl
  have b13 := F13.binds (ps := ["codes"]) fun _ _ _ _ _ _ us hl => match us, hl with | [_], _ => rfl
  have b14 := F14.binds (ps := ["view"]) fun _ _ _ _ _ _ us hl => match us, hl with | [_], _ => rfl
  have b15 := F15.binds (ps := ["view"]) fun _ _ _ _ _ _ us hl => match us, hl with | [_], _ => rfl
  have b17 := F17.binds (ps := ["view", "read"]) fun _ _ _ _ _ _ us hl => match us, hl with | [_, _], _ => rfl
  have b18 := F18.binds (ps := ["roots", "fields"]) fun _ _ _ _ _ _ us hl => match us, hl with | [_, _], _ => rfl
  have b19 := F19.binds (ps := ["roots", "fields", "triples"]) fun _ _ _ _ _ _ us hl => match us, hl with | [_, _, _], _ => rfl
  have b20 := F20.binds (ps := ["view", "back", "paper"]) fun _ _ _ _ _ _ us hl => match us, hl with | [_, _, _], _ => rfl
  have bXI := FXI.binds (ps := ["self", "text"]) fun _ _ _ _ _ _ us hl => match us, hl with | [_, _], _ => rfl
  refine ⟨PySem.W.fnOf "law" "law" (defArgs sLaw) (defBody sLaw) (defScope sLaw) .none kV16 dc16 pm16 an16 cd16 ct16, fun s v => .of_eq rfl, fun base _ _ => ?_⟩
  have G4 := ok_ltold (P := l.prog) (w := w) (mg := mg) (base := base) F4
  have G3 := ok_look (P := l.prog) (w := w) (mg := mg) (base := base) F3 G4 (m a4) k4 b4
  have G5 := ok_within (P := l.prog) (w := w) (mg := mg) (base := base) F5 (z z_all)
  have G2 := ok_in (P := l.prog) (w := w) (mg := mg) (base := base) F2 (z z_all) G5 (m a5) k5 b5
  have G8 := ok_tells (P := l.prog) (w := w) (mg := mg) (base := base) F8 (z z_len)
  have G6 := ok_step (P := l.prog) (w := w) (mg := mg) (base := base) F6 G8 (m a8) k8 b8
  have G1 := ok_judged (P := l.prog) (w := w) (mg := mg) (base := base) F1 (z z_sorted) G3 (m a3) k3 b3 G6 (m a6) k6 b6 G2 (m a2) k2 b2
  have G9 := ok_rooted (P := l.prog) (w := w) (mg := mg) (base := base) F9 (z z_sorted)
  have G10 := ok_without (P := l.prog) (w := w) (mg := mg) (base := base) F10 (z z_sorted)
  have G7 := ok_round (P := l.prog) (w := w) (mg := mg) (base := base) F7 (z z_list) G9 (m a9) k9 b9 G1 (m a1) k1 b1 G10 (m a10) k10 b10
  have G11 := ok_codes (P := l.prog) (w := w) (mg := mg) (base := base) F11 (z z_sum) (z z_range) (z z_len)
  have G12 := ok_picked (P := l.prog) (w := w) (mg := mg) (base := base) F12 (z z_len)
  have G13 := ok_view (P := l.prog) (w := w) (mg := mg) (base := base) F13 (z z_range) (z z_int) G12 (m a12) k12 b12
  have G14 := ok_steps (P := l.prog) (w := w) (mg := mg) (base := base) F14 (z z_list) (z z_enumerate) (z z_len)
  have G15 := ok_reach (P := l.prog) (w := w) (mg := mg) (base := base) F15 G3 (m a3) k3 b3 G14 (m a14) k14 b14
  have G17 := ok_paper (P := l.prog) (w := w) (mg := mg) (base := base) F17 G9 (m a9) k9 b9 G15 (m a15) k15 b15 G10 (m a10) k10 b10
  have G18 := ok_reached (P := l.prog) (w := w) (mg := mg) (base := base) F18 (z z_len) (z z_sorted)
  have G19 := ok_right (P := l.prog) (w := w) (mg := mg) (base := base) F19 (z z_isinstance) (z z_tuple) (z z_len) (z z_int) (z z_bool)
  have GXI := ok_xi (P := l.prog) (w := w) (mg := mg) (base := base) FXI (z z_ValueError)
  have X4 := ok_toldx (P := l.prog) (w := w) (mg := mg) (base := base) F4 T GXI bXI
  have X3 := ok_lookx (P := l.prog) (w := w) (mg := mg) (base := base) F3 X4 (m a4) k4 b4
  have X15 := ok_reachx (P := l.prog) (w := w) (mg := mg) (base := base) F15 X3 (m a3) k3 b3
  have X1 := ok_judx (P := l.prog) (w := w) (mg := mg) (base := base) F1 X3 (m a3) k3 b3
  have X17 := ok_paperx (P := l.prog) (w := w) (mg := mg) (base := base) F17 G9 (m a9) k9 b9 X15 (m a15) k15 b15
  have X7 := ok_roundx (P := l.prog) (w := w) (mg := mg) (base := base) F7 G9 (m a9) k9 b9 X1 (m a1) k1 b1
  have G20 := ok_refused (P := l.prog) (w := w) (mg := mg) (base := base) F20 T (z z_range) (z z_isinstance) X17 (m a17) k17 b17 X7 (m a7) k7 b7
  exact ok_law F16 (z z_sorted) (z z_set) (z z_list) (z z_dict) (z z_isinstance) (z z_tuple) (z z_len) (z z_sum) G11 (m a11) k11 b11 G13 (m a13) k13 b13 G17 (m a17) k17 b17 G18 (m a18) k18 b18 G19 (m a19) k19 b19 G7 (m a7) k7 b7 G20 (m a20) k20 b20
theorem walk {l : PySem.W.OpenLaw} {q : Program} {loose : List Str} {XP : (Str → Option Value) → Heap → Prop} {YP : World → Heap → Prop} {d : DefRec} {K : Params → PySem.W.Frag} (hn : l.most = some 63) (hdf : d.params.defaults = [])
    (hY : ∀ (w : World) (h : Heap), YP w h → (K w.params).In h)
    (F : ∀ (w : World) (mg : Str → Option Value) (fa : Addr) (h : Heap), (K w.params).In h → h.Ns mainGlobals mg → mg d.name = some (.ref fa) →
      ∃ fd : FuncData, (∀ (s : Shared) (u : Value), BindsTo s fd ⟨[u], []⟩ [("script", u)]) ∧ ∀ base : Heap, (K w.params).In base → base.Ns mainGlobals mg → FnOk l.prog w (K w.params) mg base (CXE l.prog w) 8 fa fd ["script"] (spLaw (K w.params))) :
    PySem.W.WalkO q loose XP YP l.row.toRowW d [] (fun f vs => PySem.call f vs) :=
  L2.walk_of (n := 63) (k := 8) (x := "script") (CX := fun w => CXE l.prog w) (sp := fun w => spLaw (K w.params)) hn (by decide) hdf ⟨rfl, by decide, by decide⟩ hY F (fun _ _ a ns hl _ hS => ⟨a, ns, rfl, hS, hl, fun _ => rfl⟩) fun _ _ _ _ _ z => noneE z
end K70
open PySem PySem.W PyProof.Rows
set_option maxRecDepth 100000 in
set_option maxHeartbeats 0 in
theorem PySem.Challenge.cw_stillheap_k70_round_papers_holds : PySem.Challenge.rw_stillheap_k70_round_papers.Holds := by
  w_on; o_law; k_head; (case hw => w_witness2)
  k_fill
  refine K70.walk (l := PySem.Challenge.rw_stillheap_k70_round_papers) rfl rfl (fun w h Y => PySem.W.kIn_of Y) ?F
  case F =>
    intro w mg fa h KX G hmg
    refine' K70.all_mk KX G hmg ?nCH ?ndB ?xH ?xB ?ga ?gt ?gc ?ii ?kc ?fi ?fv ?sb ?lXI ?cXI ?kXI ?a1 ?l1 ?c1 ?k1 ?a2 ?l2 ?c2 ?k2 ?a3 ?l3 ?c3 ?k3 ?a4 ?l4 ?c4 ?k4 ?a5 ?l5 ?c5 ?k5 ?a6 ?l6 ?c6 ?k6 ?a8 ?l8 ?c8 ?k8 ?a7 ?l7 ?c7 ?k7 ?a9 ?l9 ?c9 ?k9 ?a10 ?l10 ?c10 ?k10 ?a11 ?l11 ?c11 ?k11 ?a12 ?l12 ?c12 ?k12 ?a13 ?l13 ?c13 ?k13 ?a14 ?l14 ?c14 ?k14 ?a15 ?l15 ?c15 ?k15 ?a17 ?l17 ?c17 ?k17 ?a18 ?l18 ?c18 ?k18 ?a19 ?l19 ?c19 ?k19 ?a20 ?l20 ?c20 ?k20 ?a16 ?l16 ?c16 ?k16 ?z_isinstance ?z_bool ?z_int ?z_list ?z_len ?z_range ?z_sorted ?z_set ?z_enumerate ?z_all ?z_dict ?z_sum ?z_tuple ?z_ValueError
    (case nCH => k_is)
    (case ndB => k_is)
    (case xH => kernel_rfl)
    (case xB => kernel_rfl)
    (case ga => k_is)
    (case gt => k_is)
    (case gc => k_is)
    (case ii => k_is)
    (case kc => k_is)
    (case fi => k_is)
    (case fv => kernel_rfl)
    (case sb => k_is)
    (case lXI => k_is)
    (case cXI => k_is)
    (case kXI => k_is)
    (case a1 => k_is)
    (case l1 => k_is)
    (case c1 => k_is)
    (case k1 => k_is)
    (case a2 => k_is)
    (case l2 => k_is)
    (case c2 => k_is)
    (case k2 => k_is)
    (case a3 => k_is)
    (case l3 => k_is)
    (case c3 => k_is)
    (case k3 => k_is)
    (case a4 => k_is)
    (case l4 => k_is)
    (case c4 => k_is)
    (case k4 => k_is)
    (case a5 => k_is)
    (case l5 => k_is)
    (case c5 => k_is)
    (case k5 => k_is)
    (case a6 => k_is)
    (case l6 => k_is)
    (case c6 => k_is)
    (case k6 => k_is)
    (case a8 => k_is)
    (case l8 => k_is)
    (case c8 => k_is)
    (case k8 => k_is)
    (case a7 => k_is)
    (case l7 => k_is)
    (case c7 => k_is)
    (case k7 => k_is)
    (case a9 => k_is)
    (case l9 => k_is)
    (case c9 => k_is)
    (case k9 => k_is)
    (case a10 => k_is)
    (case l10 => k_is)
    (case c10 => k_is)
    (case k10 => k_is)
    (case a11 => k_is)
    (case l11 => k_is)
    (case c11 => k_is)
    (case k11 => k_is)
    (case a12 => k_is)
    (case l12 => k_is)
    (case c12 => k_is)
    (case k12 => k_is)
    (case a13 => k_is)
    (case l13 => k_is)
    (case c13 => k_is)
    (case k13 => k_is)
    (case a14 => k_is)
    (case l14 => k_is)
    (case c14 => k_is)
    (case k14 => k_is)
    (case a15 => k_is)
    (case l15 => k_is)
    (case c15 => k_is)
    (case k15 => k_is)
    (case a17 => k_is)
    (case l17 => k_is)
    (case c17 => k_is)
    (case k17 => k_is)
    (case a18 => k_is)
    (case l18 => k_is)
    (case c18 => k_is)
    (case k18 => k_is)
    (case a19 => k_is)
    (case l19 => k_is)
    (case c19 => k_is)
    (case k19 => k_is)
    (case a20 => k_is)
    (case l20 => k_is)
    (case c20 => k_is)
    (case k20 => k_is)
    (case a16 => k_is)
    (case l16 => k_is)
    (case c16 => k_is)
    (case k16 => k_is)
    (case z_isinstance => k_is)
    (case z_bool => k_is)
    (case z_int => k_is)
    (case z_list => k_is)
    (case z_len => k_is)
    (case z_range => k_is)
    (case z_sorted => k_is)
    (case z_set => k_is)
    (case z_enumerate => k_is)
    (case z_all => k_is)
    (case z_dict => k_is)
    (case z_sum => k_is)
    (case z_tuple => k_is)
    (case z_ValueError => k_is)
#print axioms PySem.Challenge.cw_stillheap_k70_round_papers_holds
end
