import PyProof.Rows.All
import Wide.All
import OpenK.AllK
import Wide.FinOn
import PyProof.EqAt
import PyProof.EqKinds
import PyProof.TupleCall
import OpenK.KCls
import PyProof.ExcClass2
import PyProof.ExcBaseAll.ValueError
import PyProof.ExcArgs
import PyProof.Rows.Exc
import KE.KIsAll
import PyProof.StationsW
import PyProof.EnumFor
import PyProof.EnumStmt
import PyProof.EnumMake
import PyProof.NeKinds
import PyProof.Rows.SumAny
import KE.KDictSum
import PyProof.Rows.SortWalk
import PyProof.Rows.Range3
import PyProof.Rows.SetFrom
import KE.KEqDict
import PyProof.Rows.DictUnroll
import KE.KRevSl
import PyProof.AutoListH
import PyProof.AttrMiss
import KE.KRevIter
import KE.KSortTup
import PySem.Challenge.RW_stillheap_k17_reach_papers_told
section
set_option Elab.async false
set_option linter.all false
set_option maxRecDepth 100000
/-! THE HAND LAYER, for ints, bools, texts, own classes, LISTS and tuples (index, slices, in, append, pop ..), calls, loops. Paste it whole ahead of your own text; what your proof does not reach may be deleted. -/
namespace L2
open PySem PySem.Spec PyProof.Rows

/-- a key: an int or a str -/
abbrev Key := Sum Int Str
def keyIs : Key → Value → Bool
  | .inl k, v => Value.isInt k v
  | .inr x, v => Value.isStrOf x v
def keyH (w : World) : Key → Int
  | .inl k => hashInt k
  | .inr x => hashStr w x
theorem keyIs_shape : ∀ {k : Key} {v : Value}, keyIs k v = true → (∃ i t, k = Sum.inl i ∧ v = Value.int i t) ∨ (∃ x t, k = Sum.inr x ∧ v = Value.str x t)
  | .inl i, v, h => by
    obtain ⟨t, e⟩ := Value.isInt_shape (k := i) (v := v) h
    exact .inl ⟨i, t, rfl, e⟩
  | .inr x, v, h => by
    obtain ⟨t, e⟩ := Value.isStrOf_shape (x := x) (v := v) h
    exact .inr ⟨x, t, rfl, e⟩
theorem keyIs_int (i : Int) (t : Tok) : keyIs (.inl i) (.int i t) = true := by simp [keyIs, Value.isInt]
theorem keyIs_str (x : Str) (t : Tok) : keyIs (.inr x) (.str x t) = true := by simp [keyIs, Value.isStrOf]
theorem key_ll (a b : Int) : decide ((Sum.inl a : Key) = Sum.inl b) = (a == b) := by
  by_cases e : a = b
  · subst e; simp
  · have h : ¬ (Sum.inl a : Key) = Sum.inl b := fun q => e (Sum.inl.inj q)
    rw [decide_eq_false h]
    exact (beq_eq_false_iff_ne.mpr e).symm
theorem key_rr (a b : Str) : decide ((Sum.inr a : Key) = Sum.inr b) = decide (a = b) := by
  by_cases e : a = b
  · subst e; simp
  · have h : ¬ (Sum.inr a : Key) = Sum.inr b := fun q => e (Sum.inr.inj q)
    rw [decide_eq_false h, decide_eq_false e]
theorem key_lr (a : Int) (b : Str) : decide ((Sum.inl a : Key) = Sum.inr b) = false := decide_eq_false (fun q => nomatch q)
theorem key_rl (a : Str) (b : Int) : decide ((Sum.inr a : Key) = Sum.inl b) = false := decide_eq_false (fun q => nomatch q)

def mixKind (prog : Program) (w : World) : PySem.KeyKind prog w Key where
  is := keyIs
  hash := keyH w
  inj := fun v a b ha hb => by
    rcases keyIs_shape ha with ⟨i, t, rfl, rfl⟩ | ⟨x, t, rfl, rfl⟩
    · rcases keyIs_shape hb with ⟨j, u, rfl, e⟩ | ⟨y, u, rfl, e⟩
      · injection e with e1 _; rw [e1]
      · exact nomatch e
    · rcases keyIs_shape hb with ⟨j, u, rfl, e⟩ | ⟨y, u, rfl, e⟩
      · exact nomatch e
      · injection e with e1 _; rw [e1]
  byValue := fun k v h => by
    rcases keyIs_shape h with ⟨i, t, rfl, rfl⟩ | ⟨x, t, rfl, rfl⟩ <;> rfl
  pyHash := fun hv h => by
    rcases keyIs_shape hv with ⟨i, t, rfl, rfl⟩ | ⟨x, t, rfl, rfl⟩
    · exact wpAny_pyHash_int h
    · exact wpAny_pyHash_str h
  eqBool := fun hu hv h => by
    rcases keyIs_shape hu with ⟨i, t, rfl, rfl⟩ | ⟨x, t, rfl, rfl⟩
    · rcases keyIs_shape hv with ⟨j, u, rfl, rfl⟩ | ⟨y, u, rfl, rfl⟩
      · rw [key_ll] at h; exact wpAny_eqBool_int h
      · rw [key_lr] at h; exact SeqAt.EqAt.int_str i t y u _ _ _ _ h
    · rcases keyIs_shape hv with ⟨j, u, rfl, rfl⟩ | ⟨y, u, rfl, rfl⟩
      · rw [key_rl] at h; exact SeqAt.EqAt.str_int x t j u _ _ _ _ h
      · rw [key_rr] at h; exact wpAny_eqBool_str h
  «strs» := fun k x t v h => by
    rcases keyIs_shape h with ⟨i, u, rfl, e⟩ | ⟨y, u, rfl, e⟩
    · exact nomatch e
    · injection e with e1 _
      subst e1
      cases v <;> rfl

theorem mixKind_int (prog : Program) (w : World) (i : Int) (t : Tok) : (mixKind prog w).is (.inl i) (.int i t) = true := keyIs_int i t
theorem mixKind_str (prog : Program) (w : World) (x : Str) (t : Tok) : (mixKind prog w).is (.inr x) (.str x t) = true := keyIs_str x t
end L2

namespace L2
open PySem PySem.Spec PyProof.Rows

/-- a value, without the heap -/
inductive V where
  | non | bl (b : Bool) | int (i : Int) | str (x : Str) | byt (b : Array UInt8) | flt (b : UInt64) | ref (a : Addr) | ty (n : String)
  deriving DecidableEq

def RelV : V → Value → Prop
  | .non, u => u = Value.none
  | .bl b, u => u = Value.bool b
  | .int i, u => ∃ t, u = Value.int i t
  | .str x, u => ∃ t, u = Value.str x t
  | .byt b, u => ∃ t, u = Value.bytes b t
  | .flt b, u => ∃ t, u = Value.float b t
  | .ref a, u => u = Value.ref a
  | .ty n, u => u = Value.type n

abbrev Vals : List V → List Value → Prop := Paired RelV
theorem Vals.length {xs : List V} {us : List Value} (r : Vals xs us) : xs.length = us.length := Paired.length r
theorem Vals.get : ∀ {xs : List V} {us : List Value} {i : Nat} {x : V}, Vals xs us → xs[i]? = some x → ∃ u, us[i]? = some u ∧ RelV x u
  | _, _, _, _, .nil, e => by simp at e
  | _, _, 0, _, .cons r _, e => by simp at e; subst e; exact ⟨_, rfl, r⟩
  | _, _, i + 1, x, .cons _ t, e => by
    obtain ⟨u, h1, h2⟩ := Vals.get (i := i) (x := x) t (by simpa using e)
    exact ⟨u, by simpa using h1, h2⟩
theorem Vals.set {x : V} {u : Value} (r : RelV x u) : ∀ {xs : List V} {us : List Value} (i : Nat), Vals xs us → Vals (xs.set i x) (us.set i u)
  | _, _, _, .nil => .nil
  | _, _, 0, .cons _ t => .cons r t
  | _, _, i + 1, .cons q t => .cons q (Vals.set r i t)
theorem Vals.append : ∀ {xs ys : List V} {us ws : List Value}, Vals xs us → Vals ys ws → Vals (xs ++ ys) (us ++ ws)
  | _, _, _, _, .nil, s => s
  | _, _, _, _, .cons r t, s => .cons r (Vals.append t s)
theorem Vals.take : ∀ {xs : List V} {us : List Value} (n : Nat), Vals xs us → Vals (xs.take n) (us.take n)
  | _, _, 0, _ => .nil
  | _, _, _ + 1, .nil => .nil
  | _, _, n + 1, .cons r t => .cons r (Vals.take n t)
theorem Vals.drop : ∀ {xs : List V} {us : List Value} (n : Nat), Vals xs us → Vals (xs.drop n) (us.drop n)
  | _, _, 0, r => r
  | _, _, _ + 1, .nil => .nil
  | _, _, n + 1, .cons _ t => Vals.drop n t

def RelO : Option V → Option Value → Prop
  | some v, some u => RelV v u
  | none, none => True
  | _, _ => False
def KV {κ : Type} : List (κ × V) → List (κ × Value) → Prop := Paired fun (p : κ × V) (q : κ × Value) => p.1 = q.1 ∧ RelV p.2 q.2

/-- a key of a dict (00_mix): an int or a text -/
def kV : Key → V
  | .inl i => .int i
  | .inr x => .str x

/-- what stands at a tracked address -/
inductive HO where
  /-- a list -/
  | lst (xs : List V)
  /-- a tuple (never changes) -/
  | tup (xs : List V)
  /-- a dict whose keys are ints and texts; one whose keys are tuples of ints and texts (the empty one is both) -/
  | dK (kvs : List (Key × V)) | dT (kvs : List (List Key × V))
  /-- a set of ints: its members, its size -/
  | set (S : Int → Bool) (n : Nat)
  /-- an instance of the class at C, its dict at dx, its attributes -/
  | ins (C dx : Addr) (fs : List (Str × V))
  /-- the dict of the instance at x -/
  | own (x : Addr)
  /-- the dict of an exception -/
  | xd (fs : List (Str × V))
  /-- a bound method, f of x -/
  | met (f x : Addr)
  /-- a range object lo, lo + 1, .. below hi -/
  | rng (lo hi : Int)
  /-- a thing that is known to the object (the script; a dict while a loop walks it): read, never written while it is so -/
  | frz (o : Obj) (u : HO)
  /-- a code object's table -/
  | tbl (ps : Array Value)
  /-- any other thing, by what is true of its one object (a def of one's own: SetO a S n := HO.ext fun h => ..) -/
  | ext (φ : Heap → Prop)

abbrev Hp := Addr → Option HO
def upd (H : Hp) (a : Addr) (o : HO) : Hp := fun b => if b = a then some o else H b
theorem upd_same {H : Hp} {a : Addr} {o : HO} : upd H a o a = some o := by unfold upd; rw [if_pos rfl]
theorem upd_ne {H : Hp} {a b : Addr} {o : HO} (h : b ≠ a) : upd H a o b = H b := by unfold upd; rw [if_neg h]
/-- two objects of different content stand apart -/
theorem ne_of {H : Hp} {a b : Addr} {o u : HO} (h : H a = some o) (h' : H b = some u) (d : o ≠ u) : a ≠ b := by
  intro e; subst e; rw [h] at h'; exact d (Option.some.inj h')
theorem ne_of_none {H : Hp} {a b : Addr} {o : HO} (h : H a = some o) (h' : H b = none) : a ≠ b := by
  intro e; subst e; rw [h] at h'; cases h'

section
variable (P : Program) (w : World)
def ObjOk (H : Hp) (h : Heap) (a : Addr) : HO → Prop
  | .lst xs => xs.length ≤ sizeLine ∧ ∃ (its : List Value) (n : Nat), Vals xs its ∧ h.get? a = some { cls := .type "list", data := .seq its.toArray n }
  | .tup xs => xs.length ≤ sizeLine ∧ ∃ its : List Value, Vals xs its ∧ IsTup h a its.toArray
  | .dK kvs => kvs.length ≤ sizeLine ∧ (a == sysModules) = false ∧ ∃ vs, KV kvs vs ∧ h.DictOf (mixKind P w) a vs
  | .dT kvs => kvs.length ≤ sizeLine ∧ (a == sysModules) = false ∧ ∃ xs : List (List Key × Addr × Value),
      Paired (fun (p : List Key × V) (q : List Key × Addr × Value) => p.1 = q.1 ∧ H q.2.1 = some (.tup (p.1.map kV)) ∧ RelV p.2 q.2.2) kvs xs ∧
      ∃ o es ep, h.get? a = some o ∧ o.ExactDict ∧ o.data = .dict es ep ∧ es.toList = xs.map (entryOfKey (tupleKind (mixKind P w))) ∧ (xs.map (·.1)).Nodup
  | .set S n => h.SetOf (intKind P w) a S n
  | .ins C dx fs => H dx = some (.own a) ∧ fs.length ≤ 1000 ∧ dx ≠ a ∧ h.get? a = some (PySem.W.instObj C dx) ∧
      ∃ mA, h.Ns1 dx mA ∧ (∀ f, RelO (fs.lookup f) (mA f)) ∧ PySem.Within mA (fs.map (·.1))
  | .own _ => ∃ o, h.get? a = some o
  | .xd fs => ∃ mA, h.Ns1 a mA ∧ ∀ f, RelO (fs.lookup f) (mA f)
  | .rng lo hi => ∃ t u v, h.get? a = some { cls := .type "range", data := .fields #[.int lo t, .int hi u, .int 1 v] }
  | .frz o u => h.get? a = some o ∧ ObjOk H h a u
  | .tbl ps => h.get? a = some { cls := .none, data := .fields ps }
  | .met f x => h.get? a = some (PySem.W.methodObj (.ref f) (.ref x))
  | .ext φ => φ h ∧ (∃ o, h.get? a = some o) ∧ ∀ h1 h2 : Heap, φ h1 → (∀ o, h1.get? a = some o → h2.get? a = some o) → φ h2
/-- the abstract heap is held -/
def HOk (H : Hp) (h : Heap) : Prop := ∀ a o, H a = some o → ObjOk P w H h a o
end

section
variable {P : Program} {w : World} {H H' : Hp} {h h' : Heap} {a : Addr} {o : HO}
theorem ObjOk.lt (x : ObjOk P w H h a o) : a < h.objs.size := by
  cases o with
  | lst xs => obtain ⟨_, _, _, _, e⟩ := x; exact Heap.lt_size e
  | tup xs => obtain ⟨_, _, _, p⟩ := x; exact p.lt
  | dK kvs => obtain ⟨_, _, _, _, o, _, _, e, _⟩ := x; exact Heap.lt_size e
  | dT kvs => obtain ⟨_, _, _, _, o, _, _, e, _⟩ := x; exact Heap.lt_size e
  | set S n => obtain ⟨o, _, _, _, e, _⟩ := x; exact Heap.lt_size e
  | ins C dx fs => obtain ⟨_, _, _, e, _⟩ := x; exact Heap.lt_size e
  | own y => obtain ⟨_, e⟩ := x; exact Heap.lt_size e
  | xd fs => obtain ⟨_, ⟨_, _, _, e, _⟩, _⟩ := x; exact Heap.lt_size e
  | rng lo hi => obtain ⟨_, _, _, e⟩ := x; exact Heap.lt_size e
  | frz ob u => obtain ⟨e, _⟩ := x; exact Heap.lt_size e
  | tbl ps => exact Heap.lt_size (show h.get? a = some _ from x)
  | met f y => exact Heap.lt_size (show h.get? a = some _ from x)
  | ext φ => obtain ⟨_, ⟨_, e⟩, _⟩ := x; exact Heap.lt_size e
theorem Paired.mapP {α β : Type} {F G : α → β → Prop} : ∀ {l₁ : List α} {l₂ : List β}, Paired F l₁ l₂ → (∀ a b, F a b → G a b) → Paired G l₁ l₂
  | _, _, .nil, _ => .nil
  | _, _, .cons r t, f => .cons (f _ _ r) (Paired.mapP t f)
/-- what an object's description leans on: its own object, its own dict, the tuples -/
theorem ObjOk.stay (x : ObjOk P w H h a o) (k : ∀ b u, (b = a ∨ H b = some (.own a)) → h.get? b = some u → h'.get? b = some u)
    (ho : ∀ b, H b = some (.own a) → H' b = some (.own a)) (ht : ∀ b xs, H b = some (.tup xs) → H' b = some (.tup xs)) : ObjOk P w H' h' a o := by
  induction o with
  | lst xs => obtain ⟨z, its, n, r, e⟩ := x; exact ⟨z, its, n, r, k _ _ (.inl rfl) e⟩
  | tup xs => obtain ⟨z, its, r, ob, e, c⟩ := x; exact ⟨z, its, r, ob, k _ _ (.inl rfl) e, c⟩
  | dK kvs => obtain ⟨z, y, vs, r, ob, es, ep, e, c⟩ := x; exact ⟨z, y, vs, r, ob, es, ep, k _ _ (.inl rfl) e, c⟩
  | dT kvs =>
    obtain ⟨z, y, xs, r, ob, es, ep, e, c⟩ := x
    exact ⟨z, y, xs, Paired.mapP r fun p q z => ⟨z.1, ht _ _ z.2.1, z.2.2⟩, ob, es, ep, k _ _ (.inl rfl) e, c⟩
  | set S n => obtain ⟨ob, es, ep, t, e, c⟩ := x; exact ⟨ob, es, ep, t, k _ _ (.inl rfl) e, c⟩
  | ins C dx fs =>
    obtain ⟨d, z, ne, e, mA, ⟨od, es, ep, e2, c⟩, r⟩ := x
    exact ⟨ho _ d, z, ne, k _ _ (.inl rfl) e, mA, ⟨od, es, ep, k _ _ (.inr d) e2, c⟩, r⟩
  | own y => obtain ⟨ob, e⟩ := x; exact ⟨ob, k _ _ (.inl rfl) e⟩
  | xd fs => obtain ⟨mA, ⟨od, es, ep, e, c⟩, r⟩ := x; exact ⟨mA, ⟨od, es, ep, k _ _ (.inl rfl) e, c⟩, r⟩
  | rng lo hi => obtain ⟨t, u, v, e⟩ := x; exact ⟨t, u, v, k _ _ (.inl rfl) e⟩
  | frz ob u ih => obtain ⟨e, q⟩ := x; exact ⟨k _ _ (.inl rfl) e, ih q⟩
  | tbl ps =>
    have e : h.get? a = some { cls := .none, data := .fields ps } := x
    show h'.get? a = some { cls := .none, data := .fields ps }
    exact k a _ (.inl rfl) e
  | met f y =>
    have e : h.get? a = some (PySem.W.methodObj (.ref f) (.ref y)) := x
    show h'.get? a = some (PySem.W.methodObj (.ref f) (.ref y))
    exact k a _ (.inl rfl) e
  | ext φ => obtain ⟨p, ⟨o, e⟩, st⟩ := x; exact ⟨st _ _ p fun o q => k _ _ (.inl rfl) q, ⟨o, k _ _ (.inl rfl) e⟩, st⟩
theorem HOk.lt (x : HOk P w H h) (e : H a = some o) : a < h.objs.size := (x a o e).lt
theorem HOk.fresh (x : HOk P w H h) (e : h.objs.size ≤ a) : H a = none := by
  cases q : H a with
  | none => rfl
  | some u => exact absurd (Nat.lt_of_lt_of_le (x.lt q) e) (Nat.lt_irrefl _)
/-- every object of the heap is kept -/
theorem HOk.kept (x : HOk P w H h) (k : ∀ b u, h.get? b = some u → h'.get? b = some u) : HOk P w H h' := fun a o e =>
  (x a o e).stay (fun b u _ q => k b u q) (fun _ q => q) fun _ _ q => q
/-- a new object is laid and tracked -/
theorem HOk.laid (x : HOk P w H h) (k : ∀ b u, h.get? b = some u → h'.get? b = some u) (hp : h.objs.size ≤ a) (new : ObjOk P w (upd H a o) h' a o) : HOk P w (upd H a o) h' := fun b u e => by
  have hn := x.fresh hp
  by_cases hb : b = a
  · subst hb; rw [upd_same] at e; cases e; exact new
  · rw [upd_ne hb] at e
    exact (x b u e).stay (fun c v _ q => k c v q) (fun c q => by rw [upd_ne (ne_of_none q hn)]; exact q) fun c xs q => by rw [upd_ne (ne_of_none q hn)]; exact q
end

/-- what may be read as u: it is u, or a known u -/
def Rd (H : Hp) (a : Addr) (u : HO) : Prop := H a = some u ∨ ∃ o, H a = some (.frz o u)
theorem Rd.ok {P : Program} {w : World} {H : Hp} {h : Heap} {a : Addr} {u : HO} (r : Rd H a u) (x : HOk P w H h) : ObjOk P w H h a u := by
  rcases r with r | ⟨o, r⟩
  · exact x a u r
  · obtain ⟨_, q⟩ := x a _ r
    exact q
/-- what may be written -/
def Mut : Option HO → Prop
  | some (.lst _) => True
  | some (.dK _) => True
  | some (.dT _) => True
  | some (.set _ _) => True
  | some (.ins _ _ _) => True
  | some (.ext _) => True
  | _ => False
section
variable {P : Program} {w : World} {H : Hp} {h h' : Heap} {x e : Addr} {o' : HO}
/-- the object at e is changed: x itself, or the dict of the instance x -/
theorem HOk.write (ok : HOk P w H h) (mu : Mut (H x)) (he : e = x ∨ H e = some (.own x)) (k : ∀ b u, b ≠ e → h.get? b = some u → h'.get? b = some u) (heo : ∃ u, h'.get? e = some u)
    (new : ObjOk P w (upd H x o') h' x o') : HOk P w (upd H x o') h' := fun b u q => by
  have nown : ∀ c y, H c = some (.own y) → c ≠ x := fun c y r z => by subst z; rw [r] at mu; exact mu
  have ntup : ∀ c xs, H c = some (.tup xs) → c ≠ x := fun c xs r z => by subst z; rw [r] at mu; exact mu
  by_cases hb : b = x
  · subst hb; rw [upd_same] at q; cases q; exact new
  · rw [upd_ne hb] at q
    by_cases hbe : b = e
    · have q' : H b = some (.own x) := by
        rcases he with z | z
        · exact absurd (hbe.trans z) hb
        · rw [hbe]; exact z
      rw [q] at q'; cases q'
      obtain ⟨v, hv⟩ := heo
      exact ⟨v, by rw [hbe]; exact hv⟩
    · refine (ok b u q).stay (fun c v hc r => k c v ?_ r) (fun c r => by rw [upd_ne (nown c b r)]; exact r) fun c xs r => by rw [upd_ne (ntup c xs r)]; exact r
      rcases hc with rfl | hc
      · exact hbe
      · rintro rfl
        rcases he with z | z
        · exact nown c b hc z
        · rw [hc] at z; cases z; exact hb rfl
end

/-! ### kept unless tracked; of the frames at fs (the callers') the slots may change (an exception that passes writes there); of the records at ex (iterators) nothing is said -/
structure Un (fs ex : List Addr) (H H' : Hp) (h h' : Heap) : Prop where
  keep : ∀ b o, h.get? b = some o → H b = none → b ∉ fs → b ∉ ex → h'.get? b = some o
  slot : ∀ b o, h.get? b = some o → H b = none → b ∈ fs → b ∉ ex → ∃ sl, h'.get? b = some { o with slots := sl }
  free : ∀ b o, h.get? b = some o → H b = none → b ∉ ex → H' b = none
  there : ∀ b o, h.get? b = some o → b ∉ ex → ∃ o', h'.get? b = some o'
  tups : ∀ b xs, H b = some (.tup xs) → H' b = some (.tup xs)
  frzs : ∀ b o u, H b = some (.frz o u) → H' b = some (.frz o u)
  tbls : ∀ b ps, H b = some (.tbl ps) → ∃ more, H' b = some (.tbl (ps ++ more))
section
variable {fs fs' ex ex' : List Addr} {H H1 H2 : Hp} {h h1 h2 h' : Heap} {a x e : Addr} {o : HO}
theorem Un.any (u : Un fs ex H H1 h h1) {b : Addr} {ob : Obj} (q : h.get? b = some ob) (n : H b = none) (hx : b ∉ ex) : ∃ sl, h1.get? b = some { ob with slots := sl } := by
  by_cases hb : b ∈ fs
  · exact u.slot b ob q n hb hx
  · exact ⟨ob.slots, u.keep b ob q n hb hx⟩
theorem Un.kept (k : ∀ b u, h.get? b = some u → h'.get? b = some u) : Un fs ex H H h h' :=
  ⟨fun b ob q _ _ _ => k b ob q, fun b ob q _ _ _ => ⟨ob.slots, k b ob q⟩, fun _ _ _ n _ => n, fun b ob q _ => ⟨ob, k b ob q⟩, fun _ _ q => q, fun _ _ _ q => q, fun _ ps q => ⟨#[], by rw [q]; simp⟩⟩
theorem Un.refl : Un fs ex H H h h := Un.kept fun _ _ q => q
theorem Un.laid (k : ∀ b u, h.get? b = some u → h'.get? b = some u) (hp : h.objs.size ≤ a) (hn : H a = none) : Un fs ex H (upd H a o) h h' where
  keep := fun b u q _ _ _ => k b u q
  slot := fun b u q _ _ _ => ⟨u.slots, k b u q⟩
  free := fun b u q n _ => by rw [upd_ne (Nat.ne_of_lt (Nat.lt_of_lt_of_le (Heap.lt_size q) hp))]; exact n
  there := fun b u q _ => ⟨u, k b u q⟩
  tups := fun b xs q => by rw [upd_ne (ne_of_none q hn)]; exact q
  frzs := fun b u xs q => by rw [upd_ne (ne_of_none q hn)]; exact q
  tbls := fun b ps q => ⟨#[], by rw [upd_ne (ne_of_none q hn), q]; simp⟩
theorem Un.write (mu : Mut (H x)) (he : e = x ∨ H e = some (.own x)) (k : ∀ b u, b ≠ e → h.get? b = some u → h'.get? b = some u) (heo : ∃ u, h'.get? e = some u) : Un fs ex H (upd H x o) h h' := by
  have hx : ∀ b, H b = none → b ≠ x := fun b n z => by subst z; rw [n] at mu; exact mu
  have hb : ∀ b, H b = none → b ≠ e := fun b n z => by
    subst z
    rcases he with r | r
    · exact hx b n r
    · rw [n] at r; cases r
  have hm : ∀ b u, H b = some u → ¬ Mut (some u) → b ≠ x := fun b u q nm z => by subst z; rw [q] at mu; exact nm mu
  refine ⟨fun b u q n _ _ => k b u (hb b n) q, fun b u q n _ _ => ⟨u.slots, k b u (hb b n) q⟩, fun b u q n _ => by rw [upd_ne (hx b n)]; exact n, fun b u q _ => ?_,
    fun b xs q => by rw [upd_ne (hm b _ q fun z => z)]; exact q, fun b u xs q => by rw [upd_ne (hm b _ q fun z => z)]; exact q, fun b ps q => ⟨#[], by rw [upd_ne (hm b _ q fun z => z), q]; simp⟩⟩
  by_cases hbe : b = e
  · subst hbe; exact heo
  · exact ⟨u, k b u hbe q⟩
end

/-! ### the heap without what is tracked -/
def trk (h : Heap) (H : Hp) : List Addr := (List.range h.objs.size).filter fun a => (H a).isSome
def hidT (h : Heap) (H : Hp) : Heap := PySem.W.hideAll h (trk h H)
theorem hidT_size (h : Heap) (H : Hp) : (hidT h H).objs.size = h.objs.size := PySem.W.hideAll_size _ _
theorem hidT_get {h : Heap} {H : Hp} {b : Addr} {o : Obj} (e : h.get? b = some o) (n : H b = none) : (hidT h H).get? b = some o :=
  PySem.W.hideAll_get _ e fun hm => by
    have q : (H b).isSome = true := (List.mem_filter.mp hm).2
    rw [n] at q; simp at q
theorem of_hidT {h : Heap} {H : Hp} {b : Addr} {o : Obj} (e : (hidT h H).get? b = some o) : h.get? b = some o ∧ H b = none := by
  have e' : h.get? b = some o := PySem.W.of_hideAll (trk h H) e
  refine ⟨e', ?_⟩
  cases q : H b with
  | none => rfl
  | some x =>
    have hm : b ∈ trk h H := List.mem_filter.mpr ⟨List.mem_range.mpr (Heap.lt_size e'), by simp [q]⟩
    have z : (hidT h H).get? b = none := PySem.W.hideAll_none (trk h H) hm
    rw [z] at e; cases e

/-! ### OpenK's ledger, filled with every new object but one -/
end L2

namespace L2
open PySem PySem.Spec PyProof.Rows

/-- the module's facts, over the base: the heap at the law's entry without what is tracked there -/
structure Mod (K : PySem.W.Frag) (mg : Str → Option Value) (base : Heap) : Prop where
  kin : K.In base
  glob : base.Ns mainGlobals mg
  blt : ∃ mb, base.Ns builtinsNs mb ∧ ∀ x : Str, x ≠ "__name__" → mb x = bootBuiltins x
  nolimit : base.NoLimit

/-- the context: a def's body (or a comprehension's block) running. base: fixed through the whole law; s₀, H₀: the entry; outer: the frames whose slots others may change (a def's callers); stack: all frames that run;
   ex: iterators that were made ahead of the entry and are walked here (a comprehension's); fn: the names whose cells were made at the entry (a def: all; a comprehension's block: its own); calm: not within an except suite; pn: pins that every state bears; xe: what is wanted of an exception that leaves the code -/
structure Cx where
  prog : Program
  w : World
  K : PySem.W.Frag
  mg : Str → Option Value
  base : Heap
  A : Around
  N : List Str
  s₀ : Shared
  H₀ : Hp
  env : Env
  outer : List Env
  stack : List Env
  ex : List Addr
  fn : Str → Bool
  calm : Bool
  pn : List (Addr × Obj)
  xe : Value → Shared → Prop
/-- the callers' frames -/
def frs (l : List Env) : List Addr := l.filterMap (·.frame)
abbrev Cx.fs (X : Cx) : List Addr := frs X.outer

def Vis (sc : Scope) (x : Str) : Prop := sc.names.lookup x = some .local ∨ sc.names.lookup x = some .cell ∨ sc.names.lookup x = some .free
def Loc (sc : Scope) (x : Str) : Prop := sc.names.lookup x = some .local ∨ sc.names.lookup x = some .cell
def Look (env : Env) (h : Heap) (m : Str → Option Value) (x : Str) (u : Value) : Prop :=
  (env.kindOf x = some .local ∧ m x = some u) ∨ ((env.kindOf x = some .cell ∨ env.kindOf x = some .free) ∧ ∃ c, env.cells.lookup x = some c ∧ h.IsCell c (some u))

structure Cx.Ok (X : Cx) : Prop where
  mod : Mod X.K X.mg X.base
  kind : X.env.scope.kind = .function
  glob : X.env.globals = mainGlobals
  blt : X.env.builtins = builtinsNs
  above : X.s₀.heap.objs.size ≤ X.env.locals
  inj : ∀ x y c, X.env.cells.lookup x = some c → X.env.cells.lookup y = some c → x = y
  has : ∀ x, (X.env.kindOf x = some .cell ∨ X.env.kindOf x = some .free) → ∃ c, X.env.cells.lookup x = some c
  cab : ∀ x c, X.fn x = true → X.env.cells.lookup x = some c → X.s₀.heap.objs.size ≤ c
  hd : X.calm = true → X.A.handled = none
  frames : X.A.frames = some X.stack
  stk : X.stack = X.outer ∨ (X.stack = X.env :: X.outer ∧ X.env.frame = some X.env.locals)
  exf : ∀ b ∈ X.ex, b ≠ X.env.locals ∧ ∀ x c, X.env.cells.lookup x = some c → c ≠ b
  bs : ∀ b o, X.base.get? b = some o → X.s₀.heap.get? b = some o ∧ X.H₀ b = none
  bsz : X.base.objs.size ≤ X.s₀.heap.objs.size
  noex : ∀ b o, X.base.get? b = some o → b ∉ X.ex
  exfs : ∀ b ∈ X.ex, b ∉ X.fs
  funs : X.s₀.heap.FunFrames X.base X.outer
  frf : ∀ b ∈ X.fs, X.H₀ b = none

structure Inv (X : Cx) (pins : List (Addr × Obj)) (σ : List (Option V)) (H : Hp) (s : Shared) : Prop where
  ok : X.Ok
  os : s.os = X.s₀.os
  bare : AllBare s.gens
  base : Un X.fs X.ex X.H₀ H X.s₀.heap s.heap
  loc : ∃ m, s.heap.Ns X.env.locals m ∧ ∀ (i : Nat) (x : Str) (v : V), X.N[i]? = some x → σ[i]? = some (some v) → Vis X.env.scope x → ∃ u, RelV v u ∧ Look X.env s.heap m x u
  cell : ∀ x c, X.env.cells.lookup x = some c → ∃ v, s.heap.IsCell c v
  free : H X.env.locals = none
  freeC : ∀ x c, X.env.cells.lookup x = some c → H c = none
  pin : ∀ p ∈ X.pn ++ pins, s.heap.get? p.1 = some p.2 ∧ H p.1 = none ∧ p.1 ≠ X.env.locals ∧ p.1 ∉ X.fs ∧ ∀ v, p.2.data ≠ .cell v
  hok : HOk X.prog X.w H s.heap
  len : σ.length = X.N.length

section
variable {X : Cx} {pins : List (Addr × Obj)} {σ : List (Option V)} {H H' : Hp} {s : Shared} {h' : Heap}

theorem Cx.Ok.nofr (ok : X.Ok) {b : Addr} {o : Obj} (e : X.base.get? b = some o) : b ∉ X.fs := fun hb => by
  have := (ok.funs.mem hb).1
  rw [e] at this; cases this
theorem Inv.bs (I : Inv X pins σ H s) : ∀ b o, X.base.get? b = some o → s.heap.get? b = some o ∧ H b = none := fun b o e =>
  ⟨I.base.keep b o (I.ok.bs b o e).1 (I.ok.bs b o e).2 (I.ok.nofr e) (I.ok.noex b o e), I.base.free b o (I.ok.bs b o e).1 (I.ok.bs b o e).2 (I.ok.noex b o e)⟩
theorem Inv.bk (I : Inv X pins σ H s) : ∀ b o, X.base.get? b = some o → s.heap.get? b = some o := fun b o e => (I.bs b o e).1
theorem Inv.mod (I : Inv X pins σ H s) : Mod X.K X.mg X.base := I.ok.mod
theorem Inv.kIn (I : Inv X pins σ H s) : X.K.In s.heap := I.ok.mod.kin.keeps I.bk
theorem Inv.lt (I : Inv X pins σ H s) : X.env.locals < s.heap.objs.size := let ⟨_, hn, _⟩ := I.loc; hn.lt
theorem Inv.sz (I : Inv X pins σ H s) : X.s₀.heap.objs.size ≤ s.heap.objs.size := Nat.le_trans I.ok.above (Nat.le_of_lt I.lt)
theorem Inv.nofs (I : Inv X pins σ H s) {a : Addr} (h : s.heap.objs.size ≤ a) : a ∉ X.fs := fun hb => by
  obtain ⟨_, o, ho, _⟩ := I.ok.funs.mem hb
  exact absurd (Nat.lt_of_lt_of_le (Heap.lt_size ho) (Nat.le_trans I.sz h)) (Nat.lt_irrefl _)
theorem Inv.cne (I : Inv X pins σ H s) : ∀ x c, X.env.cells.lookup x = some c → c ≠ X.env.locals := fun x c e z => by
  obtain ⟨v, o, ho, hd⟩ := I.cell x c e
  obtain ⟨m, ⟨o', es, ep, ho', hd', _⟩, _⟩ := I.loc
  rw [z, ho'] at ho; cases ho; rw [hd'] at hd; cases hd
theorem Inv.funs (I : Inv X pins σ H s) : s.heap.FunFrames X.base X.outer := by
  have all : ∀ (l : List Env), (∀ b ∈ frs l, b ∈ X.fs) → X.s₀.heap.FunFrames X.base l → s.heap.FunFrames X.base l := by
    intro l
    induction l with
    | nil => intro _ _; trivial
    | cons env r ih =>
      intro hs hl
      obtain ⟨hk, ⟨L, o, hf, hn, ho, hd⟩, hr⟩ := hl
      have hL : L ∈ X.fs := hs L (by unfold frs; rw [List.filterMap_cons, hf]; exact List.mem_cons_self)
      obtain ⟨sl, e⟩ := I.base.slot L o ho (I.ok.frf L hL) hL fun z => I.ok.exfs L z hL
      exact ⟨hk, ⟨L, _, hf, hn, e, hd⟩, ih (fun b hb => hs b (by unfold frs; rw [List.filterMap_cons, hf]; exact List.mem_cons_of_mem _ hb)) hr⟩
  exact all X.outer (fun _ hb => hb) I.ok.funs

/-- the frames that run, for a call -/
theorem Inv.stack (I : Inv X pins σ H s) : s.heap.FunFrames X.base X.stack := by
  rcases I.ok.stk with e | ⟨e, hf⟩
  · rw [e]; exact I.funs
  · rw [e]
    obtain ⟨m, hn, _⟩ := I.loc
    refine .cons (by rw [I.ok.kind]; decide) hf hn ?_ I.funs
    exact Heap.get?_none_of_le (Nat.le_trans I.ok.bsz I.ok.above)
theorem Inv.stkSub (I : Inv X pins σ H s) : ∀ b ∈ frs X.stack, b ∈ X.env.locals :: X.fs := fun b hb => by
  rcases I.ok.stk with e | ⟨e, hf⟩
  · rw [e] at hb; exact List.mem_cons_of_mem _ hb
  · rw [e] at hb
    unfold frs at hb
    rw [List.filterMap_cons, hf] at hb
    exact hb
theorem Inv.stkFree (I : Inv X pins σ H s) : ∀ b ∈ frs X.stack, H b = none := fun b hb => by
  rcases List.mem_cons.mp (I.stkSub b hb) with e | hb
  · rw [e]; exact I.free
  · obtain ⟨_, o, ho, _⟩ := I.ok.funs.mem hb
    exact I.base.free b o ho (I.ok.frf b hb) fun z => I.ok.exfs b z hb

/-- THE STEP: the untracked objects but the frame and the records at ch are kept (the callers' frames up to slots), the frame's map is kept, the new abstract heap is held -/
theorem Inv.step {g' : Array GenState} {t' : Nat} {d' : Drawn} {ch : List Addr} (I : Inv X pins σ H s)
    (hch : ∀ b ∈ ch, (b ∈ X.ex ∨ X.s₀.heap.objs.size ≤ b) ∧ b ≠ X.env.locals ∧ (∀ x c, X.env.cells.lookup x = some c → c ≠ b) ∧ ∀ p ∈ X.pn ++ pins, p.1 ≠ b)
    (keep : ∀ b o, b ≠ X.env.locals → b ∉ X.fs → b ∉ ch → s.heap.get? b = some o → H b = none → h'.get? b = some o)
    (slot : ∀ b o, b ≠ X.env.locals → b ∈ X.fs → b ∉ ch → s.heap.get? b = some o → H b = none → ∃ sl, h'.get? b = some { o with slots := sl }) (free : ∀ b o, b ∉ ch → s.heap.get? b = some o → H b = none → H' b = none)
    (there : ∀ b o, b ∉ ch → s.heap.get? b = some o → ∃ o', h'.get? b = some o')
    (tups : ∀ b xs, H b = some (.tup xs) → H' b = some (.tup xs)) (frzs : ∀ b o u, H b = some (.frz o u) → H' b = some (.frz o u)) (tbls : ∀ b ps, H b = some (.tbl ps) → ∃ more, H' b = some (.tbl (ps ++ more)))
    (ns : ∀ m, s.heap.Ns X.env.locals m → h'.Ns X.env.locals m) (hok : HOk X.prog X.w H' h') (hg : AllBare g') :
    Inv X pins σ H' { s with heap := h', gens := g', drawn := d', toks := t' } := by
  have neL : ∀ b o, X.s₀.heap.get? b = some o → b ≠ X.env.locals := fun b o e => Nat.ne_of_lt (Nat.lt_of_lt_of_le (Heap.lt_size e) I.ok.above)
  have neC : ∀ b o, X.s₀.heap.get? b = some o → b ∉ X.ex → b ∉ ch := fun b o e hx hb => by
    rcases (hch b hb).1 with z | z
    · exact hx z
    · exact absurd (Nat.lt_of_lt_of_le (Heap.lt_size e) z) (Nat.lt_irrefl _)
  have cellK : ∀ x c, X.env.cells.lookup x = some c → ∀ v, s.heap.IsCell c v → h'.IsCell c v := fun x c e v ⟨o, ho, hd⟩ => by
    have nch : c ∉ ch := fun z => (hch c z).2.2.1 x c e rfl
    by_cases hc : c ∈ X.fs
    · obtain ⟨sl, q⟩ := slot c o (I.cne x c e) hc nch ho (I.freeC x c e)
      exact ⟨_, q, hd⟩
    · exact ⟨o, keep c o (I.cne x c e) hc nch ho (I.freeC x c e), hd⟩
  refine ⟨I.ok, I.os, hg, ⟨fun b o e n hb hx => ?_, fun b o e n hb hx => ?_, fun b o e n hx => ?_, fun b o e hx => ?_, fun b xs e => tups b xs (I.base.tups b xs e), fun b o xs e => frzs b o xs (I.base.frzs b o xs e), fun b ps e => ?_⟩, ?_, fun x c e => ?_, ?_, fun x c e => ?_, fun p hp => ?_, hok, I.len⟩
  · exact keep b o (neL b o e) hb (neC b o e hx) (I.base.keep b o e n hb hx) (I.base.free b o e n hx)
  · obtain ⟨sl, e1⟩ := I.base.slot b o e n hb hx
    obtain ⟨sl', e2⟩ := slot b _ (neL b o e) hb (neC b o e hx) e1 (I.base.free b o e n hx)
    exact ⟨sl', e2⟩
  · obtain ⟨o', e1⟩ := I.base.there b o e hx
    exact free b o' (neC b o e hx) e1 (I.base.free b o e n hx)
  · obtain ⟨o', e1⟩ := I.base.there b o e hx
    exact there b o' (neC b o e hx) e1
  · obtain ⟨m1, e1⟩ := I.base.tbls b ps e
    obtain ⟨m2, e2⟩ := tbls b _ e1
    exact ⟨m1 ++ m2, by rw [e2, Array.append_assoc]⟩
  · obtain ⟨m, hn, hl⟩ := I.loc
    refine ⟨m, ns m hn, fun i x v e1 e2 e3 => ?_⟩
    obtain ⟨u, r, l⟩ := hl i x v e1 e2 e3
    refine ⟨u, r, ?_⟩
    rcases l with l | ⟨k, c, e, z⟩
    · exact .inl l
    · exact .inr ⟨k, c, e, cellK x c e _ z⟩
  · obtain ⟨v, z⟩ := I.cell x c e
    exact ⟨v, cellK x c e v z⟩
  · obtain ⟨m, ⟨o, _, _, ho, _⟩, _⟩ := I.loc
    exact free _ o (fun z => (hch _ z).2.1 rfl) ho I.free
  · obtain ⟨v, o, ho, hd⟩ := I.cell x c e
    exact free c o (fun z => (hch c z).2.2.1 x c e rfl) ho (I.freeC x c e)
  · obtain ⟨e, n, ne, nf, d⟩ := I.pin p hp
    have nch : p.1 ∉ ch := fun z => (hch p.1 z).2.2.2 p hp rfl
    exact ⟨keep p.1 p.2 ne nf nch e n, free p.1 p.2 nch e n, ne, nf, d⟩
/-- .. where the frame's own object is kept too -/
theorem Inv.un {t' : Nat} (I : Inv X pins σ H s) (u : Un X.fs [] H H' s.heap h') (hok : HOk X.prog X.w H' h') : Inv X pins σ H' { s with heap := h', toks := t' } := by
  obtain ⟨m, ⟨o, es, ep, ho, r⟩, _⟩ := id I.loc
  obtain ⟨sl, hL⟩ := u.any ho I.free (by simp)
  exact I.step (g' := s.gens) (d' := s.drawn) (ch := []) (fun _ z => nomatch z) (fun b o _ hb _ e n => u.keep b o e n hb (by simp)) (fun b o _ hb _ e n => u.slot b o e n hb (by simp)) (fun b o _ e n => u.free b o e n (by simp)) (fun b o _ e => u.there b o e (by simp)) u.tups u.frzs u.tbls (fun m' hm => by
    obtain ⟨o', es', ep', ho', r'⟩ := hm
    rw [ho] at ho'; cases ho'
    exact ⟨_, es', ep', hL, r'⟩) hok I.bare
/-- behind a call (or a comprehension's block): the slots of this frame may have changed too, the records at ch may have turned -/
theorem Inv.call {g' : Array GenState} {t' : Nat} {d' : Drawn} {ch : List Addr} (I : Inv X pins σ H s) (u : Un (frs X.stack) ch H H' s.heap h') (hok : HOk X.prog X.w H' h') (hg : AllBare g')
    (hch : ∀ b ∈ ch, (b ∈ X.ex ∨ X.s₀.heap.objs.size ≤ b) ∧ b ≠ X.env.locals ∧ (∀ x c, X.env.cells.lookup x = some c → c ≠ b) ∧ ∀ p ∈ X.pn ++ pins, p.1 ≠ b) :
    Inv X pins σ H' { s with heap := h', gens := g', drawn := d', toks := t' } := by
  obtain ⟨m, ⟨o, es, ep, ho, r⟩, _⟩ := id I.loc
  obtain ⟨sl, hL⟩ := u.any ho I.free fun z => (hch _ z).2.1 rfl
  exact I.step (ch := ch) hch (fun b o hL hb hc e n => u.keep b o e n (fun z => (List.mem_cons.mp (I.stkSub b z)).elim hL hb) hc) (fun b o _ _ hc e n => u.any e n hc) (fun b o hc e n => u.free b o e n hc) (fun b o hc e => u.there b o e hc) u.tups u.frzs u.tbls (fun m' hm => by
    obtain ⟨o', es', ep', ho', r'⟩ := hm
    rw [ho] at ho'; cases ho'
    exact ⟨_, es', ep', hL, r'⟩) hok hg
/-- an untracked record of ours (an iterator) has turned -/
theorem Inv.turned {t' : Nat} {it : Addr} (I : Inv X pins σ H s) (k : ∀ b o, b ≠ it → s.heap.get? b = some o → h'.get? b = some o) (hn : H it = none) (hL : it ≠ X.env.locals)
    (h1 : it ∈ X.ex ∨ X.s₀.heap.objs.size ≤ it) (h2 : ∀ x c, X.env.cells.lookup x = some c → c ≠ it) (h3 : ∀ p ∈ X.pn ++ pins, p.1 ≠ it) : Inv X pins σ H { s with heap := h', toks := t' } := by
  have nit : ∀ b u, H b = some u → b ≠ it := fun b u e z => by rw [z, hn] at e; cases e
  refine I.step (g' := s.gens) (d' := s.drawn) (ch := [it]) (fun b hb => ?_) (fun b o _ _ hc e _ => k b o (fun z => hc (by simp [z])) e) (fun b o _ _ hc e _ => ⟨o.slots, k b o (fun z => hc (by simp [z])) e⟩) (fun _ _ _ _ n => n)
    (fun b o hc e => ⟨o, k b o (fun z => hc (by simp [z])) e⟩) (fun _ _ e => e) (fun _ _ _ e => e) (fun b ps e => ⟨#[], by rw [e]; simp⟩) (fun m hm => ?_) (fun b u e => ?_) I.bare
  · have e : b = it := by simpa using hb
    subst e
    exact ⟨h1, hL, h2, h3⟩
  · obtain ⟨o, es, ep, ho, r⟩ := hm
    exact ⟨o, es, ep, k _ o (Ne.symm hL) ho, r⟩
  · refine (I.hok b u e).stay (fun c v hc q => k c v ?_ q) (fun _ q => q) fun _ _ q => q
    rcases hc with z | z
    · rw [z]; exact nit b u e
    · exact nit c _ z
theorem Inv.tok (I : Inv X pins σ H s) (t : Nat) : Inv X pins σ H { s with toks := t } := I.un (h' := s.heap) (t' := t) Un.refl I.hok
/-- all objects kept -/
theorem Inv.kept {t' : Nat} (I : Inv X pins σ H s) (k : ∀ b u, s.heap.get? b = some u → h'.get? b = some u) : Inv X pins σ H { s with heap := h', toks := t' } := I.un (Un.kept k) (I.hok.kept k)
/-- a new object laid and tracked -/
theorem Inv.laid {a : Addr} {o : HO} {t' : Nat} (I : Inv X pins σ H s) (k : ∀ b u, s.heap.get? b = some u → h'.get? b = some u) (hp : s.heap.objs.size ≤ a) (new : ObjOk X.prog X.w (upd H a o) h' a o) :
    Inv X pins σ (upd H a o) { s with heap := h', toks := t' } := I.un (Un.laid k hp (I.hok.fresh hp)) (I.hok.laid k hp new)
/-- an object written -/
theorem Inv.write {x e : Addr} {o : HO} {t' : Nat} (I : Inv X pins σ H s) (mu : Mut (H x)) (he : e = x ∨ H e = some (.own x)) (k : ∀ b u, b ≠ e → s.heap.get? b = some u → h'.get? b = some u) (heo : ∃ u, h'.get? e = some u)
    (new : ObjOk X.prog X.w (upd H x o) h' x o) : Inv X pins σ (upd H x o) { s with heap := h', toks := t' } := I.un (Un.write mu he k heo) (I.hok.write mu he k heo new)
theorem Inv.pins_of {pins' : List (Addr × Obj)} (I : Inv X pins σ H s) (h : ∀ p ∈ pins', s.heap.get? p.1 = some p.2 ∧ H p.1 = none ∧ p.1 ≠ X.env.locals ∧ p.1 ∉ X.fs ∧ ∀ v, p.2.data ≠ .cell v) : Inv X pins' σ H s :=
  ⟨I.ok, I.os, I.bare, I.base, I.loc, I.cell, I.free, I.freeC, fun p hp => (List.mem_append.mp hp).elim (fun z => I.pin p (List.mem_append_left _ z)) (h p), I.hok, I.len⟩

theorem nodup_ix {N : List Str} (hN : N.Nodup) {i j : Nat} {x : Str} (a : N[i]? = some x) (b : N[j]? = some x) : i = j := by
  obtain ⟨h1, e1⟩ := List.getElem?_eq_some_iff.mp a
  obtain ⟨h2, e2⟩ := List.getElem?_eq_some_iff.mp b
  exact (List.getElem_inj hN).mp (e1.trans e2.symm)

/-- a name is stored; what changed -/
theorem store_ok2 {M : Model} {A : Around} {E : Value → Shared → Prop} {i : Nat} {x : Str} {v : V} {u : Value} {Q : Unit → Shared → Prop} (I : Inv X pins σ H s) (hN : X.N.Nodup) (hi : X.N[i]? = some x) (hx : Loc X.env.scope x) (r : RelV v u)
    (h : ∀ s', Inv X pins (σ.set i (some v)) H s' → (∃ a, Heap.SameBut a s.heap s'.heap ∧ (a = X.env.locals ∨ X.env.cells.lookup x = some a)) → Q () s') (hf : X.fn x = true ∨ X.env.scope.names.lookup x = some .local := by first | exact .inl rfl | exact .inr rfl | assumption) : wpAny M A (storeName X.env x u) Q E s := by
  obtain ⟨m, hn, hl⟩ := id I.loc
  have hcls : (X.env.scope.kind == .class || (X.env.scope.kind == .module && X.env.locals != X.env.globals)) = false := by rw [I.ok.kind]; rfl
  have hiσ : i < σ.length := by rw [I.len]; exact (List.getElem?_eq_some_iff.mp hi).1
  have cne := I.cne
  have tracked : ∀ {a : Addr} {h' : Heap}, (∃ o, s.heap.get? a = some o ∧ H a = none) → Heap.SameBut a s.heap h' → HOk X.prog X.w H h' := fun {a h'} ha hs b ob e => by
    obtain ⟨_, _, hfree⟩ := ha
    refine (I.hok b ob e).stay (fun c w' hc q => (hs.2 c ?_).trans q) (fun _ q => q) fun _ _ q => q
    rintro rfl
    rcases hc with rfl | hc
    · rw [hfree] at e; cases e
    · rw [hfree] at hc; cases hc
  rcases hx with hk | hk
  · refine wpAny_storeName_local hk hn (fun h' hn' hs => ?_) hcls
    obtain ⟨oL, _, _, hoL, _⟩ := id hn
    refine h _ ⟨I.ok, I.os, I.bare, ⟨fun b o e n hb hx => ?_, fun b o e n hb hx => ?_, I.base.free, fun b o e hx => ?_, I.base.tups, I.base.frzs, I.base.tbls⟩, ⟨_, hn', fun j y v' e1 e2 e3 => ?_⟩, fun y c e => ?_, I.free, I.freeC, fun p hp => ?_, tracked ⟨oL, hoL, I.free⟩ hs, by simpa using I.len⟩ ⟨_, hs, .inl rfl⟩
    · exact (hs.2 b (Nat.ne_of_lt (Nat.lt_of_lt_of_le (Heap.lt_size e) I.ok.above))).trans (I.base.keep b o e n hb hx)
    · obtain ⟨sl, e1⟩ := I.base.slot b o e n hb hx
      exact ⟨sl, (hs.2 b (Nat.ne_of_lt (Nat.lt_of_lt_of_le (Heap.lt_size e) I.ok.above))).trans e1⟩
    · obtain ⟨o', e1⟩ := I.base.there b o e hx
      exact ⟨o', (hs.2 b (Nat.ne_of_lt (Nat.lt_of_lt_of_le (Heap.lt_size e) I.ok.above))).trans e1⟩
    · by_cases hj : j = i
      · subst hj
        rw [hi] at e1; cases e1
        rw [List.getElem?_set_self hiσ] at e2
        cases e2
        exact ⟨u, r, .inl ⟨hk, by simp⟩⟩
      · rw [List.getElem?_set_ne (Ne.symm hj)] at e2
        obtain ⟨u', r', q⟩ := hl j y v' e1 e2 e3
        refine ⟨u', r', ?_⟩
        rcases q with ⟨k, e⟩ | ⟨k, c, e, z⟩
        · refine .inl ⟨k, ?_⟩
          have : y ≠ x := fun e => hj (nodup_ix hN e1 (e ▸ hi))
          simp [this, e]
        · exact .inr ⟨k, c, e, z.sameBut hs (cne y c e)⟩
    · obtain ⟨w', z⟩ := I.cell y c e
      exact ⟨w', z.sameBut hs (cne y c e)⟩
    · obtain ⟨e, n, ne, nf, d⟩ := I.pin p hp
      exact ⟨(hs.2 p.1 ne).trans e, n, ne, nf, d⟩
  · have hfn : X.fn x = true := by
      rcases hf with z | z
      · exact z
      · rw [z] at hk; cases hk
    obtain ⟨c, hc⟩ := I.ok.has x (.inl hk)
    obtain ⟨w', z⟩ := I.cell x c hc
    refine wpAny_storeName_cell I.ok.kind hk hc z (fun h' hc' hs => ?_)
    obtain ⟨oc, hoc, hocd⟩ := id z
    refine h { s with heap := h' } ⟨I.ok, I.os, I.bare, ⟨fun b o e n hb hx => ?_, fun b o e n hb hx => ?_, I.base.free, fun b o e hx => ?_, I.base.tups, I.base.frzs, I.base.tbls⟩, ⟨m, hn.sameBut hs (Ne.symm (cne x c hc)), fun j y v' e1 e2 e3 => ?_⟩, fun y c' e => ?_, I.free, I.freeC, fun p hp => ?_, tracked ⟨oc, hoc, I.freeC x c hc⟩ hs, by simpa using I.len⟩ ⟨c, hs, .inr hc⟩
    · exact (hs.2 b (Nat.ne_of_lt (Nat.lt_of_lt_of_le (Heap.lt_size e) (I.ok.cab x c hfn hc)))).trans (I.base.keep b o e n hb hx)
    · obtain ⟨sl, e1⟩ := I.base.slot b o e n hb hx
      exact ⟨sl, (hs.2 b (Nat.ne_of_lt (Nat.lt_of_lt_of_le (Heap.lt_size e) (I.ok.cab x c hfn hc)))).trans e1⟩
    · obtain ⟨o', e1⟩ := I.base.there b o e hx
      exact ⟨o', (hs.2 b (Nat.ne_of_lt (Nat.lt_of_lt_of_le (Heap.lt_size e) (I.ok.cab x c hfn hc)))).trans e1⟩
    · by_cases hj : j = i
      · subst hj
        rw [hi] at e1; cases e1
        rw [List.getElem?_set_self hiσ] at e2
        cases e2
        exact ⟨u, r, .inr ⟨.inl hk, c, hc, hc'⟩⟩
      · rw [List.getElem?_set_ne (Ne.symm hj)] at e2
        obtain ⟨u', r', q⟩ := hl j y v' e1 e2 e3
        refine ⟨u', r', ?_⟩
        rcases q with q | ⟨k, c', e, z'⟩
        · exact .inl q
        · refine .inr ⟨k, c', e, z'.sameBut hs ?_⟩
          rintro rfl
          exact hj (nodup_ix hN e1 (I.ok.inj _ _ _ e hc ▸ hi))
    · by_cases hcc : c' = c
      · subst hcc; exact ⟨_, hc'⟩
      · obtain ⟨w2, z2⟩ := I.cell y c' e
        exact ⟨w2, z2.sameBut hs hcc⟩
    · obtain ⟨e, n, ne, nf, d⟩ := I.pin p hp
      refine ⟨(hs.2 p.1 ?_).trans e, n, ne, nf, d⟩
      intro q
      rw [q, hoc] at e
      have q' : oc = p.2 := Option.some.inj e
      exact d w' (by rw [← q']; exact hocd)
theorem store_ok {M : Model} {A : Around} {E : Value → Shared → Prop} {i : Nat} {x : Str} {v : V} {u : Value} {Q : Unit → Shared → Prop} (I : Inv X pins σ H s) (hN : X.N.Nodup) (hi : X.N[i]? = some x) (hx : Loc X.env.scope x) (r : RelV v u)
    (h : ∀ s', Inv X pins (σ.set i (some v)) H s' → Q () s') (hf : X.fn x = true ∨ X.env.scope.names.lookup x = some .local := by first | exact .inl rfl | exact .inr rfl | assumption) : wpAny M A (storeName X.env x u) Q E s :=
  store_ok2 I hN hi hx r (fun s' I' _ => h s' I') hf
/-- behind a call or a block, the state as it is -/
theorem Inv.call' {s' : Shared} {ch : List Addr} (I : Inv X pins σ H s) (ho : s'.os = s.os) (u : Un (frs X.stack) ch H H' s.heap s'.heap) (hok : HOk X.prog X.w H' s'.heap) (hg : AllBare s'.gens)
    (hch : ∀ b ∈ ch, (b ∈ X.ex ∨ X.s₀.heap.objs.size ≤ b) ∧ b ≠ X.env.locals ∧ (∀ x c, X.env.cells.lookup x = some c → c ≠ b) ∧ ∀ p ∈ X.pn ++ pins, p.1 ≠ b) : Inv X pins σ H' s' := by
  obtain ⟨h', g', d', t', o'⟩ := s'
  have e : o' = s.os := ho
  subst e
  exact I.call (g' := g') (t' := t') (d' := d') u hok hg hch
end

/-! ### the judgements -/
/-- an exception: its class, its own dict's address (where it has one), the abstract heap behind it -/
abbrev XK := Value → Option Addr → Hp → Prop
abbrev St := List (Option V)
abbrev VK := V → Hp → Prop
/-- an expression's reading; a test's; an argument list's -/
abbrev TE := St → Hp → VK → Prop
abbrev TT := St → Hp → (Bool → Hp → Prop) → Prop
abbrev TA := St → Hp → (List V → Hp → Prop) → Prop
/-- what is wanted behind a statement -/
structure Ends where
  nx : St → Hp → Prop
  rt : VK
  bk : St → Hp → Prop := fun _ _ => False
  ct : St → Hp → Prop := fun _ _ => False
abbrev TS := Ends → St → Hp → Prop

def EP (X : Cx) (pins : List (Addr × Obj)) (σ : St) (Q : VK) (u : Value) (s' : Shared) : Prop := ∃ v H', Inv X pins σ H' s' ∧ RelV v u ∧ Q v H'
def TP (X : Cx) (pins : List (Addr × Obj)) (σ : St) (Q : Bool → Hp → Prop) (b : Bool) (s' : Shared) : Prop := ∃ H', Inv X pins σ H' s' ∧ Q b H'
def AP (X : Cx) (pins : List (Addr × Obj)) (σ : St) (Q : List V → Hp → Prop) (us : List Value) (s' : Shared) : Prop := ∃ vs H', Inv X pins σ H' s' ∧ Vals vs us ∧ Q vs H'
def SP (X : Cx) (pins : List (Addr × Obj)) (D : Ends) (f : Flow) (s' : Shared) : Prop :=
  match f with
  | .next => ∃ σ' H', Inv X pins σ' H' s' ∧ D.nx σ' H'
  | .brk => ∃ σ' H', Inv X pins σ' H' s' ∧ D.bk σ' H'
  | .cont => ∃ σ' H', Inv X pins σ' H' s' ∧ D.ct σ' H'
  | .ret u => ∃ v σ' H', Inv X pins σ' H' s' ∧ RelV v u ∧ D.rt v H'

def PE (X : Cx) (e : Expr) (t : TE) : Prop :=
  ∀ (pins : List (Addr × Obj)) (s : Shared) (σ : St) (H : Hp) (Q : VK), Inv X pins σ H s → t σ H Q → wpAny (model X.prog X.w) X.A (eval e X.env) (EP X pins σ Q) X.xe s
def PT (X : Cx) (e : Expr) (t : TT) : Prop :=
  ∀ (pins : List (Addr × Obj)) (s : Shared) (σ : St) (H : Hp) (Q : Bool → Hp → Prop), Inv X pins σ H s → t σ H Q → wpAny (model X.prog X.w) X.A (isTrue e X.env (eval e X.env)) (TP X pins σ Q) X.xe s
/-- a test whatever its 'whole' is (and, or) -/
def PW (X : Cx) (e : Expr) (t : TT) : Prop :=
  ∀ (whole : Sem Value) (pins : List (Addr × Obj)) (s : Shared) (σ : St) (H : Hp) (Q : Bool → Hp → Prop), Inv X pins σ H s → t σ H Q → wpAny (model X.prog X.w) X.A (isTrue e X.env whole) (TP X pins σ Q) X.xe s
theorem PW.pt {X : Cx} {e : Expr} {t : TT} (h : PW X e t) : PT X e t := h _
/-- an argument list (no star), from the left -/
def PA (X : Cx) (es : List Expr) (t : TA) : Prop :=
  ∀ (pos : Pos) (pins : List (Addr × Obj)) (s : Shared) (σ : St) (H : Hp) (Q : List V → Hp → Prop), Inv X pins σ H s → t σ H Q → wpAny (model X.prog X.w) X.A (spliced (backTo pos (starEach es X.env))) (AP X pins σ Q) X.xe s
def PS (X : Cx) (st : Stmt) (t : TS) : Prop :=
  ∀ (pins : List (Addr × Obj)) (s : Shared) (σ : St) (H : Hp) (D : Ends), Inv X pins σ H s → t D σ H → wpAny (model X.prog X.w) X.A (exec st X.env) (SP X pins D) X.xe s
def PSs (X : Cx) (st : List Stmt) (t : TS) : Prop :=
  ∀ (pins : List (Addr × Obj)) (s : Shared) (σ : St) (H : Hp) (D : Ends), Inv X pins σ H s → t D σ H → wpAny (model X.prog X.w) X.A (execs st X.env) (SP X pins D) X.xe s
/-- weaken the end -/
theorem thn {α : Type} {t : Sem α} {Q Q' : α → Shared → Prop} {M : Model} {A : Around} {E : Value → Shared → Prop} {s : Shared} (h : wpAny M A t Q E s) (hQ : ∀ a s, Q a s → Q' a s) : wpAny M A t Q' E s := wpAny_mono h hQ fun _ _ x => x
end L2

namespace L2
open PySem PySem.Spec PyProof.Rows
section
variable {X : Cx}


/-! ### names and constants -/
def tVar (i : Nat) : TE := fun σ H Q => ∃ v, σ[i]? = some (some v) ∧ Q v H
def tC (v : V) : TE := fun _ H Q => Q v H
theorem pe_var {i : Nat} {x : Str} {pos : Pos} (hN : X.N[i]? = some x) (hv : Vis X.env.scope x) (hd : (x == ("__debug__" : Str)) = false := by decide) (hcd : (x == ("__classdict__" : Str)) = false := by decide) : PE X (.Name x pos) (tVar i) := by
  intro pins s σ H Q I h
  obtain ⟨v, e, h⟩ := h
  obtain ⟨m, hn, hl⟩ := I.loc
  obtain ⟨u, r, l⟩ := hl i x v hN e hv
  have fin : EP X pins σ Q u s := ⟨v, H, I, r, h⟩
  rcases l with ⟨hk, hm⟩ | ⟨hk, c, hc, hcell⟩
  · exact wpAny_Name (wpAny_loadName_local I.ok.kind hk hn hm fin) hd
  · rcases hk with hk | hk
    · exact wpAny_Name (wpAny_loadName_cell I.ok.kind hk hc hcell fin) hd
    · exact wpAny_Name (wpAny_loadName_free I.ok.kind hk hc hcell fin hcd) hd
theorem pe_int {i j pos} : PE X (.Constant (.int i) j pos) (tC (.int i)) := fun _ _ _ H _ I h => wpAny_Constant_int ⟨.int i, H, I.tok _, ⟨_, rfl⟩, h⟩
theorem pe_bl {b j pos} : PE X (.Constant (.bool b) j pos) (tC (.bl b)) := fun _ _ _ H _ I h => Constant_bool ⟨.bl b, H, I, rfl, h⟩
theorem pe_non {j pos} : PE X (.Constant .none j pos) (tC .non) := fun _ _ _ H _ I h => Constant_none ⟨.non, H, I, rfl, h⟩

/-- a global name of the def -/
def Gl (X : Cx) (x : Str) : Prop := X.env.kindOf x = some .globalImplicit
theorem ld_glob {E : Value → Shared → Prop} {pins : List (Addr × Obj)} {s : Shared} {σ : St} {H : Hp} {x : Str} {u : Value} {pos : Pos} {Q : Value → Shared → Prop} (I : Inv X pins σ H s) (hg : Gl X x) (hm : X.mg x = some u) (h : Q u s)
    (hd : (x == ("__debug__" : Str)) = false := by decide) : wpAny (model X.prog X.w) X.A (eval (.Name x pos) X.env) Q E s :=
  Calls.Name_function_global I.ok.kind hg (Calls.loadGlobal_global (by rw [I.ok.glob]; exact I.mod.glob.keeps I.bk) hm h) hd
theorem ld_blt {E : Value → Shared → Prop} {pins : List (Addr × Obj)} {s : Shared} {σ : St} {H : Hp} {x : Str} {u : Value} {pos : Pos} {Q : Value → Shared → Prop} (I : Inv X pins σ H s) (hg : Gl X x) (hm : X.mg x = none) (hv : bootBuiltins x = some u) (h : Q u s)
    (hn : x ≠ "__name__" := by decide) (hd : (x == ("__debug__" : Str)) = false := by decide) : wpAny (model X.prog X.w) X.A (eval (.Name x pos) X.env) Q E s := by
  obtain ⟨mb, h1, h2⟩ := I.mod.blt
  exact Calls.Name_function_global I.ok.kind hg (Calls.loadGlobal_builtin (by rw [I.ok.glob]; exact I.mod.glob.keeps I.bk) hm (by rw [I.ok.blt]; exact h1.keeps I.bk) ((h2 x hn).trans hv) h) hd

/-! ### arithmetic -/
variable {a b : Expr} {ta tb : TE} {pos : Pos}

/-! ### comparisons -/
def PC (X : Cx) (op : CmpOp) (a b : Expr) (t : TE) : Prop :=
  ∀ (pins : List (Addr × Obj)) (s : Shared) (σ : St) (H : Hp) (Q : VK), Inv X pins σ H s → t σ H Q →
    wpAny (model X.prog X.w) X.A (eval a X.env) (fun v s₁ => wpAny (model X.prog X.w) X.A (eval b X.env) (fun u s₂ => wpAny (model X.prog X.w) X.A (compareOp op v u) (EP X pins σ Q) X.xe s₂) X.xe s₁) X.xe s
/-- a comparison as a value, as a test -/
def tB (t : TE) : TT := fun σ H Q => t σ H fun x H1 => ∃ c, x = .bl c ∧ Q c H1
theorem pe_cmp {op : CmpOp} {t : TE} (h : PC X op a b t) (h1 : behindInMarks op b = false := by first | exact nobehind _ (by decide) (by decide) | rfl) : PE X (.Compare a [op] [b] pos) t := fun pins s σ H Q I hw => wpAny_Compare1 (h pins s σ H Q I hw) h1
theorem pt_cmp {op : CmpOp} {t : TE} (h : PC X op a b t) (h1 : behindInMarks op b = false := by first | exact nobehind _ (by decide) (by decide) | rfl) : PT X (.Compare a [op] [b] pos) (tB t) := by
  intro pins s σ H Q I hw
  refine wpAny_isTrue_Compare1 (thn (h pins s σ H _ I hw) fun v s1 h1 => thn h1 fun u s2 h2 => thn h2 fun c s3 ⟨x, H1, I1, r1, q1⟩ => ?_) h1
  obtain ⟨d, rfl, q⟩ := q1
  cases r1
  exact wpAny_truthy_bool ⟨H1, I1, q⟩
/-- an expression whose value is a bool, as a test -/
theorem pt_val {e : Expr} {t : TE} (h : PE X e t) (he : ∀ whole, isTrue e X.env whole = (do let v ← whole; standAt e.pos; holding [v] (truthy v)) := by intro _; rfl) : PT X e (tB t) := by
  intro pins s σ H Q I hw
  refine isTrue_plain (thn (h pins s σ H _ I hw) fun v s1 ⟨x, H1, I1, r1, q1⟩ => ?_) (he _)
  obtain ⟨d, rfl, q⟩ := q1
  cases r1
  exact wpAny_truthy_bool ⟨H1, I1, q⟩

/-! ### and, or, not -/
variable {tA tB' : TT} {rest : List Expr}
def tAnd (t u : TT) : TT := fun σ H Q => t σ H fun c H1 => if c = true then u σ H1 Q else Q false H1
def tOr (t u : TT) : TT := fun σ H Q => t σ H fun c H1 => if c = true then Q true H1 else u σ H1 Q
def tNot (t : TT) : TT := fun σ H Q => t σ H fun c H1 => Q (!c) H1
theorem pw_and1 (ha : PT X a tA) : PW X (.BoolOp .And [a] pos) tA := by
  intro wh pins s σ H Q I h
  refine isTrue_and (thn (ha pins s σ H Q I h) fun c s1 e => ?_)
  cases c with
  | true => exact isTrue_and_nil e
  | false => exact e
theorem pw_or1 (ha : PT X a tA) : PW X (.BoolOp .Or [a] pos) tA := by
  intro wh pins s σ H Q I h
  refine isTrue_or (thn (ha pins s σ H Q I h) fun c s1 e => ?_)
  cases c with
  | false => exact isTrue_or_nil e
  | true => exact e
theorem pw_and (ha : PT X a tA) (hb : PW X (.BoolOp .And (b :: rest) pos) tB') : PW X (.BoolOp .And (a :: b :: rest) pos) (tAnd tA tB') := by
  intro wh pins s σ H Q I h
  refine isTrue_and (thn (ha pins s σ H _ I h) fun c s1 ⟨H1, I1, q1⟩ => ?_)
  cases c with
  | true => exact hb wh pins s1 σ H1 Q I1 q1
  | false => exact ⟨H1, I1, q1⟩
theorem pw_or (ha : PT X a tA) (hb : PW X (.BoolOp .Or (b :: rest) pos) tB') : PW X (.BoolOp .Or (a :: b :: rest) pos) (tOr tA tB') := by
  intro wh pins s σ H Q I h
  refine isTrue_or (thn (ha pins s σ H _ I h) fun c s1 ⟨H1, I1, q1⟩ => ?_)
  cases c with
  | true => exact ⟨H1, I1, q1⟩
  | false => exact hb wh pins s1 σ H1 Q I1 q1
theorem pt_not (ha : PT X a tA) : PT X (.UnaryOp .Not a pos) (tNot tA) := by
  intro pins s σ H Q I h
  exact isTrue_not (ha pins s σ H (fun c H1 => Q (!c) H1) I h)
/-- .. as values (bools) -/
def tAndV (ta tb : TE) : TE := fun σ H Q => ta σ H fun x H1 => ∃ c, x = .bl c ∧ if c = true then tb σ H1 Q else Q (.bl false) H1
def tOrV (ta tb : TE) : TE := fun σ H Q => ta σ H fun x H1 => ∃ c, x = .bl c ∧ if c = true then Q (.bl true) H1 else tb σ H1 Q
def tNotV (ta : TE) : TE := fun σ H Q => ta σ H fun x H1 => ∃ c, x = .bl c ∧ Q (.bl (!c)) H1
theorem pe_one {op} {t : TE} (h : PE X a t) : PE X (.BoolOp op [a] pos) t := fun pins s σ H Q I hw => BoolOp_one (h pins s σ H Q I hw)
theorem pe_and (ha : PE X a ta) (hb : PE X (.BoolOp .And (b :: rest) pos) tb) : PE X (.BoolOp .And (a :: b :: rest) pos) (tAndV ta tb) := by
  intro pins s σ H Q I h
  refine BoolOp_and (thn (ha pins s σ H _ I h) fun v s1 ⟨x, H1, I1, r1, q1⟩ => ?_)
  obtain ⟨c, rfl, q1⟩ := q1
  cases r1
  refine wpAny_truthy_bool ?_
  cases c with
  | true => exact hb pins s1 σ H1 Q I1 q1
  | false => exact ⟨.bl false, H1, I1, rfl, q1⟩
theorem pe_or (ha : PE X a ta) (hb : PE X (.BoolOp .Or (b :: rest) pos) tb) : PE X (.BoolOp .Or (a :: b :: rest) pos) (tOrV ta tb) := by
  intro pins s σ H Q I h
  refine BoolOp_or (thn (ha pins s σ H _ I h) fun v s1 ⟨x, H1, I1, r1, q1⟩ => ?_)
  obtain ⟨c, rfl, q1⟩ := q1
  cases r1
  refine wpAny_truthy_bool ?_
  cases c with
  | false => exact hb pins s1 σ H1 Q I1 q1
  | true => exact ⟨.bl true, H1, I1, rfl, q1⟩
theorem pe_not (ha : PE X a ta) : PE X (.UnaryOp .Not a pos) (tNotV ta) := by
  intro pins s σ H Q I h
  refine UnaryOp_ (thn (ha pins s σ H _ I h) fun v s1 ⟨x, H1, I1, r1, q1⟩ => ?_)
  obtain ⟨c, rfl, q1⟩ := q1
  cases r1
  exact not_of (wpAny_truthy_bool ⟨.bl (!c), H1, I1, rfl, q1⟩)
end
end L2

namespace L2
open PySem PySem.Spec PyProof.Rows

/-! ### a list, a tuple that is read: tracked, frozen, or an object of the module -/
def SqL (K : PySem.W.Frag) (H : Hp) (a : Addr) (xs : List V) : Prop :=
  Rd H a (.lst xs) ∨
    ∃ (o : Obj) (its : Array Value) (n : Nat), K.lookup a = some o ∧ o.cls = .type "list" ∧ o.dict = none ∧ o.data = .seq its n ∧ its.size ≤ sizeLine ∧ Vals xs its.toList
def SqT (K : PySem.W.Frag) (H : Hp) (a : Addr) (xs : List V) : Prop :=
  Rd H a (.tup xs) ∨
    ∃ (o : Obj) (its : Array Value) (n : Nat), K.lookup a = some o ∧ o.cls = .type "tuple" ∧ o.data = .seq its n ∧ its.size ≤ sizeLine ∧ Vals xs its.toList
def absV : Value → Option V
  | .none => some .non
  | .bool b => some (.bl b)
  | .int i _ => some (.int i)
  | .str x _ => some (.str x)
  | .bytes b _ => some (.byt b)
  | .float b _ => some (.flt b)
  | .ref a => some (.ref a)
  | .type n => some (.ty n)
  | _ => none
theorem RelV.abs {x : V} {u : Value} (r : RelV x u) : absV u = some x := by
  cases x with
  | non => cases r; rfl
  | bl _ => cases r; rfl
  | int _ => obtain ⟨t, rfl⟩ := r; rfl
  | str _ => obtain ⟨t, rfl⟩ := r; rfl
  | byt _ => obtain ⟨t, rfl⟩ := r; rfl
  | flt _ => obtain ⟨t, rfl⟩ := r; rfl
  | ref _ => cases r; rfl
  | ty _ => cases r; rfl
theorem RelV.inj {x y : V} {u : Value} (r : RelV x u) (q : RelV y u) : x = y := Option.some.inj (r.abs.symm.trans q.abs)
theorem Vals.inj : ∀ {xs ys : List V} {us : List Value}, Vals xs us → Vals ys us → xs = ys
  | _, _, _, .nil, .nil => rfl
  | _, _, _, .cons r t, .cons r' t' => by rw [r.inj r', Vals.inj t t']
section
variable {X : Cx} {pins : List (Addr × Obj)} {σ : St} {H : Hp} {s : Shared} {a : Addr} {xs ys : List V}
theorem SqL.of {K : PySem.W.Frag} (h : H a = some (.lst xs)) : SqL K H a xs := .inl (.inl h)
theorem SqT.of {K : PySem.W.Frag} (h : H a = some (.tup xs)) : SqT K H a xs := .inl (.inl h)
theorem Inv.list (I : Inv X pins σ H s) (h : SqL X.K H a xs) : ∃ its : List Value, Vals xs its ∧ PlainL s.heap a its.toArray ∧ xs.length ≤ sizeLine := by
  rcases h with h | ⟨o, its, n, hk, hc, hd, hs, hz, r⟩
  · obtain ⟨z, its, n, r, e⟩ := h.ok I.hok
    exact ⟨its, r, ⟨_, n, e, rfl, rfl, rfl⟩, z⟩
  · refine ⟨its.toList, r, ⟨o, n, I.kIn a o hk, hc, hd, by simpa using hs⟩, ?_⟩
    have e := r.length
    simp only [Array.length_toList] at e
    omega
theorem Inv.tuple (I : Inv X pins σ H s) (h : SqT X.K H a xs) : ∃ its : List Value, Vals xs its ∧ IsTup s.heap a its.toArray ∧ xs.length ≤ sizeLine := by
  rcases h with h | ⟨o, its, n, hk, hc, hs, hz, r⟩
  · obtain ⟨z, its, r, p⟩ := h.ok I.hok
    exact ⟨its, r, p, z⟩
  · refine ⟨its.toList, r, ⟨o, I.kIn a o hk, hc, n, by simpa using hs⟩, ?_⟩
    have e := r.length
    simp only [Array.length_toList] at e
    omega
theorem Inv.list_inj (I : Inv X pins σ H s) (h : SqL X.K H a xs) (h' : SqL X.K H a ys) : xs = ys := by
  obtain ⟨its, r, ⟨o, n, e, _, _, d⟩, _⟩ := I.list h
  obtain ⟨its', r', ⟨o', n', e', _, _, d'⟩, _⟩ := I.list h'
  rw [e] at e'; cases e'
  rw [d] at d'
  injection d' with d1 _
  have : its = its' := by simpa using congrArg Array.toList d1
  subst this
  exact r.inj r'
end

/-! ### another wish about exceptions -/
abbrev Cx.wish (X : Cx) (E : Value → Shared → Prop) : Cx := { X with xe := E }
/-- no exception leaves -/
abbrev Cx.nox (X : Cx) : Cx := X.wish fun _ _ => False
theorem Cx.Ok.wish {X : Cx} (ok : X.Ok) (E : Value → Shared → Prop) : (X.wish E).Ok :=
  ⟨ok.mod, ok.kind, ok.glob, ok.blt, ok.above, ok.inj, ok.has, ok.cab, ok.hd, ok.frames, ok.stk, ok.exf, ok.bs, ok.bsz, ok.noex, ok.exfs, ok.funs, ok.frf⟩
theorem Cx.Ok.unwish {X : Cx} {E : Value → Shared → Prop} (ok : (X.wish E).Ok) : X.Ok :=
  ⟨ok.mod, ok.kind, ok.glob, ok.blt, ok.above, ok.inj, ok.has, ok.cab, ok.hd, ok.frames, ok.stk, ok.exf, ok.bs, ok.bsz, ok.noex, ok.exfs, ok.funs, ok.frf⟩
section
variable {X : Cx} {pins : List (Addr × Obj)} {σ : St} {H : Hp} {s : Shared} {E : Value → Shared → Prop}
theorem Inv.wish (I : Inv X pins σ H s) (E : Value → Shared → Prop) : Inv (X.wish E) pins σ H s := ⟨I.ok.wish E, I.os, I.bare, I.base, I.loc, I.cell, I.free, I.freeC, I.pin, I.hok, I.len⟩
theorem Inv.unwish (I : Inv (X.wish E) pins σ H s) : Inv X pins σ H s := ⟨I.ok.unwish, I.os, I.bare, I.base, I.loc, I.cell, I.free, I.freeC, I.pin, I.hok, I.len⟩
theorem SP.unwish {D : Ends} {f : Flow} {s' : Shared} (h : SP (X.wish E) pins D f s') : SP X pins D f s' := by
  cases f with
  | next => obtain ⟨σ', H', I, q⟩ := h; exact ⟨σ', H', I.unwish, q⟩
  | brk => obtain ⟨σ', H', I, q⟩ := h; exact ⟨σ', H', I.unwish, q⟩
  | cont => obtain ⟨σ', H', I, q⟩ := h; exact ⟨σ', H', I.unwish, q⟩
  | ret u => obtain ⟨v, σ', H', I, r, q⟩ := h; exact ⟨v, σ', H', I.unwish, r, q⟩
theorem PSs.nox {st : List Stmt} {t : TS} (h : PSs X.nox st t) : PSs X st t := fun pins s σ H D I hw =>
  wpAny_mono (h pins s σ H D (I.wish _) hw) (fun _ _ q => q.unwish) fun _ _ z => False.elim z
end

/-! ### blocks and small statements -/
section
variable {X : Cx} {st : Stmt} {rest : List Stmt} {t u : TS} {e : Expr} {te : TE} {pos : Pos}
def tNext : TS := fun D σ H => D.nx σ H
def tSeq (t u : TS) : TS := fun D σ H => t { D with nx := u D } σ H
theorem pss_nil : PSs X [] tNext := fun _ _ σ H _ I h => wpAny_execs_nil ⟨σ, H, I, h⟩
theorem pss_cons (h1 : PS X st t) (h2 : PSs X rest u) : PSs X (st :: rest) (tSeq t u) := by
  intro pins s σ H D I h
  refine wpAny_execs_cons (thn (h1 pins s σ H { D with nx := u D } I h) fun f s1 q => ?_)
  cases f with
  | next =>
    obtain ⟨σ', H', I', q⟩ := q
    exact h2 pins s1 σ' H' D I' q
  | ret v => exact q
  | brk => exact q
  | cont => exact q
theorem pss_one (h1 : PS X st t) : PSs X [st] t := by
  intro pins s σ H D I h
  refine wpAny_execs_cons (thn (h1 pins s σ H D I h) fun f s1 q => ?_)
  cases f with
  | next => exact wpAny_execs_nil q
  | ret v => exact q
  | brk => exact q
  | cont => exact q
/-- in a def's body nothing is shown -/
theorem Inv.quiet {pins : List (Addr × Obj)} {σ : St} {H : Hp} {s : Shared} (I : Inv X pins σ H s) : interactive X.env = false := by simp [interactive, I.ok.kind]
/-- an expression whose value is dropped -/
def tDrop (te : TE) : TS := fun D σ H => te σ H fun _ H1 => D.nx σ H1
theorem ps_expr (he : PE X e te) (hs : swapsWith e none pos.line X.env = pure false := by rfl) : PS X (.Expr e pos) (tDrop te) := by
  intro pins s σ H D I h
  exact wpAny_Expr_any (thn (he pins s σ H _ I h) fun v s1 ⟨x, H1, I1, r1, q1⟩ => ⟨σ, H1, I1, q1⟩) I.quiet hs
def tRet (te : TE) : TS := fun D σ H => te σ H D.rt
theorem ps_ret (he : PE X e te) : PS X (.Return (some e) pos) (tRet te) := by
  intro pins s σ H D I h
  exact wpAny_Return_some (thn (he pins s σ H _ I h) fun v s1 ⟨x, H1, I1, r1, q1⟩ => ⟨x, σ, H1, I1, r1, q1⟩)
def tIfS (c : TT) (t u : TS) : TS := fun D σ H => c σ H fun b H1 => if b = true then t D σ H1 else u D σ H1
theorem ps_if {c : Expr} {a b : List Stmt} {tc : TT} (hc : PT X c tc) (ha : PSs X a t) (hb : PSs X b u) : PS X (.If c a b pos) (tIfS tc t u) := by
  intro pins s σ H D I h
  refine wpAny_If (thn (hc pins s σ H _ I h) fun d s1 ⟨H1, I1, q1⟩ => ?_)
  cases d with
  | true => exact ha pins s1 σ H1 D I1 q1
  | false => exact hb pins s1 σ H1 D I1 q1
end

/-! ### targets -/
abbrev TG := V → St → Hp → (St → Hp → Prop) → Prop
abbrev TGs := List V → St → Hp → (St → Hp → Prop) → Prop
def PG (X : Cx) (target : Expr) (t : TG) : Prop :=
  ∀ (pins : List (Addr × Obj)) (s : Shared) (σ : St) (H : Hp) (v : V) (u : Value) (Q : St → Hp → Prop), Inv X pins σ H s → RelV v u → t v σ H Q →
    wpAny (model X.prog X.w) X.A (assign target X.env u) (fun _ s' => ∃ σ' H', Inv X pins σ' H' s' ∧ Q σ' H') X.xe s
/-- several targets, one after another -/
def PGs (X : Cx) (ts : List Expr) (t : TGs) : Prop :=
  ∀ (pins : List (Addr × Obj)) (s : Shared) (σ : St) (H : Hp) (vs : List V) (us : List Value) (Q : St → Hp → Prop), Inv X pins σ H s → Vals vs us → t vs σ H Q →
    wpAny (model X.prog X.w) X.A (assignInOrder ((assignEach ts X.env).map (·.2)) us) (fun _ s' => ∃ σ' H', Inv X pins σ' H' s' ∧ Q σ' H') X.xe s
/-- o[i] = v, by values -/
abbrev TSet := V → V → V → Hp → (Hp → Prop) → Prop
def PSet (X : Cx) (t : TSet) : Prop :=
  ∀ (pins : List (Addr × Obj)) (s : Shared) (σ : St) (H : Hp) (o i v : V) (ov iv u : Value) (Q : Hp → Prop), Inv X pins σ H s → RelV o ov → RelV i iv → RelV v u → t o i v H Q →
    wpAny (model X.prog X.w) X.A (setItem ov iv u) (fun _ s' => ∃ H', Inv X pins σ H' s' ∧ Q H') X.xe s
/-- a op= b, by values -/
abbrev TIp := V → V → Hp → VK → Prop
def PIp (X : Cx) (op : Operator) (t : TIp) : Prop :=
  ∀ (pins : List (Addr × Obj)) (s : Shared) (σ : St) (H : Hp) (x y : V) (v u : Value) (Q : VK), Inv X pins σ H s → RelV x v → RelV y u → t x y H Q →
    wpAny (model X.prog X.w) X.A (inplaceOp op v u) (EP X pins σ Q) X.xe s
section
variable {X : Cx} {pos : Pos}
def gName (i : Nat) : TG := fun v σ H Q => Q (σ.set i (some v)) H
theorem pg_name {i : Nat} {x : Str} (hN : X.N.Nodup) (hi : X.N[i]? = some x) (hx : Loc X.env.scope x) (hf : X.fn x = true ∨ X.env.scope.names.lookup x = some .local := by first | exact .inl rfl | exact .inr rfl | assumption) : PG X (.Name x pos) (gName i) := by
  intro pins s σ H v u Q I r h
  exact wpAny_assign_Name (store_ok I hN hi hx r (fun s' I' => ⟨_, H, I', h⟩) hf)
def gNil : TGs := fun vs σ H Q => vs = [] ∧ Q σ H
def gCons (t : TG) (u : TGs) : TGs := fun vs σ H Q => ∃ v r, vs = v :: r ∧ t v σ H fun σ' H' => u r σ' H' Q
theorem pgs_nil : PGs X [] gNil := by
  intro pins s σ H vs us Q I r h
  obtain ⟨e, h⟩ := h
  subst e
  cases r
  exact assignInOrder_nil ⟨σ, H, I, h⟩
theorem pgs_cons {e : Expr} {es : List Expr} {t : TG} {u : TGs} (h1 : PG X e t) (h2 : PGs X es u)
    (hs : (assignEach (e :: es) X.env).map (·.2) = assign e X.env :: (assignEach es X.env).map (·.2) := by rfl) : PGs X (e :: es) (gCons t u) := by
  intro pins s σ H vs us Q I r h
  obtain ⟨v, vr, e1, h⟩ := h
  subst e1
  cases r with
  | cons r rr =>
    rw [hs]
    refine assignInOrder_cons (thn (h1 pins s σ H _ _ _ I r h) fun _ s1 ⟨σ1, H1, I1, q1⟩ => ?_)
    exact h2 pins s1 σ1 H1 _ _ Q I1 rr q1
/-- (a, b, ..) = a tuple of that length -/
def gTup (K : PySem.W.Frag) (n : Nat) (t : TGs) : TG := fun v σ H Q => ∃ a xs, v = .ref a ∧ SqT K H a xs ∧ xs.length = n ∧ t xs σ H Q
theorem pg_tup {es : List Expr} {k : Nat} {t : TGs} {n : Nat} (hc : X.calm = true) (h : PGs X es t)
    (hn : (assignEach es X.env).length = n := by rfl) (hst : (assignEach es X.env).findIdx? (·.1) = none := by rfl) : PG X (.Tuple es k pos) (gTup X.K n t) := by
  intro pins s σ H v u Q I r hw
  obtain ⟨a, xs, e1, hq, hl, hw⟩ := hw
  subst e1
  cases r
  obtain ⟨its, rv, ht, hz⟩ := I.tuple hq
  refine assign_Tuple_tuple (I.ok.hd hc) ht (by simp [hn, ← hl, rv.length]) hst fun h' hx => ?_
  have I1 : Inv X pins σ H { s with heap := h' } := I.kept (t' := s.toks) fun b o e => hx b o (Nat.ne_of_lt (Heap.lt_size e)) e
  exact h pins _ σ H xs _ Q I1 (by simpa using rv) hw
/-- o[i] = .. -/
def gSub (to ti : TE) (t : TSet) : TG := fun v σ H Q => to σ H fun o H1 => ti σ H1 fun i H2 => t o i v H2 fun H3 => Q σ H3
theorem pg_sub {o i : Expr} {to ti : TE} {t : TSet} (ho : PE X o to) (hi : PE X i ti) (hs : PSet X t)
    (ha : ∀ v, assign (.Subscript o i pos) X.env v = (do
      let ov ← holding [v] (eval o X.env)
      let iv ← holding [v, ov] (eval i X.env)
      standAt pos
      holding [v, ov, iv] (setItem ov iv v)
      release [v, ov, iv] []) := by intro _; rfl) : PG X (.Subscript o i pos) (gSub to ti t) := by
  intro pins s σ H v u Q I r h
  rw [ha]
  refine wpAny_bind (wpAny_holding (thn (ho pins s σ H _ I h) fun ov s1 ⟨x, H1, I1, r1, q1⟩ => ?_))
  refine wpAny_bind (wpAny_holding (thn (hi pins s1 σ H1 _ I1 q1) fun iv s2 ⟨y, H2, I2, r2, q2⟩ => ?_))
  refine wpAny_bind (wpAny_standAt (wpAny_bind (wpAny_holding (thn (hs pins s2 σ H2 x y v ov iv u _ I2 r1 r2 r q2) fun _ s3 ⟨H3, I3, q3⟩ => ?_))))
  exact wpAny_release ⟨σ, H3, I3, q3⟩
/-- target = value -/
def tAsg (te : TE) (g : TG) : TS := fun D σ H => te σ H fun x H1 => g x σ H1 D.nx
theorem ps_asg {tg e : Expr} {te : TE} {g : TG} (he : PE X e te) (hg : PG X tg g) (hs : swapsWithSole [tg] e pos.line X.env = pure false := by rfl) (hw : swappedStores [tg] e X.env = pure none := by rfl)
    (h1 : (assignEach [tg] X.env).map (·.2) = [assign tg X.env] := by rfl) : PS X (.Assign [tg] e pos) (tAsg te g) := by
  intro pins s σ H D I h
  refine wpAny_Assign_stores (thn (he pins s σ H _ I h) fun v s1 ⟨x, H1, I1, r1, q1⟩ => ?_) hs hw
  rw [h1]
  exact thn (hg pins s1 σ H1 x v _ I1 r1 q1) fun _ s2 q => q
/-- name = value -/
theorem ps_set {i : Nat} {x : Str} {e : Expr} {te : TE} {pos' : Pos} (hN : X.N.Nodup) (hi : X.N[i]? = some x) (hx : Loc X.env.scope x) (he : PE X e te) (hs : swapsWith e (some (.Name x pos')) pos.line X.env = pure false := by rfl) (hf : X.fn x = true ∨ X.env.scope.names.lookup x = some .local := by first | exact .inl rfl | exact .inr rfl | assumption) :
    PS X (.Assign [.Name x pos'] e pos) (tAsg te (gName i)) := by
  intro pins s σ H D I h
  refine wpAny_Assign_Name (thn (he pins s σ H _ I h) fun v s1 ⟨y, H1, I1, r1, q1⟩ => ?_) hs
  exact store_ok I1 hN hi hx r1 (fun s2 I2 => ⟨_, H1, I2, q1⟩) hf
/-- name op= e -/
def tAug (i : Nat) (te : TE) (ti : TIp) : TS := fun D σ H => ∃ x, σ[i]? = some (some x) ∧ te σ H fun y H1 => ti x y H1 fun z H2 => D.nx (σ.set i (some z)) H2
theorem ps_aug {i : Nat} {x : Str} {e : Expr} {te : TE} {op : Operator} {ti : TIp} {pos' : Pos} (hN : X.N.Nodup) (hi : X.N[i]? = some x) (hx : Loc X.env.scope x) (he : PE X e te) (ho : PIp X op ti) (hf : X.fn x = true ∨ X.env.scope.names.lookup x = some .local := by first | exact .inl rfl | exact .inr rfl | assumption) :
    PS X (.AugAssign (.Name x pos') op e pos) (tAug i te ti) := by
  intro pins s σ H D I h
  obtain ⟨v, e1, h⟩ := h
  obtain ⟨m, hn, hl⟩ := I.loc
  have vis : Vis X.env.scope x := by rcases hx with k | k; exact .inl k; exact .inr (.inl k)
  obtain ⟨u, r, l⟩ := hl i x v hi e1 vis
  refine wpAny_AugAssign_Name ?_
  have go : wpAny (model X.prog X.w) X.A (eval e X.env) (fun w s₂ => wpAny (model X.prog X.w) X.A (inplaceOp op u w) (fun r s₃ => wpAny (model X.prog X.w) X.A (storeName X.env x r) (fun _ => SP X pins D .next) X.xe s₃) X.xe s₂) X.xe s := by
    refine thn (he pins s σ H _ I h) fun w s1 ⟨y, H1, I1, r1, q1⟩ => ?_
    refine thn (ho pins s1 σ H1 v y u w _ I1 r r1 q1) fun z s2 ⟨zv, H2, I2, r2, q2⟩ => ?_
    exact store_ok I2 hN hi hx r2 (fun s3 I3 => ⟨_, H2, I3, q2⟩) hf
  rcases l with ⟨hk, hm⟩ | ⟨hk, c, hc, hcell⟩
  · exact wpAny_loadName_local I.ok.kind hk hn hm go
  · rcases hk with hk | hk
    · exact wpAny_loadName_cell I.ok.kind hk hc hcell go
    · rcases hx with k | k
      · have : X.env.scope.names.lookup x = some .free := hk
        rw [k] at this; cases this
      · have : X.env.scope.names.lookup x = some .free := hk
        rw [k] at this; cases this
/-- ints -/
def ipI (f : Int → Int → Int) : TIp := fun x y H Q => ∃ i j, x = .int i ∧ y = .int j ∧ Q (.int (f i j)) H
theorem ip_add : PIp X .Add (ipI fun i j => i + j) := by
  intro pins s σ H x y v u Q I r1 r2 h
  obtain ⟨i, j, e1, e2, q⟩ := h
  subst e1; subst e2
  obtain ⟨t, rfl⟩ := r1
  obtain ⟨t', rfl⟩ := r2
  exact iadd_int ⟨.int _, H, I.tok _, ⟨_, rfl⟩, q⟩
end

/-! ### while -/
section
variable {X : Cx} {pos : Pos}
/-- the invariant W with its measure -/
def tWhile (c : TT) (tb : TS) : TS := fun D σ H => ∃ W : Nat → St → Hp → Prop, (∃ m, W m σ H) ∧ ∀ m σ H, W m σ H →
  c σ H fun b H1 => if b = true then ∃ N : St → Hp → Prop, (∀ σ' H', N σ' H' → ∃ m', m' < m ∧ W m' σ' H') ∧ tb { D with nx := N, ct := N, bk := D.nx } σ H1 else D.nx σ H1
theorem ps_while {c : Expr} {body : List Stmt} {tc : TT} {tb : TS} (hp : PassesOwn (model X.prog X.w) X.A X.env X.xe) (hc : PT X c tc) (hb : PSs X body tb) : PS X (.While c body [] pos) (tWhile tc tb) := by
  intro pins s σ H D I h
  obtain ⟨W, ⟨m0, w0⟩, turn⟩ := h
  refine wpAny_While (codeAny_whileLoop (fun n s' => ∃ σ' H', Inv X pins σ' H' s' ∧ W n σ' H') ?_ m0 ⟨σ, H, I, w0⟩)
  rintro n s1 ⟨σ1, H1, I1, w1⟩
  refine wpAny_passesOwn hp (thn (hc pins s1 σ1 H1 _ I1 (turn n σ1 H1 w1)) fun b s2 ⟨H2, I2, q2⟩ => ?_)
  cases b with
  | true =>
    obtain ⟨N, hN, q2⟩ := q2
    rw [if_pos rfl]
    refine wpAny_passesOwn hp (thn (hb pins s2 σ1 H2 _ I2 q2) fun f s3 q3 => ?_)
    cases f with
    | next =>
      obtain ⟨σ3, H3, I3, n3⟩ := q3
      obtain ⟨m', hm, w3⟩ := hN σ3 H3 n3
      exact ⟨m', hm, σ3, H3, I3, w3⟩
    | cont =>
      obtain ⟨σ3, H3, I3, n3⟩ := q3
      obtain ⟨m', hm, w3⟩ := hN σ3 H3 n3
      exact ⟨m', hm, σ3, H3, I3, w3⟩
    | brk => exact q3
    | ret v => exact q3
  | false =>
    rw [if_neg Bool.false_ne_true]
    exact wpAny_execs_nil ⟨σ1, H2, I2, q2⟩
end

/-! ### what a loop or a comprehension walks -/
/-- at turn i: it yields x (the heap may grow), or it stops -/
structure It where
  go : Nat → Hp → Prop
  yld : Nat → Hp → V → Hp → Prop
  stop : Nat → Hp → Prop
/-- the iterator's own objects may turn: they are not the frame's, not pinned, younger than the entry (or a comprehension's own) -/
def FpOk (X : Cx) (pins : List (Addr × Obj)) (H : Hp) (b : Addr) : Prop :=
  H b = none ∧ b ≠ X.env.locals ∧ b ∉ X.fs ∧ (b ∈ X.ex ∨ X.s₀.heap.objs.size ≤ b) ∧ (∀ x c, X.env.cells.lookup x = some c → c ≠ b) ∧ ∀ p ∈ X.pn ++ pins, p.1 ≠ b
theorem Inv.fpOk {X : Cx} {pins : List (Addr × Obj)} {σ : St} {H H' : Hp} {s : Shared} {b : Addr} (I : Inv X pins σ H s) (hb : s.heap.objs.size ≤ b) (hn : H' b = none) : FpOk X pins H' b := by
  refine ⟨hn, Nat.ne_of_gt (Nat.lt_of_lt_of_le I.lt hb), I.nofs hb, .inr (Nat.le_trans I.sz hb), fun x c e z => ?_, fun p hp z => ?_⟩
  · obtain ⟨v, q⟩ := I.cell x c e
    exact absurd (Nat.lt_of_lt_of_le q.lt (by rw [z]; exact hb)) (Nat.lt_irrefl _)
  · exact absurd (Nat.lt_of_lt_of_le (Heap.lt_size (I.pin p hp).1) (by rw [z]; exact hb)) (Nat.lt_irrefl _)
structure Turn (P : Program) (w : World) (K : PySem.W.Frag) (tg : Expr) (J : It) (fp : List Addr) (it : Addr) (tn : Nat → Heap → Prop) : Prop where
  mem : it ∈ fp
  obj : ∀ i h, tn i h → ∀ b ∈ fp, ∃ o, h.get? b = some o ∧ ∀ v, o.data ≠ .cell v
  keep : ∀ i h h', tn i h → (∀ b ∈ fp, ∀ o, h.get? b = some o → h'.get? b = some o) → tn i h'
  item : ∀ (X : Cx), X.prog = P → X.w = w → X.K = K → X.calm = true → ∀ (i : Nat) (pins : List (Addr × Obj)) (s : Shared) (σ : St) (H : Hp) (E : Value → Shared → Prop), Inv X pins σ H s → (∀ b ∈ fp, FpOk X pins H b) → tn i s.heap → J.go i H →
    wpAny (model P w) X.A (pyNext (.ref it)) (fun r s1 => ∃ u, r = some u ∧
      wpAny (model P w) X.A (letOwnedTupleGo tg (.ref it) u) (fun _ s2 => ∃ x H', Inv X pins σ H' s2 ∧ RelV x u ∧ J.yld i H x H' ∧ tn (i + 1) s2.heap ∧ ∀ b ∈ fp, H' b = none) E s1) E s
  done : ∀ (X : Cx), X.prog = P → X.w = w → X.K = K → X.calm = true → ∀ (i : Nat) (pins : List (Addr × Obj)) (s : Shared) (σ : St) (H : Hp) (E : Value → Shared → Prop), Inv X pins σ H s → (∀ b ∈ fp, FpOk X pins H b) → tn i s.heap → J.stop i H →
    wpAny (model P w) X.A (pyNext (.ref it)) (fun r s1 => r = none ∧ Inv X pins σ H s1) E s
  self : ∀ (A : Around) (i : Nat) (s : Shared) (Q : Value → Shared → Prop) (E : Value → Shared → Prop), tn i s.heap → Q (.ref it) s → wpAny (model P w) A (pyIter (.ref it)) Q E s
abbrev TI := St → Hp → (It → Hp → Prop) → Prop
/-- an iterator has come -/
def PIE (X : Cx) (pins : List (Addr × Obj)) (σ : St) (tg : Expr) (R : It → Hp → Prop) (itv : Value) (s2 : Shared) : Prop :=
  ∃ (it : Addr) (fp : List Addr) (tn : Nat → Heap → Prop) (J : It) (H' : Hp), itv = .ref it ∧ Inv X pins σ H' s2 ∧ Turn X.prog X.w X.K tg J fp it tn ∧ tn 0 s2.heap ∧ (∀ b ∈ fp, FpOk X pins H' b) ∧ R J H'
def PI (X : Cx) (tg iter : Expr) (wi : TI) : Prop :=
  ∀ (pins : List (Addr × Obj)) (s : Shared) (σ : St) (H : Hp) (R : It → Hp → Prop), Inv X pins σ H s → wi σ H R →
    wpAny (model X.prog X.w) X.A (eval iter X.env) (fun v s1 => wpAny (model X.prog X.w) X.A (pyIter v) (PIE X pins σ tg R) X.xe s1) X.xe s

/-- the step ahead of the store is nothing for an iterator that keeps no tuple -/
theorem go_of {M : Model} {A : Around} {E : Value → Shared → Prop} {s : Shared} {tg : Expr} {it : Addr} {u : Value} {o : Obj} {n : String} {vs : Array Value} {Q : Unit → Shared → Prop} (ho : s.heap.get? it = some o) (hc : o.cls = .type n) (hd : o.data = .fields vs)
    (hn : ["enumerate", "zip", "dict_itemiterator", "dict_reverseitemiterator", "odict_iterator", "itertools.zip_longest", "itertools.pairwise"].contains n = false) (hQ : Q () s) : wpAny M A (letOwnedTupleGo tg (.ref it) u) Q E s := by
  unfold letOwnedTupleGo
  cases tg <;> first
    | exact wpAny_pure hQ
    | (cases u <;> first
        | exact wpAny_pure hQ
        | (refine wpAny_bind (wpAny_load ho ?_)
           rw [hc, hd]
           show wpAny M A (if (["enumerate", "zip", "dict_itemiterator", "dict_reverseitemiterator", "odict_iterator", "itertools.zip_longest", "itertools.pairwise"].contains n && vs[0]? == some (rawInt _)) = true then _ else _) Q E s
           rw [if_neg (by intro h; rw [hn, Bool.false_and] at h; cases h)]
           exact wpAny_pure hQ))

/-- the list at a, as it stands at each turn (a loop may append to it) -/
def Itl (K : PySem.W.Frag) (a : Addr) : It :=
  ⟨fun i H => ∃ xs x, SqL K H a xs ∧ xs[i]? = some x, fun i H x H' => H' = H ∧ ∀ xs, SqL K H a xs → xs[i]? = some x, fun i H => ∃ xs, SqL K H a xs ∧ xs.length ≤ i⟩
/-- lo, lo + 1, .. (n of them) -/
def Itr (lo : Int) (n : Nat) : It := ⟨fun i _ => i < n, fun i H x H' => H' = H ∧ x = .int (lo + i), fun i _ => n ≤ i⟩
theorem turn_list {P : Program} {w : World} {K : PySem.W.Frag} {tg : Expr} (a it : Addr) : Turn P w K tg (Itl K a) [it] it (fun i h => h.IsListIter it a i) where
  mem := by simp
  obj := fun i h st b hb => by
    have e : b = it := by simpa using hb
    subst e
    obtain ⟨o, e, c, d⟩ := st
    exact ⟨o, e, fun v z => by rw [d] at z; cases z⟩
  keep := fun i h h' st k => st.at fun o e => k it (by simp) o e
  item := by
    intro X hP hw hK hc i pins s σ H E I hf st hg
    subst hP hw hK
    obtain ⟨xs, x, hq, hx⟩ := hg
    obtain ⟨its, rv, p, hz⟩ := I.list hq
    obtain ⟨u, hu, ru⟩ := rv.get hx
    obtain ⟨f0, f1, f2, f3, f4, f5⟩ := hf it (by simp)
    refine wpAny_pyNext_list_item st p.isList (x := u) (by simpa using hu) fun h' st' sb => ?_
    have I1 : Inv X pins σ H { s with heap := h' } := I.turned (t' := s.toks) (fun b o hb e => (sb.2 b hb).trans e) f0 f1 f3 f4 f5
    obtain ⟨o, e, c, d⟩ := id st'
    exact ⟨u, rfl, go_of (s := { s with heap := h' }) e c d (by decide) ⟨x, H, I1, ru, ⟨rfl, fun ys hy => by rw [I.list_inj hy hq]; exact hx⟩, st', fun b hb => (hf b hb).1⟩⟩
  done := by
    intro X hP hw hK hc i pins s σ H E I hf st hg
    subst hP hw hK
    obtain ⟨xs, hq, hx⟩ := hg
    obtain ⟨its, rv, p, hz⟩ := I.list hq
    obtain ⟨f0, f1, f2, f3, f4, f5⟩ := hf it (by simp)
    have hl := rv.length
    exact wpAny_pyNext_list_end (I.ok.hd hc) st p.isList (by simp; omega) fun h' eb => ⟨rfl, I.turned (t' := s.toks) (fun b o hb e => eb b o hb e) f0 f1 f3 f4 f5⟩
  self := fun _ _ _ _ _ st h => wpAny_pyIter_listiter st h
theorem turn_range {P : Program} {w : World} {K : PySem.W.Frag} {tg : Expr} (it : Addr) (lo : Int) (n : Nat) : Turn P w K tg (Itr lo n) [it] it (fun i h => IsRangeIter h it (lo + (i : Nat) * 1) ((n : Int) - (i : Nat)) 1) where
  mem := by simp
  obj := fun i h st b hb => by
    have e : b = it := by simpa using hb
    subst e
    exact ⟨_, st, fun v z => by
      have z' : Data.fields _ = Data.cell v := z
      cases z'⟩
  keep := fun i h h' st k => k it (by simp) _ st
  item := by
    intro X hP hw hK hc i pins s σ H E I hf st hg
    subst hP hw hK
    obtain ⟨f0, f1, f2, f3, f4, f5⟩ := hf it (by simp)
    have W := Walks.range (prog := X.prog) (w := X.w) (I.ok.hd hc) it lo 1 n
    refine W.item i s _ _ hg st fun v h' tk hv st' kk => ?_
    obtain ⟨t, rfl⟩ := hv
    have I1 : Inv X pins σ H { s with heap := h', toks := tk } := I.turned (fun b o hb e => kk b o (by simpa using hb) e) f0 f1 f3 f4 f5
    refine ⟨_, rfl, go_of (s := { s with heap := h', toks := tk }) (n := "range_iterator") st' rfl rfl (by decide) ⟨.int (lo + i), H, I1, ⟨t, ?_⟩, ⟨rfl, rfl⟩, st', fun b hb => (hf b hb).1⟩⟩
    rw [Int.mul_one]
  done := by
    intro X hP hw hK hc i pins s σ H E I hf st hg
    subst hP hw hK
    obtain ⟨f0, f1, f2, f3, f4, f5⟩ := hf it (by simp)
    exact wpAny_pyNext_range_end (I.ok.hd hc) st (by have : n ≤ i := hg; omega) fun h' eb => ⟨rfl, I.turned (t' := s.toks) (fun b o hb e => eb b o hb e) f0 f1 f3 f4 f5⟩
  self := fun _ _ _ _ _ st h => wpAny_pyIter_rangeiter st h
end L2

namespace L2
open PySem PySem.Spec PyProof.Rows
section
variable {X : Cx} {tg : Expr}
def iList (K : PySem.W.Frag) (tl : TE) : TI := fun σ H R => tl σ H fun x H1 => ∃ a, x = .ref a ∧ (∃ xs, SqL K H1 a xs) ∧ R (Itl K a) H1
theorem pi_list {l : Expr} {tl : TE} (hl : PE X l tl) : PI X tg l (iList X.K tl) := by
  intro pins s σ H R I h
  refine thn (hl pins s σ H _ I h) fun v s1 ⟨x, H1, I1, r1, q1⟩ => ?_
  obtain ⟨a, e, ⟨xs, hq⟩, q⟩ := q1
  subst e
  cases r1
  obtain ⟨its, rv, p, hz⟩ := I1.list hq
  refine wpAny_pyIter_list p.isList ?_
  refine ⟨s1.heap.objs.size, [s1.heap.objs.size], _, _, H1, rfl, I1.kept (t' := s1.toks) fun b o e => Heap.get?_push_of_some _ e, turn_list a _, ⟨_, Heap.get?_push_size _ rfl, rfl, rfl⟩, fun b hb => ?_, q⟩
  have e : b = s1.heap.objs.size := by simpa using hb
  subst e
  exact I1.fpOk (Nat.le_refl _) (I1.hok.fresh (Nat.le_refl _))
/-- a range object just made, walked -/
theorem range_it {pins : List (Addr × Obj)} {σ : St} {H : Hp} {s : Shared} {R : It → Hp → Prop} {E : Value → Shared → Prop} {lo hi : Int} {t u v : Tok} {tk : Nat} (I : Inv X pins σ H s) (h1 : -(2 ^ 62) ≤ lo) (h2 : lo < 2 ^ 62) (h3 : -(2 ^ 62) ≤ hi) (h4 : hi < 2 ^ 62)
    (q : R (Itr lo (hi - lo).toNat) H) : wpAny (model X.prog X.w) X.A (pyIter (.ref s.heap.objs.size)) (PIE X pins σ tg R) E { s with heap := s.heap.push { cls := .type "range", data := .fields #[.int lo t, .int hi u, .int 1 v] }, toks := tk } := by
  refine wpAny_pyIter_range (IsRange.new ..) (small_one h1 h2 h3 h4) ?_
  have I1 : Inv X pins σ H { s with heap := s.heap.push { cls := .type "range", data := .fields #[.int lo t, .int hi u, .int 1 v] }, toks := tk } := I.kept fun b o e => Heap.get?_push_of_some _ e
  refine ⟨(s.heap.push { cls := .type "range", data := .fields #[.int lo t, .int hi u, .int 1 v] }).objs.size, [(s.heap.push { cls := .type "range", data := .fields #[.int lo t, .int hi u, .int 1 v] }).objs.size], _, _, H, rfl,
    I1.kept (t' := tk) fun b o e => Heap.get?_push_of_some _ e, turn_range _ lo (hi - lo).toNat, ?_, fun b hb => ?_, q⟩
  · have e1 : lo + ((0 : Nat) : Int) * 1 = lo := by simp
    have e2 : (((hi - lo).toNat : Nat) : Int) - ((0 : Nat) : Int) = Builtin.Range.rangeSize lo hi 1 := by rw [rangeSize_one]; split <;> omega
    show IsRangeIter _ _ (lo + ((0 : Nat) : Int) * 1) ((((hi - lo).toNat : Nat) : Int) - ((0 : Nat) : Int)) 1
    rw [e1, e2]
    exact Heap.get?_push_size _ rfl
  · have e : b = (s.heap.push { cls := .type "range", data := .fields #[.int lo t, .int hi u, .int 1 v] }).objs.size := by simpa using hb
    subst e
    exact I1.fpOk (Nat.le_refl _) (I1.hok.fresh (Nat.le_refl _))
def iRng1 (ta : TA) : TI := fun σ H R => ta σ H fun vs H1 => ∃ j : Int, vs = [.int j] ∧ -(2 ^ 62) ≤ j ∧ j < 2 ^ 62 ∧ R (Itr 0 j.toNat) H1
theorem pi_range1 {a : Expr} {ta : TA} {p pos : Pos} (hg : Gl X "range") (hm : X.mg "range" = none) (ha : PA X [a] ta) (hs : starEach [a] X.env = [(false, eval a X.env)] := by rfl) : PI X tg (.Call (.Name "range" p) [a] [] pos) (iRng1 ta) := by
  intro pins s σ H R I h
  refine Call_ (ld_blt I hg hm boot_range (PyProof.Rows.callWith_type1 (thn (ha pos pins s σ H _ I h) fun us s1 ⟨vs, H1, I1, r1, q1⟩ => ?_) hs rfl))
  obtain ⟨j, e, q1, q2, q⟩ := q1
  subst e
  cases r1 with
  | cons r rr =>
    cases rr
    obtain ⟨t, rfl⟩ := r
    exact call_range_1 (range_it I1 (by omega) (by omega) q1 q2 (by simpa using q))

/-! ### for -/
/-- W: the invariant by the turn and a measure; N: what the body is to reach -/
def tFor (wi : TI) (g : TG) (tb : TS) : TS := fun D σ H => wi σ H fun J H1 => ∃ W : Nat → Nat → St → Hp → Prop, (∃ m, W 0 m σ H1) ∧ ∀ i m σ H, W i m σ H →
  (J.stop i H ∧ D.nx σ H) ∨ (J.go i H ∧ ∃ N : St → Hp → Prop, (∀ σ' H', N σ' H' → ∃ m', m' < m ∧ W (i + 1) m' σ' H') ∧ ∀ x H', J.yld i H x H' → g x σ H' fun σ2 H2 => tb { D with nx := N, ct := N, bk := D.nx } σ2 H2)
/-- the records at fp as they stand -/
def pinsAt (fp : List Addr) (h : Heap) : List (Addr × Obj) := fp.filterMap fun b => (h.get? b).map fun o => (b, o)
theorem mem_pinsAt {fp : List Addr} {h : Heap} {b : Addr} {o : Obj} (hb : b ∈ fp) (e : h.get? b = some o) : (b, o) ∈ pinsAt fp h := List.mem_filterMap.mpr ⟨b, hb, by rw [e]; rfl⟩
theorem of_pinsAt {fp : List Addr} {h : Heap} {p : Addr × Obj} (hp : p ∈ pinsAt fp h) : p.1 ∈ fp ∧ h.get? p.1 = some p.2 := by
  obtain ⟨b, hb, e⟩ := List.mem_filterMap.mp hp
  cases q : h.get? b with
  | none => rw [q] at e; cases e
  | some o =>
    rw [q] at e
    have e' : (b, o) = p := Option.some.inj e
    subst e'
    exact ⟨hb, q⟩
theorem Inv.pinned {pins : List (Addr × Obj)} {σ : St} {H : Hp} {s : Shared} {fp : List Addr} (I : Inv X pins σ H s) (hf : ∀ b ∈ fp, FpOk X pins H b) (ho : ∀ b ∈ fp, ∃ o, s.heap.get? b = some o ∧ ∀ v, o.data ≠ .cell v) : Inv X (pins ++ pinsAt fp s.heap) σ H s :=
  I.pins_of fun p hp => (List.mem_append.mp hp).elim (fun z => I.pin p (List.mem_append_right _ z)) fun z => by
    obtain ⟨hb, e⟩ := of_pinsAt z
    obtain ⟨f0, f1, f2, _⟩ := hf p.1 hb
    obtain ⟨o, e', d⟩ := ho p.1 hb
    rw [e] at e'; cases e'
    exact ⟨e, f0, f1, f2, d⟩
theorem Inv.unpinned {pins pl : List (Addr × Obj)} {σ : St} {H : Hp} {s : Shared} (I : Inv X (pins ++ pl) σ H s) : Inv X pins σ H s := I.pins_of fun p hp => I.pin p (List.mem_append_right _ (List.mem_append_left _ hp))
theorem ps_for {iter : Expr} {body : List Stmt} {wi : TI} {g : TG} {tb : TS} {pos : Pos} (hp : PassesOwn (model X.prog X.w) X.A X.env X.xe) (hc : X.calm = true) (hi : PI X tg iter wi) (hg : PG X tg g) (hb : PSs X body tb)
    (hs : ∀ x, foldedSetIterable iter X.env x = pure x := by intro _; rfl) : PS X (.For tg iter body [] pos) (tFor wi g tb) := by
  intro pins s σ H D I h
  refine wpAny_For (thn (hi pins s σ H _ I h) fun v s1 h1 => thn h1 fun itv s2 h2 => ?_) hs
  obtain ⟨it, fp, tn, J, H2, e, I2, T, st2, f2, W, ⟨m0, w0⟩, turn⟩ := h2
  subst e
  -- what stays true of the iterator's objects through the loop
  have stat : ∀ {H' : Hp}, (∀ b ∈ fp, H' b = none) → ∀ b ∈ fp, FpOk X pins H' b := fun hn b hb => ⟨hn b hb, (f2 b hb).2⟩
  refine codeAny_forLoop_any (fun n s' => ∃ i σ' H', Inv X pins σ' H' s' ∧ tn i s'.heap ∧ (∀ b ∈ fp, H' b = none) ∧ W i n σ' H') ?_ m0 ⟨0, σ, H2, I2, st2, fun b hb => (f2 b hb).1, w0⟩
  rintro n s3 ⟨i, σ3, H3, I3, st3, fr3, w3⟩
  rcases turn i n σ3 H3 w3 with ⟨stop, qn⟩ | ⟨go, N, hN, step⟩
  · refine wpAny_passesOwn hp (thn (T.done X rfl rfl rfl hc i pins s3 σ3 H3 X.xe I3 (stat fr3) st3 stop) fun r s4 ⟨hr, I4⟩ => ?_)
    subst hr
    exact wpAny_execs_nil ⟨σ3, H3, I4, qn⟩
  · refine wpAny_passesOwn hp (thn (T.item X rfl rfl rfl hc i pins s3 σ3 H3 X.xe I3 (stat fr3) st3 go) fun r s4 ⟨u, hr, h4⟩ => ?_)
    subst hr
    refine wpAny_passesOwn hp (thn h4 fun _ s5 ⟨x, H5, I5, r5, y5, st5, fr5⟩ => ?_)
    have I5' := I5.pinned (stat fr5) (T.obj _ _ st5)
    refine wpAny_passesOwn hp (thn (hg _ s5 σ3 H5 x u _ I5' r5 (step x H5 y5)) fun _ s6 ⟨σ6, H6, I6, q6⟩ => ?_)
    refine wpAny_passesOwn hp (thn (hb _ s6 σ6 H6 _ I6 q6) fun f s7 q7 => ?_)
    have again : ∀ {σ7 : St} {H7 : Hp}, Inv X (pins ++ pinsAt fp s5.heap) σ7 H7 s7 → N σ7 H7 → ∃ m, m < n ∧ ∃ i σ' H', Inv X pins σ' H' s7 ∧ tn i s7.heap ∧ (∀ b ∈ fp, H' b = none) ∧ W i m σ' H' := fun {σ7 H7} I7 n7 => by
      obtain ⟨m', hm, w7⟩ := hN σ7 H7 n7
      refine ⟨m', hm, i + 1, σ7, H7, I7.unpinned, T.keep _ _ _ st5 fun b hb o e => (I7.pin (b, o) (List.mem_append_right _ (List.mem_append_right _ (mem_pinsAt hb e)))).1, fun b hb => ?_, w7⟩
      obtain ⟨o, e, d⟩ := T.obj _ _ st5 b hb
      exact (I7.pin (b, o) (List.mem_append_right _ (List.mem_append_right _ (mem_pinsAt hb e)))).2.1
    cases f with
    | next => obtain ⟨σ7, H7, I7, n7⟩ := q7; exact again I7 n7
    | cont => obtain ⟨σ7, H7, I7, n7⟩ := q7; exact again I7 n7
    | brk => obtain ⟨σ7, H7, I7, q7⟩ := q7; exact ⟨σ7, H7, I7.unpinned, q7⟩
    | ret v => obtain ⟨x7, σ7, H7, I7, r7, q7⟩ := q7; exact ⟨x7, σ7, H7, I7.unpinned, r7, q7⟩
end

/-! ### the forms one uses -/
/-- over a list that the body leaves as it is -/
theorem for_list {K : PySem.W.Frag} {a : Addr} {xs : List V} {g : TG} {tb : TS} {D : Ends} {σ : St} {H : Hp} (Pv : Nat → St → Hp → Prop) (h0 : Pv 0 σ H) (hl : ∀ i σ H, i ≤ xs.length → Pv i σ H → SqL K H a xs)
    (hs : ∀ i x σ H, xs[i]? = some x → Pv i σ H → g x σ H fun σ2 H2 => tb { D with nx := Pv (i + 1), ct := Pv (i + 1), bk := D.nx } σ2 H2) (hd : ∀ σ H, Pv xs.length σ H → D.nx σ H) :
    ∃ W : Nat → Nat → St → Hp → Prop, (∃ m, W 0 m σ H) ∧ ∀ i m σ H, W i m σ H →
      ((Itl K a).stop i H ∧ D.nx σ H) ∨ ((Itl K a).go i H ∧ ∃ N : St → Hp → Prop, (∀ σ' H', N σ' H' → ∃ m', m' < m ∧ W (i + 1) m' σ' H') ∧ ∀ x H', (Itl K a).yld i H x H' → g x σ H' fun σ2 H2 => tb { D with nx := N, ct := N, bk := D.nx } σ2 H2) := by
  refine ⟨fun i m σ H => m = xs.length - i ∧ i ≤ xs.length ∧ Pv i σ H, ⟨xs.length, by simp, Nat.zero_le _, h0⟩, ?_⟩
  rintro i m σ H ⟨rfl, hi, p⟩
  have q := hl i σ H hi p
  by_cases hlt : i < xs.length
  · refine .inr ⟨⟨xs, xs[i], q, by simp [hlt]⟩, Pv (i + 1), fun σ' H' p' => ⟨xs.length - (i + 1), by omega, rfl, hlt, p'⟩, fun x H' y => ?_⟩
    obtain ⟨e, y⟩ := y
    subst e
    exact hs i x σ _ (y xs q) p
  · have e : i = xs.length := by omega
    subst e
    exact .inl ⟨⟨xs, q, Nat.le_refl _⟩, hd σ H p⟩
theorem for_range {lo : Int} {n : Nat} {g : TG} {tb : TS} {D : Ends} {σ : St} {H : Hp} (Pv : Nat → St → Hp → Prop) (h0 : Pv 0 σ H)
    (hs : ∀ i σ H, i < n → Pv i σ H → g (.int (lo + i)) σ H fun σ2 H2 => tb { D with nx := Pv (i + 1), ct := Pv (i + 1), bk := D.nx } σ2 H2) (hd : ∀ σ H, Pv n σ H → D.nx σ H) :
    ∃ W : Nat → Nat → St → Hp → Prop, (∃ m, W 0 m σ H) ∧ ∀ i m σ H, W i m σ H →
      ((Itr lo n).stop i H ∧ D.nx σ H) ∨ ((Itr lo n).go i H ∧ ∃ N : St → Hp → Prop, (∀ σ' H', N σ' H' → ∃ m', m' < m ∧ W (i + 1) m' σ' H') ∧ ∀ x H', (Itr lo n).yld i H x H' → g x σ H' fun σ2 H2 => tb { D with nx := N, ct := N, bk := D.nx } σ2 H2) := by
  refine ⟨fun i m σ H => m = n - i ∧ i ≤ n ∧ Pv i σ H, ⟨n, by simp, Nat.zero_le _, h0⟩, ?_⟩
  rintro i m σ H ⟨rfl, hi, p⟩
  by_cases hlt : i < n
  · refine .inr ⟨hlt, Pv (i + 1), fun σ' H' p' => ⟨n - (i + 1), by omega, rfl, hlt, p'⟩, fun x H' y => ?_⟩
    obtain ⟨e, y⟩ := y
    subst e y
    exact hs i σ _ hlt p
  · have e : i = n := by omega
    subst e
    exact .inl ⟨Nat.le_refl _, hd σ H p⟩
end L2

namespace L2
open PySem PySem.Spec PyProof.Rows

abbrev R2 := V → V → Hp → VK → Prop
/-- a two-place operation on values: f is binaryOp op, inplaceOp op or compareOp op -/
def OpR (X : Cx) (f : Value → Value → Sem Value) (r : R2) : Prop :=
  ∀ (pins : List (Addr × Obj)) (s : Shared) (σ : St) (H : Hp) (x y : V) (v u : Value) (Q : VK), Inv X pins σ H s → RelV x v → RelV y u → r x y H Q →
    wpAny (model X.prog X.w) X.A (f v u) (EP X pins σ Q) X.xe s
/-- a one-place operation -/
def UnR (X : Cx) (f : Value → Sem Value) (r : V → Hp → VK → Prop) : Prop :=
  ∀ (pins : List (Addr × Obj)) (s : Shared) (σ : St) (H : Hp) (x : V) (v : Value) (Q : VK), Inv X pins σ H s → RelV x v → r x H Q →
    wpAny (model X.prog X.w) X.A (f v) (EP X pins σ Q) X.xe s
/-- a call of a value that is known (a builtin, a type) with values -/
def CallR (X : Cx) (f : Value) (r : List V → Hp → VK → Prop) : Prop :=
  ∀ (pins : List (Addr × Obj)) (s : Shared) (σ : St) (H : Hp) (xs : List V) (us : List Value) (Q : VK), Inv X pins σ H s → Vals xs us → r xs H Q →
    wpAny (model X.prog X.w) X.A (call f us) (EP X pins σ Q) X.xe s

def tOp (r : R2) (ta tb : TE) : TE := fun σ H Q => ta σ H fun x H1 => tb σ H1 fun y H2 => r x y H2 Q
def tUn (r : V → Hp → VK → Prop) (ta : TE) : TE := fun σ H Q => ta σ H fun x H1 => r x H1 Q
/-- ints in, under C, and a value out -/
def rI (C : Int → Int → Prop) (g : Int → Int → V) : R2 := fun x y H Q => ∃ i j, x = .int i ∧ y = .int j ∧ C i j ∧ Q (g i j) H
def rI0 (g : Int → Int → V) : R2 := fun x y H Q => ∃ i j, x = .int i ∧ y = .int j ∧ Q (g i j) H
def rU (g : Int → V) : V → Hp → VK → Prop := fun x H Q => ∃ i, x = .int i ∧ Q (g i) H

section
variable {X : Cx} {a b c : Expr} {ta tb tc : TE} {pos : Pos}

theorem binT (ha : PE X a ta) (hb : PE X b tb) {pins : List (Addr × Obj)} {s : Shared} {σ : St} {H : Hp} {R : V → V → Hp → Prop} (I : Inv X pins σ H s)
    (h : ta σ H fun x H1 => tb σ H1 fun y H2 => R x y H2) {Q : Value → Shared → Prop} {f : Value → Value → Sem Value}
    (hf : ∀ v u s2 x y H2, Inv X pins σ H2 s2 → RelV x v → RelV y u → R x y H2 → wpAny (model X.prog X.w) X.A (f v u) Q X.xe s2) :
    wpAny (model X.prog X.w) X.A (eval a X.env) (fun v s₁ => wpAny (model X.prog X.w) X.A (eval b X.env) (fun u s₂ => wpAny (model X.prog X.w) X.A (f v u) Q X.xe s₂) X.xe s₁) X.xe s := by
  refine thn (ha pins s σ H _ I h) fun v s1 ⟨x, H1, I1, r1, q1⟩ => ?_
  refine thn (hb pins s1 σ H1 _ I1 q1) fun u s2 ⟨y, H2, I2, r2, q2⟩ => ?_
  exact hf v u s2 x y H2 I2 r1 r2 q2

theorem pe_op {op : Operator} {r : R2} (ho : OpR X (binaryOp op) r) (ha : PE X a ta) (hb : PE X b tb) : PE X (.BinOp a op b pos) (tOp r ta tb) := by
  intro pins s σ H Q I h
  exact wpAny_BinOp (binT ha hb I h fun v u s2 x y H2 I2 rx ry q => ho pins s2 σ H2 x y v u Q I2 rx ry q)
theorem pe_un {op : UnaryOp} {r : V → Hp → VK → Prop} (ho : UnR X (unaryOp op) r) (ha : PE X a ta) : PE X (.UnaryOp op a pos) (tUn r ta) := by
  intro pins s σ H Q I h
  exact UnaryOp_ (thn (ha pins s σ H _ I h) fun v s1 ⟨x, H1, I1, r1, q1⟩ => ho pins s1 σ H1 x v Q I1 r1 q1)

/-! ### ints -/
theorem opI {f : Value → Value → Sem Value} {C : Int → Int → Prop} {g : Int → Int → Int}
    (rule : ∀ (i j : Int) (t u : Tok) (s : Shared) (Q : Value → Shared → Prop) (E : Value → Shared → Prop), C i j → Q (.int (g i j) s.toks) { s with toks := s.toks + 1 } → wpAny (model X.prog X.w) X.A (f (.int i t) (.int j u)) Q E s) :
    OpR X f (rI C fun i j => .int (g i j)) := by
  intro pins s σ H x y v u Q I rx ry h
  obtain ⟨i, j, rfl, rfl, hc, q⟩ := h
  obtain ⟨t, rfl⟩ := rx
  obtain ⟨t', rfl⟩ := ry
  exact rule i j t t' s _ _ hc ⟨.int (g i j), H, I.tok _, ⟨_, rfl⟩, q⟩
theorem opI0 {f : Value → Value → Sem Value} {g : Int → Int → Int}
    (rule : ∀ (i j : Int) (t u : Tok) (s : Shared) (Q : Value → Shared → Prop) (E : Value → Shared → Prop), Q (.int (g i j) s.toks) { s with toks := s.toks + 1 } → wpAny (model X.prog X.w) X.A (f (.int i t) (.int j u)) Q E s) :
    OpR X f (rI0 fun i j => .int (g i j)) := by
  intro pins s σ H x y v u Q I rx ry h
  obtain ⟨i, j, rfl, rfl, q⟩ := h
  obtain ⟨t, rfl⟩ := rx
  obtain ⟨t', rfl⟩ := ry
  exact rule i j t t' s _ _ ⟨.int (g i j), H, I.tok _, ⟨_, rfl⟩, q⟩
theorem opB0 {f : Value → Value → Sem Value} {g : Int → Int → Bool}
    (rule : ∀ (i j : Int) (t u : Tok) (s : Shared) (Q : Value → Shared → Prop) (E : Value → Shared → Prop), Q (.bool (g i j)) s → wpAny (model X.prog X.w) X.A (f (.int i t) (.int j u)) Q E s) :
    OpR X f (rI0 fun i j => .bl (g i j)) := by
  intro pins s σ H x y v u Q I rx ry h
  obtain ⟨i, j, rfl, rfl, q⟩ := h
  obtain ⟨t, rfl⟩ := rx
  obtain ⟨t', rfl⟩ := ry
  exact rule i j t t' s _ _ ⟨.bl (g i j), H, I, rfl, q⟩

def CDiv (i j : Int) : Prop := 0 < j ∧ j < 1073741824
def CMul (i j : Int) : Prop := (-(2 ^ 64) < i ∧ i < 2 ^ 64) ∨ (-(2 ^ 64) < j ∧ j < 2 ^ 64)
theorem CMul.ok {i j : Int} (h : CMul i j) : IntMulOk i j := by
  rcases h with ⟨h1, h2⟩ | ⟨h1, h2⟩
  · exact .of_left (intBits_le_64 h1 h2)
  · exact .of_right (intBits_le_64 h1 h2)

theorem op_add : OpR X (binaryOp .Add) (rI0 fun i j => .int (i + j)) := opI0 fun _ _ _ _ _ _ _ q => add_int q
theorem op_sub : OpR X (binaryOp .Sub) (rI0 fun i j => .int (i - j)) := opI0 fun _ _ _ _ _ _ _ q => sub_int q
theorem op_mul : OpR X (binaryOp .Mult) (rI CMul fun i j => .int (i * j)) := opI fun _ _ _ _ _ _ _ hc q => mul_int q hc.ok
/-- // by a positive divisor -/
theorem op_fdiv : OpR X (binaryOp .FloorDiv) (rI CDiv fun i j => .int (i / j)) := opI fun i j _ _ _ _ _ hc q => by
  have h1 : (0 : Int) < j := hc.1
  have h2 : j < 1073741824 := hc.2
  exact floordiv_int (by omega) (by rw [Int.fdiv_eq_ediv_of_nonneg i (by omega)]; exact q) (.inl (PyProof.noPylong_small (by omega)))
/-- % by a positive divisor of any size -/
theorem op_mod : OpR X (binaryOp .Mod) (rI (fun _ j => 0 < j) fun i j => .int (i % j)) := opI fun i j _ _ _ _ _ hc q => by
  have h1 : (0 : Int) < j := hc
  exact mod_int' (by omega) (by rw [Int.fmod_eq_emod_of_nonneg i (by omega)]; exact q)


theorem unI {f : Value → Sem Value} {g : Int → Int}
    (rule : ∀ (i : Int) (t : Tok) (s : Shared) (Q : Value → Shared → Prop) (E : Value → Shared → Prop), Q (.int (g i) s.toks) { s with toks := s.toks + 1 } → wpAny (model X.prog X.w) X.A (f (.int i t)) Q E s) :
    UnR X f (rU fun i => .int (g i)) := by
  intro pins s σ H x v Q I rx h
  obtain ⟨i, rfl, q⟩ := h
  obtain ⟨t, rfl⟩ := rx
  exact rule i t s _ _ ⟨.int (g i), H, I.tok _, ⟨_, rfl⟩, q⟩
theorem un_neg : UnR X (unaryOp .USub) (rU fun i => .int (-i)) := unI fun _ _ _ _ _ q => neg_int q

/-! ### bools among ints: n += (a < b) -/
end

/-! ### comparisons -/
/-- the scalars that == tells apart as data does -/
def scal : V → V → Bool
  | .non, .non => true | .non, .int _ => true | .int _, .non => true | .non, .bl _ => true | .bl _, .non => true | .non, .str _ => true | .str _, .non => true
  | .int _, .int _ => true | .bl _, .bl _ => true | .str _, .str _ => true | .byt _, .byt _ => true
  | .int _, .str _ => true | .str _, .int _ => true | .bl _, .str _ => true | .str _, .bl _ => true
  | _, _ => false
def rEq : R2 := fun x y H Q => scal x y = true ∧ Q (.bl (decide (x = y))) H

theorem dec_int {i j : Int} : decide (V.int i = V.int j) = (i == j) := by
  rw [Bool.eq_iff_iff]
  simp
theorem dec_bl {i j : Bool} : decide (V.bl i = V.bl j) = (i == j) := by
  rw [Bool.eq_iff_iff]
  simp
theorem dec_str {i j : Str} : decide (V.str i = V.str j) = (i == j) := by
  rw [Bool.eq_iff_iff]
  simp
theorem dec_byt {i j : Array UInt8} : decide (V.byt i = V.byt j) = (i.toList == j.toList) := by
  rw [Bool.eq_iff_iff]
  cases i
  cases j
  simp

section
variable {X : Cx} {a b c : Expr} {ta tb tc : TE} {pos : Pos}
theorem fin_bl {pins : List (Addr × Obj)} {σ : St} {H : Hp} {s : Shared} {Q : VK} {k k' : Bool} (I : Inv X pins σ H s) (q : Q (.bl k) H) (e : k = k') : EP X pins σ Q (.bool k') s := by
  subst e
  exact ⟨.bl k, H, I, rfl, q⟩
theorem op_eq : OpR X (compareOp .Eq) rEq := by
  intro pins s σ H x y v u Q I rx ry h
  obtain ⟨hs, q⟩ := h
  cases x with
  | non =>
    cases rx
    cases y with
    | non => cases ry; exact PySem.EqNone.eq_none_none (fin_bl I q (by simp))
    | bl j => cases ry; exact PySem.EqNone.eq_none_bool (fin_bl I q (by simp))
    | int j => obtain ⟨t', rfl⟩ := ry; exact PySem.EqNone.eq_none_int (fin_bl I q (by simp))
    | str j => obtain ⟨t', rfl⟩ := ry; exact PySem.EqNone.eq_none_str (fin_bl I q (by simp))
    | _ => exact absurd (show false = true from hs) Bool.false_ne_true
  | bl i =>
    cases rx
    cases y with
    | non => cases ry; exact PySem.EqNone.eq_bool_none (fin_bl I q (by simp))
    | bl j => cases ry; exact eq_bool (fin_bl I q dec_bl)
    | str j => obtain ⟨t', rfl⟩ := ry; exact PySem.EqMixed.eq_bool_str (fin_bl I q (by simp))
    | _ => exact absurd (show false = true from hs) Bool.false_ne_true
  | int i =>
    obtain ⟨t, rfl⟩ := rx
    cases y with
    | non => cases ry; exact PySem.EqNone.eq_int_none (fin_bl I q (by simp))
    | int j => obtain ⟨t', rfl⟩ := ry; exact eq_int (fin_bl I q dec_int)
    | str j => obtain ⟨t', rfl⟩ := ry; exact PySem.EqMixed.eq_int_str (fin_bl I q (by simp))
    | _ => exact absurd (show false = true from hs) Bool.false_ne_true
  | str i =>
    obtain ⟨t, rfl⟩ := rx
    cases y with
    | non => cases ry; exact PySem.EqNone.eq_str_none (fin_bl I q (by simp))
    | bl j => cases ry; exact PySem.EqMixed.eq_str_bool (fin_bl I q (by simp))
    | int j => obtain ⟨t', rfl⟩ := ry; exact PySem.EqMixed.eq_str_int (fin_bl I q (by simp))
    | str j => obtain ⟨t', rfl⟩ := ry; exact eq_str (fin_bl I q dec_str)
    | _ => exact absurd (show false = true from hs) Bool.false_ne_true
  | byt i =>
    obtain ⟨t, rfl⟩ := rx
    cases y with
    | byt j => obtain ⟨t', rfl⟩ := ry; exact PySem.W.eq_bytes (fin_bl I q dec_byt)
    | _ => exact absurd (show false = true from hs) Bool.false_ne_true
  | _ => cases y <;> exact absurd (show false = true from hs) Bool.false_ne_true

theorem op_lt : OpR X (compareOp .Lt) (rI0 fun i j => .bl (decide (i < j))) := opB0 fun _ _ _ _ _ _ _ q => lt_int q
theorem op_le : OpR X (compareOp .LtE) (rI0 fun i j => .bl (decide (i ≤ j))) := opB0 fun _ _ _ _ _ _ _ q => le_int q

/-- is None, is not None: the right side a value none -/
theorem op_isN : OpR X (compareOp .Is) (fun x y H Q => y = .non ∧ Q (.bl (decide (x = .non))) H) := by
  intro pins s σ H x y v u Q I rx ry h
  obtain ⟨rfl, q⟩ := h
  cases ry
  refine is_none_gen (fin_bl I q ?_)
  cases x <;> first
    | (cases rx; rfl)
    | (obtain ⟨t, rfl⟩ := rx; rfl)
theorem op_notN : OpR X (compareOp .IsNot) (fun x y H Q => y = .non ∧ Q (.bl (!decide (x = .non))) H) := by
  intro pins s σ H x y v u Q I rx ry h
  obtain ⟨rfl, q⟩ := h
  cases ry
  refine isnot_none_gen (fin_bl I q ?_)
  cases x <;> first
    | (cases rx; rfl)
    | (obtain ⟨t, rfl⟩ := rx; rfl)



theorem nomark (b : Expr) {op : CmpOp} (h : op ≠ .In := by decide) (h2 : op ≠ .NotIn := by decide) : behindInMarks op b = false := by
  have e1 : (op == CmpOp.In) = false := by cases op <;> first | rfl | exact absurd rfl h
  have e2 : (op == CmpOp.NotIn) = false := by cases op <;> first | rfl | exact absurd rfl h2
  cases b <;> simp [behindInMarks, e1, e2]
/-- a comparison as a value; hm: nomark b, or (for in, not in) by with_unfolding_all rfl -/
theorem pe_cmpR {op : CmpOp} {r : R2} (ho : OpR X (compareOp op) r) (ha : PE X a ta) (hb : PE X b tb) (hm : behindInMarks op b = false) : PE X (.Compare a [op] [b] pos) (tOp r ta tb) := by
  intro pins s σ H Q I h
  exact wpAny_Compare1 (binT ha hb I h fun v u s2 x y H2 I2 rx ry q => ho pins s2 σ H2 x y v u Q I2 rx ry q) hm
/-- a reading of a value as a test -/
def tTest (t : TE) : TT := fun σ H Q => t σ H fun x H' => ∃ k, x = .bl k ∧ Q k H'
theorem pt_cmpR {op : CmpOp} {r : R2} (ho : OpR X (compareOp op) r) (ha : PE X a ta) (hb : PE X b tb) (hm : behindInMarks op b = false) : PT X (.Compare a [op] [b] pos) (tTest (tOp r ta tb)) := by
  intro pins s σ H Q I h
  refine wpAny_isTrue_Compare1 (thn (ha pins s σ H _ I h) fun v s1 ⟨x, H1, I1, r1, q1⟩ => thn (hb pins s1 σ H1 _ I1 q1) fun u s2 ⟨y, H2, I2, r2, q2⟩ =>
    thn (ho pins s2 σ H2 x y v u _ I2 r1 r2 q2) fun c s3 ⟨z, H3, I3, r3, k, e, q3⟩ => ?_) hm
  subst e
  cases r3
  exact wpAny_truthy_bool ⟨H3, I3, q3⟩
/-- a op1 b op2 c -/
def tChain (r r' : R2) (ta tb tc : TE) : TE := fun σ H Q => ta σ H fun x H1 => tb σ H1 fun y H2 => r x y H2 fun z H3 => ∃ k, z = .bl k ∧
  (if k = true then tc σ H3 fun w' H4 => r' y w' H4 Q else Q (.bl false) H3)
theorem pe_chain {op op' : CmpOp} {r r' : R2} (ho : OpR X (compareOp op) r) (ho' : OpR X (compareOp op') r') (ha : PE X a ta) (hb : PE X b tb) (hc : PE X c tc)
    (hm : lastMarks [op, op'] [b, c] = false := by with_unfolding_all rfl) : PE X (.Compare a [op, op'] [b, c] pos) (tChain r r' ta tb tc) := by
  intro pins s σ H Q I h
  refine Compare_chain (thn (ha pins s σ H _ I h) fun v s1 ⟨x, H1, I1, r1, q1⟩ => chain_link (thn (hb pins s1 σ H1 _ I1 q1) fun u s2 ⟨y, H2, I2, r2, q2⟩ =>
    thn (ho pins s2 σ H2 x y v u _ I2 r1 r2 q2) fun d s3 ⟨z, H3, I3, r3, k, e, q3⟩ => ?_)) hm
  subst e
  cases r3
  refine wpAny_truthy_bool ?_
  cases k with
  | false => exact ite_ff ⟨.bl false, H3, I3, rfl, q3⟩
  | true => exact ite_tt (chain_last (thn (hc pins s3 σ H3 _ I3 q3) fun w' s4 ⟨z', H4, I4, r4, q4⟩ => ho' pins s4 σ H4 y z' u w' Q I4 r2 r4 q4))

/-! ### truth -/
theorem line63 : (sizeLine : Nat) < 2 ^ 63 := by rw [sizeLine_eq]; decide

/-! ### strs and bytes -/


/-! ### scalar builtins, by CallR -/
theorem vals1 {x : V} {us : List Value} (r : Vals [x] us) : ∃ u, us = [u] ∧ RelV x u := by
  cases r with
  | cons r1 r2 => cases r2; exact ⟨_, rfl, r1⟩
theorem vals2 {x y : V} {us : List Value} (r : Vals [x, y] us) : ∃ u w', us = [u, w'] ∧ RelV x u ∧ RelV y w' := by
  cases r with
  | cons r1 r2 =>
    cases r2 with
    | cons r3 r4 => cases r4; exact ⟨_, _, rfl, r1, r3⟩
end
end L2

namespace L2
open PySem PySem.Spec PyProof.Rows

/-! ### an instance, its attributes a map -/
structure ObjM (h : Heap) (x dx C : Addr) (mA : Str → Option Value) : Prop where
  obj : h.get? x = some (PySem.W.instObj C dx)
  ns : h.Ns1 dx mA
  ne : dx ≠ x

theorem lookIn_ns {h : Heap} {dx : Addr} {mA : Str → Option Value} (n : h.Ns1 dx mA) : ∃ od, h.get? dx = some od ∧ ∀ name, PySem.W.lookIn name od = some (mA name) := by
  obtain ⟨o, es, ep, ho, hd, hk, _, hm⟩ := n
  refine ⟨o, ho, fun name => ?_⟩
  have e := hm name
  unfold nsFind findBy at e
  rw [← Array.find?_toList] at e
  unfold PySem.W.lookIn
  rw [hd]
  dsimp only
  split
  · rename_i y q
    rw [q] at e
    exact congrArg some e
  · rename_i q
    rw [q] at e
    have a : es.toList.any (·.refKey) = false := by
      rw [List.any_eq_false]
      intro y hy
      obtain ⟨z, t, hkey⟩ := hk y (Array.mem_toList_iff.mp hy)
      simp [DictEntry.refKey, hkey]
    have a' : ¬ es.toList.any (·.refKey) = true := by rw [a]; exact Bool.false_ne_true
    rw [if_neg a']
    exact congrArg some e

theorem ObjM.look {h : Heap} {x dx C : Addr} {mA : Str → Option Value} (I : ObjM h x dx C mA) : ∃ od, PySem.W.InstAt h x (PySem.W.instObj C dx) C (some od) ∧ ∀ name, PySem.W.lookIn name od = some (mA name) :=
  let ⟨od, ho, hl⟩ := lookIn_ns I.ns
  ⟨od, ⟨I.obj, rfl, rfl, ho⟩, hl⟩

section
variable {prog : Program} {w : World} {A : Around} {E : Value → Shared → Prop} {s : Shared} {K : PySem.W.Frag} {x dx C f : Addr} {mA : Str → Option Value} {name : Str} {v : Value}





end

/-! ### the attributes as a list of pairs -/

theorem RelO.some_of {v : V} {o : Option Value} (r : RelO (some v) o) : ∃ u, o = some u ∧ RelV v u := by
  cases o with
  | none => exact (show False from r).elim
  | some u => exact ⟨u, rfl, r⟩

section
variable {P : Program} {w : World} {H H' : Hp} {h h' : Heap} {a C dx : Addr} {fs fs' : List (Str × V)}
theorem ins_get (hok : HOk P w H h) (e : H a = some (.ins C dx fs)) : ∃ mA, ObjM h a dx C mA ∧ (∀ f, RelO (fs.lookup f) (mA f)) ∧ PySem.Within mA (fs.map (·.1)) ∧ fs.length ≤ 1000 ∧ H dx = some (.own a) := by
  obtain ⟨d, z, ne, ob, mA, n, r, q⟩ := (show ObjOk P w H h a (.ins C dx fs) from hok a _ e)
  exact ⟨mA, ⟨ob, n, ne⟩, r, q, z, d⟩
end

/-! ### what of the text a class must have -/
structure Cls (K : PySem.W.Frag) (C : Addr) : Prop where
  pg : PySem.W.plainGet K C Str.empty = true
  hd : PySem.W.hasDictIn K C = true
  po : PySem.W.plainOver K C = true
  sa : PySem.W.findIn K (.ref C) "__setattr__" = some (some (.builtin "object.__setattr__"))
theorem Cls.get {K : PySem.W.Frag} {C : Addr} (c : Cls K C) (f : Str) : PySem.W.plainGet K C f = true := c.pg

section
variable {X : Cx} {pins : List (Addr × Obj)} {σ : St} {H : Hp} {s : Shared} {a C dx : Addr} {fs : List (Str × V)} {f : Str} {v : V} {A : Around} {E : Value → Shared → Prop}






end

/-! ### readings and rules -/

section
variable {X : Cx} {o e value : Expr} {f : Str} {pos pos' tpos : Pos} {ta tv : TE}

end

/-! ### isinstance -/
section
variable {X : Cx} {pins : List (Addr × Obj)} {σ : St} {H : Hp} {s : Shared} {A : Around} {E : Value → Shared → Prop} {Q : Value → Shared → Prop} {c : Value} {b : Bool}
/-- the type of a value, as the fragment's deciders take it; for an instance its class -/
inductive TyOf (K : PySem.W.Frag) (H : Hp) : V → Value → Prop where
  | non : TyOf K H .non (.type "NoneType")
  | bl (x : Bool) : TyOf K H (.bl x) (.type "bool")
  | int (i : Int) : TyOf K H (.int i) (.type "int")
  | str (x : Str) : TyOf K H (.str x) (.type "str")
  | flt (x : UInt64) : TyOf K H (.flt x) (.type "float")
  | lst {a : Addr} {xs : List V} (e : H a = some (.lst xs)) : TyOf K H (.ref a) (.type "list")
  | frz {a : Addr} {o : Obj} {xs : List V} (e : H a = some (.frz o (.lst xs))) : TyOf K H (.ref a) (.type "list")
  | tup {a : Addr} {xs : List V} (e : H a = some (.tup xs)) : TyOf K H (.ref a) (.type "tuple")
  | dK {a : Addr} {kvs : List (Key × V)} (e : H a = some (.dK kvs)) : TyOf K H (.ref a) (.type "dict")
  | dT {a : Addr} {kvs : List (List Key × V)} (e : H a = some (.dT kvs)) : TyOf K H (.ref a) (.type "dict")
  | ins {a C dx : Addr} {fs : List (Str × V)} (e : H a = some (.ins C dx fs)) (cl : Cls K C) (ha : PySem.W.findIn K (.ref C) "__class__" = some (some (.builtin "object.__class__")))
      (hn : PySem.W.specialIn K (.builtin "object.__class__") "__get__" = some (some (.builtin "getset_descriptor.__get__"))) (htk : PySem.W.takesIn K (.builtin "object.__class__") = some true)
      (hm : PySem.W.mroIn K C (.type "object") = some true) : TyOf K H (.ref a) (.ref C)
/-- isinstance(x, c) for one class c, a built-in or an own one: kitOne's answer -/
theorem isinst_ok {x : V} {u t : Value} (I : Inv X pins σ H s) (rx : RelV x u) (ty : TyOf X.K H x t) (e : PySem.W.kitOne X.K t c = some b) (h : ∀ tk, Q (.bool b) { s with toks := tk }) :
    wpAny (model X.prog X.w) A (call (.builtin "isinstance") [u, c]) Q E s := by
  cases ty with
  | non => cases (show u = Value.none from rx); exact PySem.W.kia_one PySem.W.kitx_none I.kIn True.intro e (fun z => nomatch z) h
  | bl y => cases (show u = Value.bool y from rx); exact PySem.W.kia_one PySem.W.kitx_bool I.kIn True.intro e (fun z => nomatch z) h
  | int i => obtain ⟨t, q⟩ := (show ∃ t, u = Value.int i t from rx); cases q; exact PySem.W.kia_one PySem.W.kitx_int I.kIn True.intro e (fun z => nomatch z) h
  | str y => obtain ⟨t, q⟩ := (show ∃ t, u = Value.str y t from rx); cases q; exact PySem.W.kia_one PySem.W.kitx_str I.kIn True.intro e (fun z => nomatch z) h
  | flt y => obtain ⟨t, q⟩ := (show ∃ t, u = Value.float y t from rx); cases q; exact PySem.W.kia_one PySem.W.kitx_float I.kIn True.intro e (fun z => nomatch z) h
  | @lst a xs ea =>
    cases (show u = Value.ref a from rx)
    obtain ⟨_, _, n, _, h1⟩ := (show ObjOk X.prog X.w H s.heap a (.lst xs) from I.hok a _ ea)
    exact PySem.W.kia_one PySem.W.kitx_list I.kIn ⟨_, h1, rfl⟩ e (fun z => nomatch z) h
  | @frz a ob xs ea =>
    cases (show u = Value.ref a from rx)
    obtain ⟨_, _, _, n, _, h1⟩ := (show ObjOk X.prog X.w H s.heap a (.frz ob (.lst xs)) from I.hok a _ ea)
    exact PySem.W.kia_one PySem.W.kitx_list I.kIn ⟨_, h1, rfl⟩ e (fun z => nomatch z) h
  | @tup a xs ea =>
    cases (show u = Value.ref a from rx)
    obtain ⟨_, _, _, p⟩ := (show ObjOk X.prog X.w H s.heap a (.tup xs) from I.hok a _ ea)
    obtain ⟨o, h1, h2, _⟩ := p
    exact PySem.W.kia_one PySem.W.kitx_tuple I.kIn ⟨o, h1, h2⟩ e (fun z => nomatch z) h
  | @dK a kvs ea =>
    cases (show u = Value.ref a from rx)
    obtain ⟨_, _, vs, _, p⟩ := (show ObjOk X.prog X.w H s.heap a (.dK kvs) from I.hok a _ ea)
    obtain ⟨o, es, ep, h1, h2, _⟩ := p
    exact PySem.W.kia_one PySem.W.kitx_dict I.kIn ⟨o, h1, h2.1⟩ e (fun z => nomatch z) h
  | @dT a kvs ea =>
    cases (show u = Value.ref a from rx)
    obtain ⟨_, _, xs, _, o, es, ep, h1, h2, _⟩ := (show ObjOk X.prog X.w H s.heap a (.dT kvs) from I.hok a _ ea)
    exact PySem.W.kia_one PySem.W.kitx_dict I.kIn ⟨o, h1, h2.1⟩ e (fun z => nomatch z) h
  | @ins a C dx fs ea cl ha hn htk hm =>
    cases (show u = Value.ref a from rx)
    obtain ⟨mA, O, _⟩ := ins_get I.hok ea
    obtain ⟨od, J, _⟩ := O.look
    exact PySem.W.kia_one (PySem.W.kitx_own (cl.get _) cl.hd ha hn htk hm) I.kIn J e (fun z => nomatch z) h
end
end L2

namespace L2
open PySem PySem.Spec PyProof.Rows

/-! ### room -/
structure Room (k : Nat) (A : Around) : Prop where
  hd : A.handled = none
  dp : A.depth + 3 * k + 5 < recursionLimit
  un : A.units + 16 * k + 200 < cLine
theorem Room.mono {j k : Nat} {A : Around} (r : Room k A) (h : j ≤ k) : Room j A := ⟨r.hd, by have := r.dp; omega, by have := r.un; omega⟩
theorem Room.deeper {k : Nat} {A : Around} (r : Room (k + 1) A) (env : Env) : Room k (A.deeper env) :=
  ⟨r.hd, by have := r.dp; show A.depth + 1 + 3 * k + 5 < _; omega, by have := r.un; show A.units + 3 + 16 * k + 200 < _; omega⟩
theorem Room.depth {k : Nat} {A : Around} (r : Room k A) : A.depth < recursionLimit := by have := r.dp; omega
theorem Room.units {k : Nat} {A : Around} (r : Room k A) : A.units + 64 < cLine := by have := r.un; omega

/-! ### argument lists and displays -/
def tNil : TA := fun _ H Q => Q [] H
def tCons (ta : TE) (tr : TA) : TA := fun σ H Q => ta σ H fun x H1 => tr σ H1 fun xs H2 => Q (x :: xs) H2
section
variable {X : Cx} {e : Expr} {es : List Expr} {te : TE} {t : TA} {pos : Pos}
theorem pa_nil : PA X [] tNil := fun _ _ _ _ H Q I h => Calls.spliced_nil ⟨[], H, I, .nil, h⟩
theorem pa_cons (ha : PE X e te) (hr : PA X es t) (hs : starEach (e :: es) X.env = (false, eval e X.env) :: starEach es X.env := by rfl) : PA X (e :: es) (tCons te t) := by
  intro pos pins s σ H Q I h
  rw [hs]
  show wpAny _ _ (spliced ((false, eval e X.env) :: backTo pos (starEach es X.env))) _ _ s
  refine Calls.spliced_cons (thn (ha pins s σ H _ I h) fun u s1 ⟨x, H1, I1, r1, q1⟩ => ?_)
  exact thn (hr pos pins s1 σ H1 _ I1 q1) fun us s2 ⟨xs, H2, I2, r2, q2⟩ => ⟨x :: xs, H2, I2, .cons r1 r2, q2⟩

/-- a tuple, a list of written items -/
def tTup (t : TA) : TE := fun σ H Q => t σ H fun xs H1 => xs.length ≤ sizeLine ∧ ∀ p, H1 p = none → Q (.ref p) (upd H1 p (.tup xs))
def tLst (t : TA) : TE := fun σ H Q => t σ H fun xs H1 => xs.length ≤ sizeLine ∧ ∀ p, H1 p = none → Q (.ref p) (upd H1 p (.lst xs))
theorem pe_tup {x1} (h : PA X es t) : PE X (.Tuple es x1 pos) (tTup t) := by
  intro pins s σ H Q I hq
  refine wpAny_Tuple_spliced (thn (h pos pins s σ H _ I hq) fun us s1 ⟨xs, H1, I1, r, z, q⟩ => ⟨by rw [← r.length]; exact z, ?_⟩)
  have hf : H1 s1.heap.objs.size = none := I1.hok.fresh (Nat.le_refl _)
  refine ⟨.ref s1.heap.objs.size, upd H1 s1.heap.objs.size (.tup xs), I1.laid (t' := s1.toks) (fun b u e => Heap.get?_push_of_some _ e) (Nat.le_refl _) ?_, rfl, q _ hf⟩
  exact ⟨z, us, r, ⟨_, Heap.get?_push_size _ rfl, rfl, _, rfl⟩⟩
theorem pe_lst (h : PA X es t) : PE X (.List es pos) (tLst t) := by
  intro pins s σ H Q I hq
  refine wpAny_List_spliced (thn (h pos pins s σ H _ I hq) fun us s1 ⟨xs, H1, I1, r, z, q⟩ => ⟨by rw [← r.length]; exact z, ?_⟩)
  have hf : H1 s1.heap.objs.size = none := I1.hok.fresh (Nat.le_refl _)
  refine ⟨.ref s1.heap.objs.size, upd H1 s1.heap.objs.size (.lst xs), I1.laid (t' := s1.toks) (fun b u e => Heap.get?_push_of_some _ e) (Nat.le_refl _) ?_, rfl, q _ hf⟩
  exact ⟨z, us, 0, r, Heap.get?_push_size _ rfl⟩
end

/-! ### what a def promises -/
/-- a def's promise: the bound arguments in the parameters' order, the heap, the wanted end, the wanted exception -/
abbrev Sp := List V → Hp → VK → XK → Prop
/-- how an exception lies behind a call (file 08 gives it): the callers' frames, abstract heap and state ahead of the call, the wish, the exception, the state -/
abbrev CXT := List Env → Hp → Shared → XK → Value → Shared → Prop

/-- the state at a call -/
structure Env0 (P : Program) (w : World) (K : PySem.W.Frag) (mg : Str → Option Value) (base : Heap) (A : Around) (outer : List Env) (s : Shared) (H : Hp) : Prop where
  frames : A.frames = some outer
  mod : Mod K mg base
  bs : ∀ b o, base.get? b = some o → s.heap.get? b = some o ∧ H b = none
  bsz : base.objs.size ≤ s.heap.objs.size
  funs : s.heap.FunFrames base outer
  frf : ∀ b ∈ frs outer, H b = none
  hok : HOk P w H s.heap
  bare : AllBare s.gens
/-- a call's end -/
def CE (outer : List Env) (P : Program) (w : World) (H : Hp) (s : Shared) (Q : VK) (u : Value) (s' : Shared) : Prop :=
  ∃ v H', s'.os = s.os ∧ AllBare s'.gens ∧ Un (frs outer) [] H H' s.heap s'.heap ∧ HOk P w H' s'.heap ∧ RelV v u ∧ Q v H'
def CR (CX : CXT) (outer : List Env) (P : Program) (w : World) (H : Hp) (s : Shared) (Q : VK) (E : XK) (r : Result) (s' : Shared) : Prop :=
  match r with
  | .ok (.ret u) => CE outer P w H s Q u s'
  | .ok _ => False
  | .error e => CX outer H s E e s'
structure FnOk (P : Program) (w : World) (K : PySem.W.Frag) (mg : Str → Option Value) (base : Heap) (CX : CXT) (k : Nat) (f : Addr) (fd : FuncData) (ps : List Str) (sp : Sp) : Prop where
  len : ∀ vs H Q E, sp vs H Q E → vs.length = ps.length
  run : ∀ (A : Around) (outer : List Env) (s : Shared) (H : Hp) (args : Args) (us : List Value) (vs : List V) (Q : VK) (E : XK), Room k A → Env0 P w K mg base A outer s H → BindsTo s fd args (ps.zip us) → Vals vs us → sp vs H Q E →
    codeAny (model P w) A (.call (.ref f) args) (CR CX outer P w H s Q E) s


section
variable {X : Cx} {pins : List (Addr × Obj)} {σ : St} {H : Hp} {s s' : Shared}
/-- from a body: what a callee wants -/
theorem Inv.env0 (I : Inv X pins σ H s) : Env0 X.prog X.w X.K X.mg X.base X.A X.stack s H :=
  ⟨I.ok.frames, I.ok.mod, I.bs, Nat.le_trans I.ok.bsz I.sz, I.stack, I.stkFree, I.hok, I.bare⟩
/-- behind a call -/
theorem Inv.after {Q : VK} {u : Value} (I : Inv X pins σ H s) (h : CE X.stack X.prog X.w H s Q u s') : EP X pins σ Q u s' := by
  obtain ⟨v, H', os, bare, un, hok, r, q⟩ := h
  obtain ⟨hh, g, d, t, os'⟩ := s'
  obtain rfl : os' = s.os := os
  exact ⟨v, H', I.call (h' := hh) (g' := g) (d' := d) (t' := t) (ch := []) un hok bare (fun b z => absurd z (by simp)), r, q⟩
end

/-! ### calls -/

/-- how the parameters are bound: us the positional arguments, kw the keywords' values by name, ds the defaults that fill up -/
def Binds (K : PySem.W.Frag) (fd : FuncData) (ps : List Str) (ds : List Value) : Prop :=
  ∀ (s : Shared) (us : List Value), K.In s.heap → (us ++ ds).length = ps.length → BindsTo s fd ⟨us, []⟩ (ps.zip (us ++ ds))
/-- every parameter is given -/
theorem Binds.all {K : PySem.W.Frag} {fd : FuncData} {ps : List Str} (h : ∀ us : List Value, us.length = ps.length → bindArgs fd ⟨us, []⟩ = pure (ps.zip us)) : Binds K fd ps [] := fun s us _ hl => by
  rw [List.append_nil] at hl ⊢
  exact .of_eq (h us hl)


section
variable {X : Cx} {CX : CXT} {k : Nat} {f C : Addr} {fd : FuncData} {ps : List Str} {sp : Sp} {dvs : List V} {ds : List Value} {E : XK} {x m : Str} {p pos apos : Pos} {e o : Expr} {es : List Expr} {ta : TE} {t : TA}





end

/-! ### keywords -/
section
variable {X : Cx} {CX : CXT} {k : Nat} {f C : Addr} {fd : FuncData} {ps ks : List Str} {sp : Sp} {E : XK} {x m : Str} {p pos apos kpos : Pos} {e o : Expr} {es : List Expr} {kws : List Keyword} {te ta : TE} {t tk : TA} {nm : Option Str}

variable {g : List Value → List Value → List Value} {gV : List V → List V → List V}
end

/-! ### a def's body keeps its promise -/
/-- names: the parameters first -/
structure FnScope (N P : List Str) (sc : Scope) : Prop where
  kind : sc.kind = .function
  co : sc.isCoroutine = false
  gen : sc.isGenerator = false
  nd : N.Nodup
  pre : N.take P.length = P
  par : ∀ x ∈ P, sc.names.lookup x = some .local ∨ sc.names.lookup x = some .cell
  nofree : ∀ y ∈ sc.names, y.2 ≠ .free

theorem bindL_out {kindOf : Str → Option NameKind} {x : Str} : ∀ {binds : List (Str × Value)} {m : Str → Option Value}, (∀ v, (x, v) ∉ binds) → bindL kindOf binds m x = m x
  | [], _, _ => rfl
  | (n, v) :: r, m, h => by
    unfold bindL
    rw [bindL_out fun w hw => h w (List.mem_cons_of_mem _ hw)]
    split
    · have : x ≠ n := by rintro rfl; exact h v List.mem_cons_self
      simp [this]
    · rfl
theorem bindC_out {kindOf : Str → Option NameKind} {x : Str} : ∀ {binds : List (Str × Value)} {m : Str → Option Value}, (∀ v, (x, v) ∉ binds) → bindC kindOf binds m x = m x
  | [], _, _ => rfl
  | (n, v) :: r, m, h => by
    unfold bindC
    rw [bindC_out fun w hw => h w (List.mem_cons_of_mem _ hw)]
    split
    · rfl
    · have : x ≠ n := by rintro rfl; exact h v List.mem_cons_self
      simp [this]
theorem bindL_get {kindOf : Str → Option NameKind} {x : Str} {v : Value} : ∀ {P : List Str} {vs : List Value} {i : Nat} {m : Str → Option Value}, P.Nodup → P[i]? = some x → vs[i]? = some v → kindOf x = some .local →
    bindL kindOf (P.zip vs) m x = some v
  | [], _, _, _, _, h, _, _ => by simp at h
  | _ :: _, [], _, _, _, _, h, _ => by simp at h
  | p :: P, w :: vs, 0, m, nd, h1, h2, hk => by
    simp at h1 h2; subst h1; subst h2
    show bindL kindOf ((p, w) :: P.zip vs) m p = _
    unfold bindL
    rw [bindL_out fun v hv => (List.nodup_cons.mp nd).1 (List.of_mem_zip hv).1, if_pos hk]
    simp
  | p :: P, w :: vs, i + 1, m, nd, h1, h2, hk => by
    show bindL kindOf ((p, w) :: P.zip vs) m x = _
    unfold bindL
    exact bindL_get (i := i) (List.nodup_cons.mp nd).2 (by simpa using h1) (by simpa using h2) hk
theorem bindC_get {kindOf : Str → Option NameKind} {x : Str} {v : Value} : ∀ {P : List Str} {vs : List Value} {i : Nat} {m : Str → Option Value}, P.Nodup → P[i]? = some x → vs[i]? = some v → kindOf x ≠ some .local →
    bindC kindOf (P.zip vs) m x = some v
  | [], _, _, _, _, h, _, _ => by simp at h
  | _ :: _, [], _, _, _, _, h, _ => by simp at h
  | p :: P, w :: vs, 0, m, nd, h1, h2, hk => by
    simp at h1 h2; subst h1; subst h2
    show bindC kindOf ((p, w) :: P.zip vs) m p = _
    unfold bindC
    rw [bindC_out fun v hv => (List.nodup_cons.mp nd).1 (List.of_mem_zip hv).1, if_neg hk]
    simp
  | p :: P, w :: vs, i + 1, m, nd, h1, h2, hk => by
    show bindC kindOf ((p, w) :: P.zip vs) m x = _
    unfold bindC
    exact bindC_get (i := i) (List.nodup_cons.mp nd).2 (by simpa using h1) (by simpa using h2) hk

/-- the names' values at the entry -/
def start (N : List Str) (vs : List V) : St := vs.map some ++ List.replicate (N.length - vs.length) none

/-- the context of a def's body, at its entry; an exception leaves the frame, then lies as CX says -/
def cxOf (CX : CXT) (P : Program) (w : World) (K : PySem.W.Frag) (mg : Str → Option Value) (base : Heap) (N : List Str) (qual : Str) (scope : Scope) (f : Addr) (cd : Value) (A : Around) (outer : List Env) (s : Shared) (H : Hp) (E : XK) : Cx where
  prog := P
  w := w
  K := K
  mg := mg
  base := base
  A := A.deeper (envOfC qual scope s.heap.objs.size f cd)
  N := N
  s₀ := s
  H₀ := H
  env := envOfC qual scope s.heap.objs.size f cd
  outer := outer
  stack := envOfC qual scope s.heap.objs.size f cd :: outer
  ex := []
  calm := true
  fn := fun _ => true
  pn := []
  xe := fun e s' => wpAny (model P w) (A.deeper (envOfC qual scope s.heap.objs.size f cd)) (leaving (envOfC qual scope s.heap.objs.size f cd) e) (fun _ s'' => CX outer H s E e s'') (fun e' s'' => CX outer H s E e' s'') s'

theorem cell_has {sc : Scope} {n : Nat} {x : Str} (h : sc.names.lookup x = some .cell) : ∃ c, (cellsFrom n sc.names []).lookup x = some c := by
  have q := PySem.W.cellsFrom_some sc.names n [] (.inl h)
  exact Option.isSome_iff_exists.mp q

theorem inv_start {CX : CXT} {P : Program} {w : World} {K : PySem.W.Frag} {mg : Str → Option Value} {base : Heap} {N ps : List Str} {qual : Str} {scope : Scope} {f : Addr} {cd : Value} {A : Around} {outer : List Env} {s s1 : Shared} {H : Hp} {E : XK} {us : List Value} {vs : List V}
    (S : FnScope N ps scope) (hd : A.handled = none) (e0 : Env0 P w K mg base A outer s H) (hl : vs.length = ps.length) (r : Vals vs us)
    (x : InCallC s s.heap.objs.size (bindL (envOfC qual scope s.heap.objs.size f cd).kindOf (ps.zip us) fun _ => none) (cellsFrom (s.heap.objs.size + 1) scope.names []) (bindC (envOfC qual scope s.heap.objs.size f cd).kindOf (ps.zip us) fun _ => none) s1) :
    Inv (cxOf CX P w K mg base N qual scope f cd A outer s H E) [] (start N vs) H s1 := by
  have hpl : ps.length ≤ N.length := by have := congrArg List.length S.pre; rw [List.length_take] at this; omega
  obtain ⟨h1, tk, rfl, hk⟩ := x.done
  have noA : ∀ b : Addr, b ∉ (cxOf CX P w K mg base N qual scope f cd A outer s H E).ex := fun b z => absurd (show b ∈ ([] : List Addr) from z) (by simp)
  refine ⟨⟨e0.mod, S.kind, rfl, rfl, Nat.le_refl _, fun y z c h1 h2 => ?_, fun y hy => ?_, fun y c _ h => ?_, fun _ => hd, Around.frames_deeper e0.frames, .inr ⟨rfl, rfl⟩, fun b z => absurd z (noA b), e0.bs, e0.bsz, fun b _ _ => noA b, fun b z => absurd z (noA b), e0.funs, e0.frf⟩,
    rfl, e0.bare, Un.kept hk, ⟨_, x.toInCall.ns, fun i y v h1 h2 h3 => ?_⟩, fun y c h => ⟨_, x.cell y c h⟩, e0.hok.fresh (Nat.le_refl _), fun y c h => ?_, fun p hp => absurd (show p ∈ ([] : List (Addr × Obj)) from hp) (by simp), e0.hok.kept hk, ?_⟩
  · exact name_of_addr x.apart (PySem.mem_of_lookup h1) (PySem.mem_of_lookup h2)
  · have hy : scope.names.lookup y = some .cell ∨ scope.names.lookup y = some .free := hy
    rcases hy with hy | hy
    · exact cell_has hy
    · exact absurd rfl (S.nofree _ (PySem.mem_of_lookup hy))
  · exact Nat.le_of_lt (x.above y c (PySem.mem_of_lookup h))
  · have hi : i < vs.length := by
      unfold start at h2
      by_cases hi : i < vs.length
      · exact hi
      · rw [List.getElem?_append_right (by simpa using hi)] at h2
        rw [List.getElem?_replicate] at h2
        split at h2 <;> cases h2
    have ha : vs[i]? = some v := by
      unfold start at h2
      rw [List.getElem?_append_left (by simpa using hi), List.getElem?_map] at h2
      cases e : vs[i]? with
      | none => rw [e] at h2; cases h2
      | some a => rw [e] at h2; cases h2; rfl
    obtain ⟨u, hu, rv⟩ := r.get ha
    have hp : ps[i]? = some y := by
      rw [← S.pre, List.getElem?_take_of_lt (by omega)]; exact h1
    have ndP : ps.Nodup := by rw [← S.pre]; exact S.nd.sublist (List.take_sublist _ _)
    refine ⟨u, rv, ?_⟩
    rcases S.par y (List.mem_of_getElem? hp) with k | k
    · exact .inl ⟨k, bindL_get ndP hp hu k⟩
    · obtain ⟨c, e⟩ := cell_has (n := s.heap.objs.size + 1) k
      refine .inr ⟨.inl k, c, e, ?_⟩
      have q := x.cell y c e
      rw [bindC_get ndP hp hu (by show scope.names.lookup y ≠ _; rw [k]; decide)] at q
      exact q
  · exact e0.hok.fresh (Nat.le_of_lt (x.above y c (PySem.mem_of_lookup h)))
  · unfold start
    show _ = N.length
    rw [List.length_append, List.length_map, List.length_replicate]
    omega

/-- THE RULE: a def (or a method) of the text, by its body. The body's reading t is chosen for each entry; it is run at the parameters' values -/
theorem fn_of {CX : CXT} {P : Program} {w : World} {K : PySem.W.Frag} {mg : Str → Option Value} {base : Heap} {k : Nat} {f : Addr} {name qual : Str} {params : Arguments} {body : List Stmt} {scope : Scope} {dV kV doc pm cdv ct oc : Value} {an od : Option Addr}
    {osl : Array (Option Value)} {N ps : List Str} {sp : Sp} (lk : K.lookup f = some ⟨oc, od, .func (PySem.W.fnOf name qual params body scope dV kV doc pm an cdv ct), osl⟩) (hcd : PySem.W.codeIn K cdv qual = true) (S : FnScope N ps scope)
    (len : ∀ vs H Q E, sp vs H Q E → vs.length = ps.length)
    (hbody : ∀ (A : Around) (outer : List Env) (s : Shared) (H : Hp) (vs : List V) (Q : VK) (E : XK), Room k (A.deeper (envOfC qual scope s.heap.objs.size f cdv)) → sp vs H Q E →
      ∃ t, PSs (cxOf CX P w K mg base N qual scope f cdv A outer s H E) body t ∧ t { nx := fun _ H' => Q .non H', rt := Q } (start N vs) H) :
    FnOk P w K mg base CX (k + 1) f (PySem.W.fnOf name qual params body scope dV kV doc pm an cdv ct) ps sp := by
  refine ⟨len, fun A outer s H args us vs Q E hr e0 hb r hsp => ?_⟩
  have hl := len _ _ _ _ hsp
  have KX : K.In s.heap := e0.mod.kin.keeps fun b o e => (e0.bs b o e).1
  have lim : s.heap.NoLimit := e0.mod.nolimit.keeps fun b o e => (e0.bs b o e).1
  have hkind : ∀ y ∈ ps.zip us, scope.names.lookup y.1 = some .local ∨ (scope.names.lookup y.1 = some .cell ∧ ((cellsFrom (s.heap.objs.size + 1) scope.names []).lookup y.1).isSome = true) := fun ⟨n, v⟩ hy => by
    rcases S.par n (List.of_mem_zip hy).1 with q | q
    · exact .inl q
    · exact .inr ⟨q, PySem.W.cellsFrom_some _ _ _ (.inl q)⟩
  refine codeAny_call_function hr.depth (KX _ _ lk) rfl S.co S.gen rfl (PySem.W.codeRec_of KX hcd) (hb _ _ _ _ ?_)
  refine wpAny_newFunctionEnv_cells S.kind hkind fun env he s1 x => ?_
  subst he
  refine ⟨lim.keeps x.toInCall.keep, codeAny_func ?_⟩
  obtain ⟨t, ht, hq⟩ := hbody A outer s H vs Q E (hr.deeper _) hsp
  have I : Inv (cxOf CX P w K mg base N qual scope f cdv A outer s H E) [] (start N vs) H s1 := inv_start S hr.hd e0 hl r x
  refine wpAny_mono (ht [] s1 (start N vs) H _ I hq) (fun fl s' hs => ?_) fun e s' hs => hs
  have fin : ∀ {σ' : St} {H' : Hp} {v : V} {u : Value}, Inv (cxOf CX P w K mg base N qual scope f cdv A outer s H E) [] σ' H' s' → RelV v u → Q v H' → CE outer P w H s Q u s' :=
    fun {σ' H' v u} J rv q => ⟨v, H', J.os, J.bare, J.base, J.hok, rv, q⟩
  cases fl with
  | ret u =>
    obtain ⟨v, σ', H', J, rv, q⟩ := hs
    exact fin J rv q
  | next =>
    obtain ⟨σ', H', J, q⟩ := hs
    exact fin (v := V.non) (u := Value.none) J rfl q
  | brk =>
    obtain ⟨_, _, _, q⟩ := hs
    exact False.elim q
  | cont =>
    obtain ⟨_, _, _, q⟩ := hs
    exact False.elim q
end L2

namespace L2
open PySem PySem.Spec PyProof.Rows
section
variable {X : Cx} {x : Str} {p pos : Pos} {e : Expr} {es : List Expr} {t : TA} {id T : String} {r : List V → Hp → VK → Prop}

def tCB (r : List V → Hp → VK → Prop) (t : TA) : TE := fun σ H Q => t σ H fun vs H1 => r vs H1 Q
/-- f(e, ..), f a built-in function -/
theorem pe_callB (hc : CallR X (.builtin id) r) (hg : Gl X x) (hm : X.mg x = none) (hv : bootBuiltins x = some (.builtin id)) (ha : PA X (e :: es) t) (hn : x ≠ "__name__" := by decide) (hdb : (x == ("__debug__" : Str)) = false := by decide)
    (he : starEach (e :: es) X.env = (false, eval e X.env) :: starEach es X.env := by rfl) (hpl : (backTo pos (starEach es X.env)).any (·.1) = false := by rfl) : PE X (.Call (.Name x p) (e :: es) [] pos) (tCB r t) := by
  intro pins s σ H Q I h
  refine wpAny_Call_Name_kw (ld_blt I hg hm hv ?_ hn hdb)
  exact PyProof.Rows.callWith_builtin1 (thn (ha pos pins s σ H _ I h) fun us s1 ⟨vs, H1, I1, r1, q1⟩ => hc pins s1 σ H1 vs us Q I1 r1 q1) he hpl
/-- T(e, ..), T a built-in type -/
theorem pe_callTy (hc : CallR X (.type T) r) (hg : Gl X x) (hm : X.mg x = none) (hv : bootBuiltins x = some (.type T)) (ha : PA X (e :: es) t) (hn : x ≠ "__name__" := by decide) (hdb : (x == ("__debug__" : Str)) = false := by decide)
    (he : starEach (e :: es) X.env = (false, eval e X.env) :: starEach es X.env := by rfl) (hpl : (backTo pos (starEach es X.env)).any (·.1) = false := by rfl) : PE X (.Call (.Name x p) (e :: es) [] pos) (tCB r t) := by
  intro pins s σ H Q I h
  refine wpAny_Call_Name_kw (ld_blt I hg hm hv ?_ hn hdb)
  exact PyProof.Rows.callWith_type1 (thn (ha pos pins s σ H _ I h) fun us s1 ⟨vs, H1, I1, r1, q1⟩ => hc pins s1 σ H1 vs us Q I1 r1 q1) he hpl
end
end L2

namespace HT
open PySem PyProof.Rows

/-- t < u of tuples of ints -/
def lexLt : List Int → List Int → Bool
  | [], [] => false
  | [], _ :: _ => true
  | _ :: _, [] => false
  | x :: xs, y :: ys => if x = y then lexLt xs ys else decide (x < y)
theorem lexLt_cons (x y : Int) (xs ys : List Int) : lexLt (x :: xs) (y :: ys) = if x = y then lexLt xs ys else decide (x < y) := rfl
theorem lexLt_nil_nil : lexLt [] [] = false := rfl
theorem lexLt_nil_cons (y : Int) (ys : List Int) : lexLt [] (y :: ys) = true := rfl
theorem lexLt_cons_nil (x : Int) (xs : List Int) : lexLt (x :: xs) [] = false := rfl

theorem eqAt_int (A : Around) (s : Shared) (a : Int) (t : Tok) (c : Int) (u : Tok) : ∃ e, SeqAt.EqAt A s (.int a t) (.int c u) e ∧ (e = true ↔ a = c) :=
  ⟨(a == c), SeqAt.EqAt.int_int a t c u, by simp⟩
theorem rcLt_int (A : Around) (s : Shared) (a : Int) (t : Tok) (c : Int) (u : Tok) (prog : Program) (w : World) (E : Value → Shared → Prop) (Q : Value → Shared → Prop) (h : Q (.bool (decide (a < c))) s) :
    wpAny (model prog w) A (richCompare .Lt (.int a t) (.int c u)) Q E s :=
  (PyProof.Rows.lt_int h : wpAny (model prog w) A (compareOp .Lt (.int a t) (.int c u)) Q E s)

section
open PySem.SeqAt
open PySem.AutoSeq1 (wpAny_loadPart')
open PySem.MeetsSeq PySem.MeetsSeq2 PySem.MeetsSeq3

theorem tuple_lt_ints (l b : Addr) (items items2 : Array Value) (n n2 : Nat) (dd dd2 : Option Addr) (sl sl2 : Array (Option Value)) (ns ms : List Int) (hi : IntsAre items.toList ns) (hj : IntsAre items2.toList ms) :
    Meets (Builtin.«tuple.__lt__» ⟨[.ref l, .ref b], []⟩)
      (fun _ R s => s.heap.get? l = some { cls := .type "tuple", dict := dd, data := .seq items n, slots := sl } ∧ s.heap.get? b = some { cls := .type "tuple", dict := dd2, data := .seq items2 n2, slots := sl2 } ∧
        R (.ok (.ret (.bool (lexLt ns ms)))) s) :=
  .of_wp fun prog w A R s h => by
    obtain ⟨hp, g, d, tk, os⟩ := s; obtain ⟨hl, hb, h⟩ := h
    have f2 := AutoSeq1.sub_tuple_tuple
    have z1 : items.size = ns.length := by rw [← hi.length]; simp
    have z2 : items2.size = ms.length := by rw [← hj.length]; simp
    wp_walk using wpAny_loadPart' hl, wpAny_loadPart' hb, wpAny_forIn_list _ (fun rest b s' => b.1 = none ∧ s' = ⟨hp, g, d, tk, os⟩ ∧ ∃ (vs ws : List Value) (ns' ms' : List Int), rest = vs.zip ws ∧
      IntsAre vs ns' ∧ IntsAre ws ms' ∧ ns'.length + items2.size = ms'.length + items.size ∧ R (.ok (.ret (.bool (lexLt ns' ms')))) ⟨hp, g, d, tk, os⟩) _
    case turn =>
      rintro ⟨y, x⟩ rest b s' ⟨hb', rfl, vs, ws, ns', ms', hz, hvi, hwi, hlen, hR⟩
      cases hvi with
      | nil => rw [List.zip_nil_left] at hz; cases hz
      | cons a t hvi' =>
        cases hwi with
        | nil => rw [List.zip_nil_right] at hz; cases hz
        | cons c u hwi' =>
          rw [List.zip_cons_cons] at hz
          injection hz with hyx hrest
          injection hyx with hy hx
          subst hy hx
          rw [lexLt_cons] at hR
          simp only [List.length_cons] at hlen
          obtain ⟨e, he, hiff⟩ := eqAt_int A.in1 ⟨hp, g, d, tk, os⟩ a t c u
          refine wpAny_bind (he prog w _ _ ?_)
          cases e with
          | true =>
            rw [if_pos (hiff.mp rfl)] at hR
            wp_walk
            exact ⟨rfl, rfl, _, _, _, _, hrest, hvi', hwi', by omega, hR⟩
          | false =>
            rw [if_neg (fun q => absurd (hiff.mpr q) Bool.false_ne_true)] at hR
            have hri := rcLt_int A.in1 ⟨hp, g, d, tk, os⟩ a t c u prog w
            wp_walk using hri
            exact ⟨_, rfl, by simpa using hR⟩
    case fin =>
      rintro ⟨b1, b2⟩ s' ⟨hb', rfl, vs, ws, ns', ms', hz, hvi, hwi, hlen, hR⟩
      simp only at hb'
      subst hb'
      have hv : lexLt ns' ms' = decide (items.size < items2.size) := by
        cases hvi with
        | nil =>
          cases hwi with
          | nil =>
            simp only [List.length_nil] at hlen
            rw [lexLt_nil_nil]
            exact (decide_eq_false (by omega)).symm
          | cons c u hw =>
            simp only [List.length_nil, List.length_cons] at hlen
            rw [lexLt_nil_cons]
            exact (decide_eq_true (by omega)).symm
        | cons a t hv =>
          cases hwi with
          | nil =>
            simp only [List.length_nil, List.length_cons] at hlen
            rw [lexLt_cons_nil]
            exact (decide_eq_false (by omega)).symm
          | cons c u hw =>
            rw [List.zip_cons_cons] at hz
            cases hz
      rw [hv] at hR
      wp_walk
      exact ⟨_, rfl, by simpa [Builtin.Tuple.tupleCompareSizes] using hR⟩
    case h =>
      exact ⟨rfl, rfl, items.toList, items2.toList, ns, ms, rfl, hi, hj, by omega, h⟩
end

section
variable {prog : Program} {w : World} {A : Around} {E : Value → Shared → Prop} {s : Shared}

theorem lt_tupInts {l b : Addr} {items items2 : Array Value} {ns ms : List Int} {Q : Value → Shared → Prop} (hl : IsTup s.heap l items) (hb : IsTup s.heap b items2) (hi : IntsAre items.toList ns) (hj : IntsAre items2.toList ms)
    (hu : A.units < cLine) (h : Q (.bool (lexLt ns ms)) s) : wpAny (model prog w) A (compareOp .Lt (.ref l) (.ref b)) Q E s := by
  obtain ⟨⟨cls, dd, data, sl⟩, ho, hc, n, hd⟩ := id hl
  obtain ⟨⟨cls2, dd2, data2, sl2⟩, ho2, hc2, n2, hd2⟩ := id hb
  simp only at hc hd hc2 hd2
  subst hc hd hc2 hd2
  exact richCompare_meets_room (op := .Lt) ⟨_, ho, rfl⟩ ⟨_, ho2, rfl⟩ PySem.F.slot_tuple_lt PySem.F.entry_tuple_lt (PySem.F.args_tuple_lt_2 _ _) (tuple_lt_ints l b items items2 n n2 dd dd2 sl sl2 ns ms hi hj)
    ⟨ho, ho2, show Value.bool (lexLt ns ms) ≠ Value.notImplemented ∧ Q (.bool (lexLt ns ms)) s from ⟨(fun x => nomatch x), h⟩⟩ hu

/-- t + u, t not empty -/
theorem cat_tup {t b : Addr} {vs ws : List Value} {Q : Value → Shared → Prop} (ht : IsTup s.heap t vs.toArray) (hb : IsTup s.heap b ws.toArray) (hv : vs ≠ [])
    (h1 : ws = [] → Q (.ref t) s) (h2 : ws ≠ [] → Q (.ref s.heap.objs.size) { s with heap := s.heap.push { cls := .type "tuple", data := .seq (vs ++ ws).toArray } })
    (hsz : vs.length + ws.length ≤ sizeLine) : wpAny (model prog w) A (binaryOp .Add (.ref t) (.ref b)) Q E s := by
  obtain ⟨⟨cls, dd, data, sl⟩, ho, hc, n, hd⟩ := id ht
  obtain ⟨⟨cls2, dd2, data2, sl2⟩, ho2, hc2, n2, hd2⟩ := id hb
  simp only at hc hd hc2 hd2
  subst hc hd hc2 hd2
  have e : vs.toArray ++ ws.toArray = (vs ++ ws).toArray := by simp
  by_cases hw : ws = []
  · exact concat_meets ⟨_, ho, rfl⟩ ⟨_, ho2, rfl⟩ noFill_tuple_add seq_tuple_add PySem.F.slot_tuple_add PySem.F.entry_tuple_add (PySem.F.args_tuple_add_2 _ _)
      (tuple_addW1 t b vs.toArray ws.toArray n n2 dd dd2 sl sl2 (by simpa using hv) (by simp [hw])) ⟨ho, ho2, h1 hw⟩
  · refine concat_meets ⟨_, ho, rfl⟩ ⟨_, ho2, rfl⟩ noFill_tuple_add seq_tuple_add PySem.F.slot_tuple_add PySem.F.entry_tuple_add (PySem.F.args_tuple_add_2 _ _)
      (tuple_addW2 t b vs.toArray ws.toArray n n2 dd dd2 sl sl2 (by simpa using hv) (by simpa using hw) (by rw [List.size_toArray, List.size_toArray]; exact hsz)) ⟨ho, ho2, ?_⟩
    rw [e]
    exact h2 hw

/-! ### t[a:b], not the whole -/
/-- a slice's bound as a place among n (d where it is left out) -/
def sIx (n d : Nat) : Option Int → Nat
  | none => d
  | some v => if v < 0 then (v + (n : Int)).toNat else min v.toNat n
theorem sIx_none (n d : Nat) : sIx n d none = d := rfl
theorem sIx_le (n d : Nat) (hd : d ≤ n) (o : Option Int) : sIx n d o ≤ n := by
  cases o with
  | none => exact hd
  | some v =>
    show (if v < 0 then (v + (n : Int)).toNat else min v.toNat n) ≤ n
    by_cases hv : v < 0
    · rw [if_pos hv]; omega
    · rw [if_neg hv]; exact Nat.min_le_right _ _
theorem clip_eq (v : Int) (n d : Nat) : (if v < 0 then max (v + (n : Int)) 0 else min v (n : Int)) = ((sIx n d (some v) : Nat) : Int) := by
  show (if v < 0 then max (v + (n : Int)) 0 else min v (n : Int)) = (((if v < 0 then (v + (n : Int)).toNat else min v.toNat n) : Nat) : Int)
  by_cases hv : v < 0
  · simp only [if_pos hv]; omega
  · simp only [if_neg hv]; omega
theorem adjust_gen (lo hi : Option Int) (n : Nat) : Builtin.Slice.sliceAdjust lo hi 1 (n : Int) = (((sIx n 0 lo : Nat) : Int), ((sIx n n hi : Nat) : Int)) := by
  have h1 : ¬ ((1 : Int) < 0) := by omega
  unfold Builtin.Slice.sliceAdjust
  simp only [h1, if_false]
  refine Prod.ext ?_ ?_
  · cases lo with
    | none => rfl
    | some v => exact clip_eq v n 0
  · cases hi with
    | none => rfl
    | some v => exact clip_eq v n n
theorem places_gen (i j : Nat) : Builtin.Slice.slicePlaces (i : Int) (j : Int) 1 = j - i := by
  unfold Builtin.Slice.slicePlaces
  have h1 : (1 : Int) > 0 := by omega
  simp only [h1, if_true, Int.ediv_one]
  split <;> omega
theorem slicePart_ {v : Value} {o : Option Int} {Q : Option Int → Shared → Prop} (p : IsPart v o) (h : Q o s) : wpAny (model prog w) A (Builtin.Slice.slicePartIndex v) Q E s := by
  cases p with
  | none => exact slicePart_none h
  | int i t => exact slicePart_int h
theorem sliceApplied_gen {sl : Addr} {vl vu : Value} {lo hi : Option Int} {n : Nat} {Q : Int × Int × Nat → Shared → Prop} (hs : s.heap.IsSliceOf sl vl vu .none) (pl : IsPart vl lo) (pu : IsPart vu hi)
    (h : Q (((sIx n 0 lo : Nat) : Int), 1, sIx n n hi - sIx n 0 lo) s) : wpAny (model prog w) A (Builtin.Slice.sliceApplied (.ref sl) (pure (n : Int))) Q E s := by
  obtain ⟨os, hos, hcs, hds⟩ := id hs
  unfold Builtin.Slice.sliceApplied Builtin.Slice.sliceFields
  refine wpAny_bind (wpAny_bind (wpAny_field hos hds (x := vl) rfl (wpAny_bind (wpAny_field hos hds (x := vu) rfl (wpAny_bind (wpAny_field hos hds (x := .none) rfl (wpAny_pure ?_)))))))
  refine wpAny_bind (slicePart_none ?_)
  show wpAny _ _ (if ((1 : Int) == 0) = true then _ else _) _ _ s
  rw [if_neg (by decide)]
  refine wpAny_bind (slicePart_ pl (wpAny_bind (slicePart_ pu (wpAny_bind (wpAny_pure ?_)))))
  show wpAny _ _ (match Builtin.Slice.sliceAdjust lo hi 1 (n : Int) with | (lo, hi) => pure (lo, (1 : Int), Builtin.Slice.slicePlaces lo hi 1)) _ _ s
  rw [adjust_gen lo hi n]
  show wpAny _ _ (pure (((sIx n 0 lo : Nat) : Int), (1 : Int), Builtin.Slice.slicePlaces ((sIx n 0 lo : Nat) : Int) ((sIx n n hi : Nat) : Int) 1)) _ _ s
  rw [places_gen]
  exact wpAny_pure h
theorem pick_gen (xs : Array Value) (i k : Nat) : ((List.range k).filterMap fun (m : Nat) => xs[((i : Int) + (m : Int) * 1).toNat]?).toArray = ((xs.toList.drop i).take k).toArray := by
  have e : (fun (m : Nat) => xs[((i : Int) + (m : Int) * 1).toNat]?) = fun m => xs[i + m]? := by
    funext m
    have : ((i : Int) + (m : Int) * 1).toNat = i + m := by omega
    rw [this]
  rw [e]
  have := pick_run xs i k
  rw [List.filterMap_map] at this
  have e2 : ((fun x => xs[x]?) ∘ fun x => i + x) = fun m => xs[i + m]? := rfl
  rw [e2] at this
  rw [this]

theorem getItem_tuple_cut {t sl : Addr} {items : Array Value} {vl vu : Value} {lo hi : Option Int} {Q : Value → Shared → Prop} (ht : IsTup s.heap t items) (hs : s.heap.IsSliceOf sl vl vu .none) (pl : IsPart vl lo) (pu : IsPart vu hi)
    (hw : ¬ (sIx items.size 0 lo = 0 ∧ sIx items.size items.size hi = items.size))
    (h : Q (.ref s.heap.objs.size) { s with heap := s.heap.push { cls := .type "tuple", data := .seq ((items.toList.drop (sIx items.size 0 lo)).take (sIx items.size items.size hi - sIx items.size 0 lo)).toArray } })
    (hsz : items.size ≤ sizeLine) : wpAny (model prog w) A (getItem (.ref t) (.ref sl)) Q E s := by
  have htake : sizeOk (.seq ((items.toList.drop (sIx items.size 0 lo)).take (sIx items.size items.size hi - sIx items.size 0 lo)).toArray) := by
    show ((items.toList.drop (sIx items.size 0 lo)).take (sIx items.size items.size hi - sIx items.size 0 lo)).toArray.size ≤ sizeLine
    rw [List.size_toArray, List.length_take, List.length_drop, Array.length_toList]
    omega
  have hj : sIx items.size items.size hi ≤ items.size := sIx_le _ _ (Nat.le_refl _) hi
  obtain ⟨os, hos, hcs, hds⟩ := id hs
  have hTs : s.TypeIs (.ref sl) "slice" := ⟨os, hos, hcs⟩
  unfold getItem
  try with_reducible refine wpAny_holding ?_
  first | refine wpAny_bind (wpAny_pure ?_) | skip
  refine wpAny_bind (wpAny_sequenceKey ht.typeIs (by decide) ?_)
  refine wpAny_bind (wpAny_callSpecial?_slot (name := Str.ofString "__getitem__") ht.typeIs PyProof.Rows.slot_tuple_getitem
    (wpAny_call_entry PyProof.Rows.slot_tuple_getitem ht.typeIs entry_tuple_getitem ?_ (args_tuple_getitem _ _)))
  show wpAny _ _ (Builtin.Tuple.tupleItemsOf (.ref t) >>= _) _ _ s
  refine wpAny_bind (tupleItemsOf_ ht ?_)
  refine wpAny_bind (wpAny_typeOf hTs ?_)
  rw [if_pos (by decide)]
  refine wpAny_bind (sliceApplied_gen hs pl pu ?_)
  have hno : ¬ ((((sIx items.size 0 lo : Nat) : Int) == 0 && (1 : Int) == 1 && (sIx items.size items.size hi - sIx items.size 0 lo) == items.size) = true) := by
    intro q
    rw [Bool.and_eq_true, Bool.and_eq_true] at q
    have q1 : ((sIx items.size 0 lo : Nat) : Int) = 0 := eq_of_beq q.1.1
    have q2 : sIx items.size items.size hi - sIx items.size 0 lo = items.size := eq_of_beq q.2
    exact hw ⟨by omega, by omega⟩
  show wpAny _ _ (if (((sIx items.size 0 lo : Nat) : Int) == 0 && (1 : Int) == 1 && (sIx items.size items.size hi - sIx items.size 0 lo) == items.size) = true then _ else _) _ _ s
  rw [if_neg hno, pick_gen]
  first
    | exact wpAny_bind (m := Builtin.Tuple.tupleExact _) (wpAny_newObj_type (wpAny_pure ⟨_, rfl, wpAny_pure h⟩) htake)
    | exact wpAny_bind (m := Builtin.Tuple.tupleExact _) (wpAny_newObj_type (wpAny_bind (wpAny_pure (wpAny_pure ⟨_, rfl, wpAny_pure h⟩))) htake)
    | exact wpAny_bind (wpAny_bind (m := Builtin.Tuple.tupleExact _) (wpAny_newObj_type (wpAny_pure (wpAny_pure ⟨_, rfl, wpAny_pure h⟩)) htake))
    | exact wpAny_bind (wpAny_bind (m := Builtin.Tuple.tupleExact _) (wpAny_newObj_type (wpAny_pure ⟨_, rfl, wpAny_pure h⟩) htake))
end
end HT

namespace L2
open PySem PySem.Spec PyProof.Rows

/-! ### the parts of a slice -/
abbrev TO := St → Hp → (Option Int → Hp → Prop) → Prop
/-- a slice's part (left out, or an int) -/
def PO (X : Cx) (e : Option Expr) (t : TO) : Prop :=
  ∀ (pins : List (Addr × Obj)) (s : Shared) (σ : St) (H : Hp) (Q : Option Int → Hp → Prop), Inv X pins σ H s → t σ H Q →
    wpAny (model X.prog X.w) X.A (evalPart e X.env) (fun u s' => ∃ o H', Inv X pins σ H' s' ∧ IsPart u o ∧ Q o H') X.xe s
def tNoPart : TO := fun _ H Q => Q none H
def tPart (t : TE) : TO := fun σ H Q => t σ H fun x H1 => ∃ i, x = .int i ∧ Q (some i) H1

theorem intsAre_of {ns : List Int} : ∀ {us : List Value}, Vals (ns.map V.int) us → IntsAre us ns := by
  induction ns with
  | nil => intro us r; rw [List.map_nil] at r; cases r; exact .nil
  | cons n ns ih =>
    intro us r
    rw [List.map_cons] at r
    cases r with
    | cons r1 r2 =>
      obtain ⟨t, e⟩ := r1
      subst e
      exact .cons n t (ih r2)

section
variable {X : Cx} {e : Expr} {te : TE} {lo hi : Option Expr} {tl th : TO} {pos p2 : Pos}

theorem po_none : PO X none tNoPart := by
  intro pins s σ H Q I h
  rw [evalPart_none]
  exact wpAny_pure ⟨none, H, I, .none, h⟩
theorem po_some (h : PE X e te) : PO X (some e) (tPart te) := by
  intro pins s σ H Q I hw
  rw [evalPart_some]
  refine thn (h pins s σ H _ I hw) fun u s1 ⟨x, H1, I1, r1, q1⟩ => ?_
  obtain ⟨i, rfl, q⟩ := q1
  obtain ⟨t, rfl⟩ := r1
  exact ⟨some i, H1, I1, .int i t, q⟩

/-- what a slice of a value is, by values: the slice object stands at sl -/
def SlR (X : Cx) (r : V → Option Int → Option Int → Hp → VK → Prop) : Prop :=
  ∀ (pins : List (Addr × Obj)) (s : Shared) (σ : St) (H : Hp) (x : V) (v vl vu : Value) (lo hi : Option Int) (sl : Addr) (Q : VK), Inv X pins σ H s → RelV x v → s.heap.IsSliceOf sl vl vu .none → IsPart vl lo → IsPart vu hi → r x lo hi H Q →
    ∃ T id, typeLookup (.type T) "__getitem__" = pure (some (.builtin id)) ∧ s.TypeIs v T ∧ wpAny (model X.prog X.w) X.A (getItem v (.ref sl)) (EP X pins σ Q) X.xe s
def tSl (r : V → Option Int → Option Int → Hp → VK → Prop) (te : TE) (tl th : TO) : TE := fun σ H Q => te σ H fun x H1 => tl σ H1 fun l H2 => th σ H2 fun u H3 => r x l u H3 Q
/-- a[lo:hi], any a -/
theorem pe_slice {r : V → Option Int → Option Int → Hp → VK → Prop} (hr : SlR X r) (he : PE X e te) (hl : PO X lo tl) (hu : PO X hi th) : PE X (.Subscript e (.Slice lo hi none p2) pos) (tSl r te tl th) := by
  intro pins s σ H Q I h
  refine Subscript_ (thn (he pins s σ H _ I h) fun v s1 ⟨x, H1, I1, r1, q1⟩ => ?_)
  refine wpAny_Slice (thn (hl pins s1 σ H1 _ I1 q1) fun vl s2 ⟨l, H2, I2, pl, q2⟩ => thn (hu pins s2 σ H2 _ I2 q2) fun vu s3 ⟨u, H3, I3, pu, q3⟩ => ?_)
  rw [evalPart_none]
  refine wpAny_pure ?_
  have I4 : Inv X pins σ H3 { s3 with heap := s3.heap.push { cls := .type "slice", data := .fields #[vl, vu, .none] } } := I3.kept (t' := s3.toks) fun b ob q => Heap.get?_push_of_some _ q
  obtain ⟨T, id, hT, ht, hg⟩ := hr pins { s3 with heap := s3.heap.push { cls := .type "slice", data := .fields #[vl, vu, .none] } } σ H3 x v vl vu l u s3.heap.objs.size Q I4 r1 (Heap.IsSliceOf.new ..) pl pu q3
  show wpAny (model X.prog X.w) X.A (subscriptTail e (.Slice lo hi none p2) v (.ref s3.heap.objs.size)) (EP X pins σ Q) X.xe { s3 with heap := s3.heap.push { cls := .type "slice", data := .fields #[vl, vu, .none] } }
  exact tail_any (ops := [.ref s3.heap.objs.size, v]) ht hT hg (by with_unfolding_all rfl)

/-- the items of xs[lo:hi] -/
def cutV (xs : List V) (lo hi : Option Int) : List V := (xs.drop (HT.sIx xs.length 0 lo)).take (HT.sIx xs.length xs.length hi - HT.sIx xs.length 0 lo)
theorem cutV_length (xs : List V) (lo hi : Option Int) : (cutV xs lo hi).length ≤ xs.length := by
  unfold cutV
  rw [List.length_take, List.length_drop]
  omega
/-- t[lo:hi], not the whole of it (the whole would be t itself) -/
def rSlT (K : PySem.W.Frag) : V → Option Int → Option Int → Hp → VK → Prop := fun x lo hi H Q => ∃ a xs, x = .ref a ∧ SqT K H a xs ∧
  ¬ (HT.sIx xs.length 0 lo = 0 ∧ HT.sIx xs.length xs.length hi = xs.length) ∧ ∀ p, H p = none → Q (.ref p) (upd H p (.tup (cutV xs lo hi)))
theorem sl_tup : SlR X (rSlT X.K) := by
  intro pins s σ H x v vl vu lo hi sl Q I rx hs pl pu h
  obtain ⟨a, xs, rfl, hx, hw, q⟩ := h
  cases rx
  obtain ⟨its, r, ht, hz⟩ := I.tuple hx
  have hlen : its.toArray.size = xs.length := by rw [List.size_toArray]; exact r.length.symm
  refine ⟨"tuple", _, PyProof.Rows.slot_tuple_getitem.lookup, ht.typeIs, ?_⟩
  refine HT.getItem_tuple_cut ht hs pl pu (by rw [hlen]; exact hw) ?_ (by rw [hlen]; exact hz)
  rw [hlen]
  refine ⟨.ref s.heap.objs.size, _, I.laid (t' := s.toks) (o := .tup (cutV xs lo hi)) (fun b ob q => Heap.get?_push_of_some _ q) (Nat.le_refl _) ?_, rfl, q _ (I.hok.fresh (Nat.le_refl _))⟩
  exact ⟨Nat.le_trans (cutV_length xs lo hi) hz, _, (r.drop (HT.sIx xs.length 0 lo)).take (HT.sIx xs.length xs.length hi - HT.sIx xs.length 0 lo), IsTup.new _ _⟩

/-! ### t < u, t + u -/
/-- t + u, t not empty: u empty gives t itself -/
def rCatT (K : PySem.W.Frag) : R2 := fun x y H Q => ∃ a b xs ys, x = .ref a ∧ y = .ref b ∧ SqT K H a xs ∧ SqT K H b ys ∧ xs ≠ [] ∧ xs.length + ys.length ≤ sizeLine ∧
  (ys = [] → Q (.ref a) H) ∧ (ys ≠ [] → ∀ p, H p = none → Q (.ref p) (upd H p (.tup (xs ++ ys))))
theorem Vals.nil_iff {xs : List V} {us : List Value} (r : Vals xs us) : us = [] ↔ xs = [] := by
  cases r with
  | nil => simp
  | cons _ _ => simp
theorem op_catT : OpR X (binaryOp .Add) (rCatT X.K) := by
  intro pins s σ H x y v u Q I rx ry h
  obtain ⟨a, b, xs, ys, rfl, rfl, ha, hb, hx, hz, q1, q2⟩ := h
  cases rx
  cases ry
  obtain ⟨its, r1, p1, _⟩ := I.tuple ha
  obtain ⟨its2, r2, p2, _⟩ := I.tuple hb
  refine HT.cat_tup p1 p2 (fun z => hx (r1.nil_iff.mp z)) (fun z => ⟨.ref a, H, I, rfl, q1 (r2.nil_iff.mp z)⟩) (fun z => ?_) (by rw [← r1.length, ← r2.length]; exact hz)
  refine ⟨.ref s.heap.objs.size, _, I.laid (t' := s.toks) (o := .tup (xs ++ ys)) (fun b ob q => Heap.get?_push_of_some _ q) (Nat.le_refl _) ?_, rfl, q2 (fun w => z (r2.nil_iff.mpr w)) _ (I.hok.fresh (Nat.le_refl _))⟩
  exact ⟨by rw [List.length_append]; exact hz, _, r1.append r2, IsTup.new _ _⟩
end
end L2

namespace L2
open PySem PySem.Spec PyProof.Rows

/-! ### places -/
/-- the place that an index of any sign means -/
def ixN (n : Nat) (i : Int) : Option Nat := if 0 ≤ i then (if i < n then some i.toNat else none) else if -(n : Int) ≤ i then some (i + n).toNat else none
def atI {α : Type} (xs : List α) (i : Int) : Option α := (ixN xs.length i).bind fun j => xs[j]?
theorem ixN_seq {n : Nat} {i : Int} {j : Nat} (h : ixN n i = some j) : seqIndex? i n = some j ∧ j < n ∧ -(n : Int) ≤ i ∧ i < n := by
  unfold ixN at h
  by_cases h0 : 0 ≤ i
  · rw [if_pos h0] at h
    by_cases h1 : i < n
    · rw [if_pos h1] at h
      have e : i.toNat = j := Option.some.inj h
      exact ⟨by rw [seqIndex_of h0 h1, e], by omega, by omega, h1⟩
    · rw [if_neg h1] at h; cases h
  · rw [if_neg h0] at h
    by_cases h1 : -(n : Int) ≤ i
    · rw [if_pos h1] at h
      have e : (i + n).toNat = j := Option.some.inj h
      exact ⟨by rw [seqIndex_neg (by omega) h1, e], by omega, h1, by omega⟩
    · rw [if_neg h1] at h; cases h
theorem atI_get {α : Type} {xs : List α} {i : Int} {v : α} (h : atI xs i = some v) : ∃ j, seqIndex? i xs.length = some j ∧ xs[j]? = some v ∧ j < xs.length ∧ -(xs.length : Int) ≤ i ∧ i < xs.length := by
  unfold atI at h
  cases e : ixN xs.length i with
  | none => rw [e] at h; cases h
  | some j =>
    rw [e] at h
    obtain ⟨h1, h2, h3, h4⟩ := ixN_seq e
    exact ⟨j, h1, h, h2, h3, h4⟩
theorem atI_nat {α : Type} {xs : List α} {j : Nat} {v : α} (h : xs[j]? = some v) : atI xs (j : Int) = some v := by
  have hj : j < xs.length := (List.getElem?_eq_some_iff.mp h).1
  have e : ixN xs.length (j : Int) = some j := by
    unfold ixN
    rw [if_pos (by omega), if_pos (by omega)]; simp
  unfold atI; rw [e]; exact h

/-! ### what may be subscripted -/
/-- what stands as an index of a plain subscript -/
def PlainIx (b : Expr) : Prop := ∀ o i, subscripted b false o i = operate [o, i] (getItem o i)
/-- a subscript by values -/
def IxR (X : Cx) (r : R2) : Prop :=
  ∀ (value slice : Expr) (pins : List (Addr × Obj)) (s : Shared) (σ : St) (H : Hp) (x y : V) (v u : Value) (Q : VK), Inv X pins σ H s → RelV x v → RelV y u → r x y H Q →
    subscripted slice false v u = operate [v, u] (getItem v u) → wpAny (model X.prog X.w) X.A (subscriptTail value slice v u) (EP X pins σ Q) X.xe s
/-- a call of a builtin's method by values: the receiver, the arguments -/
def MtR (X : Cx) (id : String) (r : V → List V → Hp → VK → Prop) : Prop :=
  ∀ (pins : List (Addr × Obj)) (s : Shared) (σ : St) (H : Hp) (x : V) (xs : List V) (v : Value) (us : List Value) (Q : VK), Inv X pins σ H s → RelV x v → Vals xs us → r x xs H Q →
    wpAny (model X.prog X.w) X.A (call (.builtin id) (v :: us)) (EP X pins σ Q) X.xe s
section
variable {X : Cx} {a b : Expr} {ta tb : TE} {pos : Pos}
/-- a[b] -/
theorem pe_ix {r : R2} (hr : IxR X r) (ha : PE X a ta) (hb : PE X b tb) (hs : PlainIx b) : PE X (.Subscript a b pos) (tOp r ta tb) := by
  intro pins s σ H Q I h
  exact Subscript_ (binT ha hb I h fun v u s2 x y H2 I2 rx ry q => hr a b pins s2 σ H2 x y v u Q I2 rx ry q (hs _ _))

def rIxL (K : PySem.W.Frag) : R2 := fun x y H Q => ∃ p xs i v, x = .ref p ∧ y = .int i ∧ SqL K H p xs ∧ atI xs i = some v ∧ Q v H
def rIxT (K : PySem.W.Frag) : R2 := fun x y H Q => ∃ p xs i v, x = .ref p ∧ y = .int i ∧ SqT K H p xs ∧ atI xs i = some v ∧ Q v H
theorem ix_list : IxR X (rIxL X.K) := by
  intro value slice pins s σ H x y v u Q I rx ry h hs
  obtain ⟨p, xs, i, z, rfl, rfl, hq, he, q⟩ := h
  cases rx
  obtain ⟨t, rfl⟩ := ry
  obtain ⟨its, r, pl, hz⟩ := I.list hq
  obtain ⟨j, h1, h2, h3, h4, h5⟩ := atI_get he
  obtain ⟨w, ew, rw'⟩ := r.get h2
  have hl := r.length
  have hn := line63
  have fin : EP X pins σ Q w s := ⟨z, H, I, rw', q⟩
  by_cases h0 : 0 ≤ i
  · have hj : i.toNat = j := by
      rw [seqIndex_of h0 h5] at h1
      exact Option.some.inj h1
    exact item_listR pl.isList h0 (by omega) (by rw [hj]; simpa using ew) fin hs
  · have hj : (i + (its.toArray.size : Int)).toNat = j := by
      rw [seqIndex_neg (by omega) h4] at h1
      rw [List.size_toArray, ← hl]
      exact Option.some.inj h1
    exact subscriptTail_builtinR (x := w) pl.isList.typeIs slot_list_getitem.lookup
      (wpAny_getItem_list_neg (Q := fun r s' => r = w ∧ EP X pins σ Q r s') pl.isList (by omega) (by rw [List.size_toArray] <;> omega) (by omega) (by rw [hj]; simpa using ew) ⟨rfl, fin⟩) hs
theorem ix_tup : IxR X (rIxT X.K) := by
  intro value slice pins s σ H x y v u Q I rx ry h hs
  obtain ⟨p, xs, i, z, rfl, rfl, hq, he, q⟩ := h
  cases rx
  obtain ⟨t, rfl⟩ := ry
  obtain ⟨its, r, pl, hz⟩ := I.tuple hq
  obtain ⟨j, h1, h2, h3, h4, h5⟩ := atI_get he
  obtain ⟨w, ew, rw'⟩ := r.get h2
  have hl := r.length
  have hn := line63
  have fin : EP X pins σ Q w s := ⟨z, H, I, rw', q⟩
  exact subscriptTail_builtinR (x := w) pl.typeIs slot_tuple_getitem.lookup
    (getItem_tuple (j := j) (Q := fun r s' => r = w ∧ EP X pins σ Q r s') pl (by omega) (by omega) (by rw [List.size_toArray, ← hl]; exact h1) (by simpa using ew) ⟨rfl, fin⟩) hs

/-! ### xs[i] = v, any sign -/
/-- the list's object behind a store -/
theorem mapSeq_set (its : List Value) (n j : Nat) (u : Value) : Obj.mapSeq (·.setIfInBounds j u) { cls := .type "list", data := .seq its.toArray n } = { cls := .type "list", data := .seq (its.set j u).toArray n } := by
  simp [Obj.mapSeq]
theorem Inv.lst {pins : List (Addr × Obj)} {σ : St} {H : Hp} {s : Shared} {p : Addr} {xs : List V} (I : Inv X pins σ H s) (h : H p = some (.lst xs)) :
    ∃ (its : List Value) (n : Nat), Vals xs its ∧ s.heap.get? p = some { cls := .type "list", data := .seq its.toArray n } ∧ xs.length ≤ sizeLine := by
  obtain ⟨z, its, n, r, e⟩ := I.hok p _ h
  exact ⟨its, n, r, e, z⟩
/-- the list at p is written by an update of its object -/
theorem Inv.lstUpd {pins : List (Addr × Obj)} {σ : St} {H : Hp} {s : Shared} {p : Addr} {xs ys : List V} {its its' : List Value} {n n' : Nat} {f : Obj → Obj} (I : Inv X pins σ H s) (h : H p = some (.lst xs))
    (ho : s.heap.get? p = some { cls := .type "list", data := .seq its.toArray n }) (hf : f { cls := .type "list", data := .seq its.toArray n } = { cls := .type "list", data := .seq its'.toArray n' }) (r : Vals ys its') (hz : ys.length ≤ sizeLine) (t : Nat) :
    Inv X pins σ (upd H p (.lst ys)) { s with heap := s.heap.update p f, toks := t } := by
  have e : (s.heap.update p f).get? p = some { cls := .type "list", data := .seq its'.toArray n' } := by
    rw [Heap.get?_update_self f ho (by rw [hf] <;> rfl), hf]
  refine I.write (x := p) (e := p) (by rw [h]; trivial) (.inl rfl) (fun b u hb q => (Heap.get?_update_other _ _ (Ne.symm hb)).trans q) ⟨_, e⟩ ?_
  exact ⟨hz, its', n', r, e⟩
def rSetL : V → V → V → Hp → (Hp → Prop) → Prop := fun o i v H Q => ∃ p xs k j, o = .ref p ∧ i = .int k ∧ H p = some (.lst xs) ∧ ixN xs.length k = some j ∧ Q (upd H p (.lst (xs.set j v)))
theorem set_list : PSet X rSetL := by
  intro pins s σ H o i v ov iv u Q I ro ri rv h
  obtain ⟨p, xs, k, j, rfl, rfl, hp, hj, q⟩ := h
  cases ro
  obtain ⟨t, rfl⟩ := ri
  obtain ⟨its, n, r, ho, hz⟩ := I.lst hp
  obtain ⟨h1, h2, h3, h4⟩ := ixN_seq hj
  have hl := r.length
  have hn := line63
  have I' : Inv X pins σ (upd H p (.lst (xs.set j v))) { s with heap := s.heap.update p (Obj.mapSeq (·.setIfInBounds j u)) } :=
    I.lstUpd hp ho (mapSeq_set its n j u) (r.set rv j) (by rw [List.length_set]; exact hz) s.toks
  by_cases h0 : 0 ≤ k
  · have hk : k.toNat = j := by
      rw [seqIndex_of h0 h4] at h1
      exact Option.some.inj h1
    exact PySem.W.ki_setAt ho h0 (by omega) (by rw [List.size_toArray, ← hl]; exact h4) (by rw [hk]; exact ⟨_, I', q⟩)
  · have hk : (k + (its.toArray.size : Int)).toNat = j := by
      rw [seqIndex_neg (by omega) h3] at h1
      rw [List.size_toArray, ← hl]
      exact Option.some.inj h1
    exact PySem.W.ki_setBack ho (by omega) (by rw [List.size_toArray, ← hl]; exact h3) (by omega) (by rw [hk]; exact ⟨_, I', q⟩)

/-! ### slices -/
theorem slice_bounds (lo hi : Option Int) (n : Nat) : (sliceBounds lo hi none n).1 = ((HT.sIx n 0 lo : Nat) : Int) ∧ (sliceBounds lo hi none n).2.1 = ((HT.sIx n n hi : Nat) : Int) ∧ (sliceBounds lo hi none n).2.2 = 1 := by
  refine ⟨?_, ?_, rfl⟩
  · cases lo with
    | none => simp [sliceBounds, HT.sIx]
    | some i =>
      simp only [sliceBounds, HT.sIx, Option.getD_none, show (1 : Int) > 0 by decide, if_true]
      by_cases h : i < 0
      · simp only [h, if_true] <;> omega
      · simp only [h, if_false] <;> omega
  · cases hi with
    | none => simp [sliceBounds, HT.sIx]
    | some i =>
      simp only [sliceBounds, HT.sIx, Option.getD_none, show (1 : Int) > 0 by decide, if_true]
      by_cases h : i < 0
      · simp only [h, if_true] <;> omega
      · simp only [h, if_false] <;> omega
theorem slicePick_cut (its : List Value) (lo hi : Option Int) : slicePick its.toArray lo hi none = ((its.drop (HT.sIx its.length 0 lo)).take (HT.sIx its.length its.length hi - HT.sIx its.length 0 lo)).toArray := by
  obtain ⟨h1, h2, h3⟩ := slice_bounds lo hi its.toArray.size
  unfold slicePick
  rw [h1, h2, h3]
  simp only [sliceRange_one, pick_run, List.size_toArray] <;> rfl
/-- xs[lo:hi] of a list: a new list -/
def rSlL (K : PySem.W.Frag) : V → Option Int → Option Int → Hp → VK → Prop := fun x lo hi H Q => ∃ a xs, x = .ref a ∧ SqL K H a xs ∧ ∀ p, H p = none → Q (.ref p) (upd H p (.lst (cutV xs lo hi)))
theorem sl_list : SlR X (rSlL X.K) := by
  intro pins s σ H x v vl vu lo hi sl Q I rx hs pl pu h
  obtain ⟨a, xs, rfl, hx, q⟩ := h
  cases rx
  obtain ⟨its, r, ht, hz⟩ := I.list hx
  have hlen := r.length
  refine ⟨"list", _, slot_list_getitem.lookup, ht.isList.typeIs, ?_⟩
  refine wpAny_getItem_list_slice ht.isList hs pl pu .none (by simp) ?_ (by rw [List.size_toArray] <;> omega)
  rw [slicePick_cut, ← hlen]
  refine ⟨.ref s.heap.objs.size, _, I.laid (t' := s.toks) (o := .lst (cutV xs lo hi)) (fun b ob q => Heap.get?_push_of_some _ q) (Nat.le_refl _) ?_, rfl, q _ (I.hok.fresh (Nat.le_refl _))⟩
  exact ⟨Nat.le_trans (cutV_length xs lo hi) hz, _, 0, (r.drop (HT.sIx xs.length 0 lo)).take (HT.sIx xs.length xs.length hi - HT.sIx xs.length 0 lo), Heap.get?_push_size _ rfl⟩

/-! ### in, not in: flat items -/
def flatV : V → Bool
  | .non => true
  | .bl _ => true
  | .int _ => true
  | .str _ => true
  | _ => false
/-- == of flat values -/
def eqV : V → V → Bool
  | .non, .non => true
  | .bl a, .bl b => a == b
  | .bl a, .int b => (if a then 1 else 0) == b
  | .int a, .bl b => a == (if b then 1 else 0)
  | .int a, .int b => a == b
  | .str a, .str b => a == b
  | _, _ => false
theorem eqAt_V {A : Around} {s : Shared} {y x : V} {u v : Value} (ry : RelV y u) (rx : RelV x v) (fy : flatV y = true) (fx : flatV x = true) : SeqAt.EqAt A s u v (eqV y x) := by
  cases y with
  | non =>
    cases ry
    cases x with
    | non => cases rx; exact SeqAt.EqAt.same _
    | bl b => cases rx; exact SeqAt.EqAt.none_bool b
    | int b => obtain ⟨t, rfl⟩ := rx; exact SeqAt.EqAt.none_int b t
    | str b => obtain ⟨t, rfl⟩ := rx; exact SeqAt.EqAt.none_str b t
    | _ => exact absurd (show false = true from fx) Bool.false_ne_true
  | bl a =>
    cases ry
    cases x with
    | non => cases rx; exact SeqAt.EqAt.bool_none a
    | bl b => cases rx; exact SeqAt.EqAt.bool_bool a b
    | int b => obtain ⟨t, rfl⟩ := rx; exact SeqAt.EqAt.bool_int a b t
    | str b => obtain ⟨t, rfl⟩ := rx; exact SeqAt.EqAt.bool_str a b t
    | _ => exact absurd (show false = true from fx) Bool.false_ne_true
  | int a =>
    obtain ⟨t', rfl⟩ := ry
    cases x with
    | non => cases rx; exact SeqAt.EqAt.int_none a t'
    | bl b => cases rx; exact SeqAt.EqAt.int_bool a t' b
    | int b => obtain ⟨t, rfl⟩ := rx; exact SeqAt.EqAt.int_int a t' b t
    | str b => obtain ⟨t, rfl⟩ := rx; exact SeqAt.EqAt.int_str a t' b t
    | _ => exact absurd (show false = true from fx) Bool.false_ne_true
  | str a =>
    obtain ⟨t', rfl⟩ := ry
    cases x with
    | non => cases rx; exact SeqAt.EqAt.str_none a t'
    | bl b => cases rx; exact SeqAt.EqAt.str_bool a t' b
    | int b => obtain ⟨t, rfl⟩ := rx; exact SeqAt.EqAt.str_int a t' b t
    | str b => obtain ⟨t, rfl⟩ := rx; exact SeqAt.EqAt.str_str a t' b t
    | _ => exact absurd (show false = true from fx) Bool.false_ne_true
  | _ => exact absurd (show false = true from fy) Bool.false_ne_true

/-! ### len, list(x), tuple(x) of any list or tuple that is read -/
theorem call_len_seq : CallR X (.builtin "len") (fun xs H Q => ∃ p ys, xs = [.ref p] ∧ (SqL X.K H p ys ∨ SqT X.K H p ys) ∧ Q (.int ys.length) H) := by
  intro pins s σ H xs us Q I r h
  obtain ⟨p, ys, rfl, hq, q⟩ := h
  obtain ⟨u, rfl, rx⟩ := vals1 r
  cases rx
  have hn := line63
  rcases hq with hq | hq
  · obtain ⟨its, r', pl, hz⟩ := I.list hq
    have hlen := r'.length
    exact Calls.call_len_list pl.isList (by simp only [List.size_toArray] <;> omega) ⟨.int ys.length, H, I.tok _, ⟨s.toks + 1, by rw [List.size_toArray, hlen]⟩, q⟩
  · obtain ⟨its, r', pl, hz⟩ := I.tuple hq
    have hlen := r'.length
    exact len_tuple pl (by simp only [List.size_toArray] <;> omega) ⟨.int ys.length, H, I.tok _, ⟨s.toks + 1, by rw [List.size_toArray, hlen]⟩, q⟩
theorem call_list_of : CallR X (.type "list") (fun xs H Q => ∃ p ys, xs = [.ref p] ∧ (SqL X.K H p ys ∨ SqT X.K H p ys) ∧ ∀ l, H l = none → Q (.ref l) (upd H l (.lst ys))) := by
  intro pins s σ H xs us Q I r h
  obtain ⟨p, ys, rfl, hq, q⟩ := h
  obtain ⟨u, rfl, rx⟩ := vals1 r
  cases rx
  have fin : ∀ (its : List Value), Vals ys its → ys.length ≤ sizeLine → ∀ (h' : Heap) (c' : Nat), (∀ b o', s.heap.get? b = some o' → h'.get? b = some o') →
      h'.get? s.heap.objs.size = some { cls := .type "list", dict := none, data := .seq its.toArray c', slots := #[] } → EP X pins σ Q (.ref s.heap.objs.size) { s with heap := h' } := fun its r' hz h' c' kp e =>
    ⟨.ref s.heap.objs.size, _, I.laid (t' := s.toks) kp (Nat.le_refl _) (show ObjOk X.prog X.w _ h' _ (.lst ys) from ⟨hz, its, c', r', e⟩), rfl, q _ (I.hok.fresh (Nat.le_refl _))⟩
  rcases hq with hq | hq
  · obtain ⟨its, r', pl, hz⟩ := I.list hq
    have hlen := r'.length
    obtain ⟨o, ho, hc, n, hd⟩ := pl.isList
    exact call_list_seq p (.inl rfl) ho hc hd (fun h' c' kp e => fin its r' hz h' c' kp e) (by simp only [List.size_toArray] <;> omega)
  · obtain ⟨its, r', pl, hz⟩ := I.tuple hq
    have hlen := r'.length
    obtain ⟨o, ho, hc, n, hd⟩ := pl
    exact call_list_seq p (.inr rfl) ho hc hd (fun h' c' kp e => fin its r' hz h' c' kp e) (by simp only [List.size_toArray] <;> omega)

/-! ### the call of a builtin's method: o.m(..) -/
/-- the value is of that builtin type -/
def tyV (K : PySem.W.Frag) (T : String) (x : V) (H : Hp) : Prop := match x with
  | .str _ => T = "str"
  | .int _ => T = "int"
  | .ref p => (T = "list" ∧ ∃ xs, SqL K H p xs) ∨ (T = "tuple" ∧ ∃ o, K.lookup p = some o ∧ o.cls = .type "tuple" ∧ o.dict = none) ∨
      (T = "dict" ∧ ((∃ kvs, H p = some (.dK kvs)) ∨ ∃ kvs, H p = some (.dT kvs))) ∨ (T = "set" ∧ ∃ S n, H p = some (.set S n))
  | _ => False
theorem tyV_is {pins : List (Addr × Obj)} {σ : St} {H : Hp} {s : Shared} {T : String} {x : V} {v : Value} (I : Inv X pins σ H s) (r : RelV x v) (ty : tyV X.K T x H) :
    s.TypeIs v T ∧ ∀ a, v = .ref a → ∃ ob, s.heap.get? a = some ob ∧ ob.dict = none := by
  cases x with
  | str z =>
    obtain ⟨t, rfl⟩ := r
    cases (show T = "str" from ty)
    exact ⟨typeIs_str s z t, fun _ e => nomatch e⟩
  | int i =>
    obtain ⟨t, rfl⟩ := r
    cases (show T = "int" from ty)
    exact ⟨typeIs_int s i t, fun _ e => nomatch e⟩
  | ref p =>
    cases r
    rcases ty with ⟨rfl, xs, hq⟩ | ⟨rfl, o, hk, hc, hd⟩ | ⟨rfl, hk⟩ | ⟨rfl, S, n, hk⟩
    · obtain ⟨its, _, pl, _⟩ := I.list hq
      refine ⟨pl.isList.typeIs, fun a e => ?_⟩
      cases e
      obtain ⟨o, n, e, c, hd, _⟩ := pl
      exact ⟨o, e, hd⟩
    · refine ⟨⟨o, I.kIn p o hk, hc⟩, fun a e => ?_⟩
      cases e
      exact ⟨o, I.kIn _ o hk, hd⟩
    · have z : ∃ o, s.heap.get? p = some o ∧ o.ExactDict := by
        rcases hk with ⟨kvs, hk⟩ | ⟨kvs, hk⟩
        · obtain ⟨_, _, _, _, o, _, _, e, ex, _⟩ := I.hok p _ hk
          exact ⟨o, e, ex⟩
        · obtain ⟨_, _, _, _, o, _, _, e, ex, _⟩ := I.hok p _ hk
          exact ⟨o, e, ex⟩
      obtain ⟨o, e, ex⟩ := z
      refine ⟨⟨o, e, ex.1⟩, fun a e2 => ?_⟩
      cases e2
      exact ⟨o, e, ex.2.1⟩
    · obtain ⟨o, _, _, _, e, ex, _⟩ := I.hok p _ hk
      refine ⟨⟨o, e, ex.1⟩, fun a e2 => ?_⟩
      cases e2
      exact ⟨o, e, ex.2.1⟩
  | _ => exact False.elim ty
def tBM (K : PySem.W.Frag) (T : String) (r : V → List V → Hp → VK → Prop) (to : TE) (t : TA) : TE := fun σ H Q => to σ H fun x H1 => tyV K T x H1 ∧ t σ H1 fun xs H2 => r x xs H2 Q
variable {o e : Expr} {es : List Expr} {to : TE} {t : TA} {name : Str} {apos cpos : Pos} {T id : String} {r : V → List V → Hp → VK → Prop}
theorem pe_bm (pa : PlainAttrs T) (slot : Slot T name id) (hty : typeOf (.builtin id) = pure (.type "method_descriptor")) (hm : MtR X id r) (ho : PE X o to) (ha : PA X (e :: es) t)
    (hbase : attributeBase o name X.env (eval o X.env) = eval o X.env := by rfl)
    (hfew : ((backTo cpos (starEach (e :: es) X.env)).all (fun x => !x.1) && (backToKw cpos (keywordEach [] X.env)).all (fun x => x.1.isSome)
      && decide ((e :: es).length + ([] : List Keyword).length + (if ([] : List Keyword).isEmpty then 0 else 1) < 30)) = true := by rfl)
    (hline : (apos.endLine == cpos.line) = true := by rfl) (hs : starEach (e :: es) X.env = (false, eval e X.env) :: starEach es X.env := by rfl) (hplain : (backTo cpos (starEach es X.env)).any (·.1) = false := by rfl) :
    PE X (.Call (.Attribute o name apos) (e :: es) [] cpos) (tBM X.K T r to t) := by
  intro pins s σ H Q I h
  refine wpAny_Call_method_late hbase hfew hline rfl (thn (ho pins s σ H _ I h) fun v s1 ⟨x, H1, I1, r1, ty, q1⟩ => ?_)
  obtain ⟨h1, h2⟩ := tyV_is I1 r1 ty
  refine ⟨T, id, pa, slot, hty, h1, h2, ?_⟩
  have hA := ha cpos pins s1 σ H1 _ I1 q1
  rw [hs] at hA ⊢
  refine Calls.callWith_builtin (by show (false || (backTo cpos (starEach es X.env)).any (·.1)) = false; rw [hplain] <;> rfl) (Calls.evalArgs_plain ?_)
  exact thn hA fun us s2 ⟨vs, H2, I2, r2, q2⟩ => hm pins s2 σ H2 x vs v us Q I2 r1 r2 q2
/- xs.append(e), list.index on a module's tuple .. are MtR facts of 06m -/
end
end L2

namespace L2
open PySem PySem.Spec PyProof.Rows

def MtM (X : Cx) (id : String) (r : V → List V → Hp → VK → Prop) : Prop :=
  ∀ (pins : List (Addr × Obj)) (s : Shared) (σ : St) (H : Hp) (x : V) (xs : List V) (v : Value) (us : List Value) (Q : VK), Inv X pins σ H s → RelV x v → Vals xs us → r x xs H Q →
    wpAny (model X.prog X.w) X.A (call (.builtin id) (v :: us)) (EP X pins σ Q) X.xe s

/-! ### lists of values -/
theorem Vals.one : ∀ {x : V} {us : List Value}, Vals [x] us → ∃ u, us = [u] ∧ RelV x u
  | _, _, .cons r .nil => ⟨_, rfl, r⟩

section
variable {X : Cx} {pins : List (Addr × Obj)} {σ : St} {H : Hp} {s : Shared} {l b : Addr} {xs ys zs : List V}

/-! ### the two steps: a tracked list is rewritten, a new list is laid -/
theorem Inv.lset {its its' : List Value} {n : Nat} {f : Array Value → Array Value} {t' : Nat} (I : Inv X pins σ H s) (hH : H l = some (.lst xs))
    (e : s.heap.get? l = some { cls := .type "list", data := .seq its.toArray n }) (hf : f its.toArray = its'.toArray) (hv : Vals ys its') (hz : ys.length ≤ sizeLine) :
    Inv X pins σ (upd H l (.lst ys)) { s with heap := s.heap.update l (Obj.mapSeq f), toks := t' } := by
  have q := PySem.IsL.update e f
  rw [hf] at q
  refine I.write (x := l) (e := l) (by rw [hH]; exact trivial) (.inl rfl) (fun b' u hb hu => (Heap.get?_update_other s.heap (Obj.mapSeq f) (Ne.symm hb)).trans hu) ⟨_, q⟩ ?_
  exact ⟨hz, its', _, hv, q⟩
theorem Inv.lnew {its : List Value} {t' : Nat} (I : Inv X pins σ H s) (hv : Vals ys its) (hz : ys.length ≤ sizeLine) :
    Inv X pins σ (upd H s.heap.objs.size (.lst ys)) { s with heap := s.heap.push { cls := .type "list", data := .seq its.toArray }, toks := t' } :=
  I.laid (fun _ _ q => Heap.get?_push_of_some _ q) (Nat.le_refl _) ⟨hz, its, 0, hv, Heap.get?_push_size _ rfl⟩
theorem Inv.fresh (I : Inv X pins σ H s) : H s.heap.objs.size = none := I.hok.fresh (Nat.le_refl _)
theorem Inv.lstM (I : Inv X pins σ H s) (hH : H l = some (.lst xs)) : xs.length ≤ sizeLine ∧ ∃ (its : List Value) (n : Nat), Vals xs its ∧ xs.length = its.length ∧ s.heap.get? l = some { cls := .type "list", data := .seq its.toArray n } := by
  obtain ⟨z, its, n, r, e⟩ := I.hok l _ hH
  exact ⟨z, its, n, r, r.length, e⟩

end

section
variable {X : Cx}

/-! ### methods -/
def rAppend : V → List V → Hp → VK → Prop := fun x vs H Q => ∃ l xs y, x = .ref l ∧ vs = [y] ∧ H l = some (.lst xs) ∧ xs.length < sizeLine ∧ Q .non (upd H l (.lst (xs ++ [y])))
theorem mt_append : MtM X "list.append" rAppend := by
  intro pins s σ H x vs v us Q I rx rv h
  obtain ⟨l, xs, y, rfl, rfl, hH, hz, q⟩ := h
  cases rx
  obtain ⟨u, rfl, ru⟩ := rv.one
  obtain ⟨z, its, n, r, hl, e⟩ := I.lstM hH
  refine call_meets F.slot_list_append ⟨_, e, rfl⟩ F.entry_list_append (F.args_list_append_2 _ _) (PySem.list_append l its.toArray n u (by rw [List.size_toArray]; omega)) ⟨e, ?_⟩
  refine ⟨.non, _, I.lset (its' := its ++ [u]) hH e (by simp) (r.append (.cons ru .nil)) ?_, rfl, q⟩
  rw [List.length_append, List.length_singleton]
  omega






/-! ### list + list, list += list, list * int -/
def rCat : R2 := fun x y H Q => ∃ l b xs zs, x = .ref l ∧ y = .ref b ∧ H l = some (.lst xs) ∧ H b = some (.lst zs) ∧ xs.length + zs.length ≤ sizeLine ∧ ∀ p, H p = none → Q (.ref p) (upd H p (.lst (xs ++ zs)))
theorem op_cat : OpR X (binaryOp .Add) rCat := by
  intro pins s σ H x y v u Q I rx ry h
  obtain ⟨l, b, xs, zs, rfl, rfl, hH, hB, hz, q⟩ := h
  cases rx
  cases ry
  obtain ⟨z, its, n, r, hl, e⟩ := I.lstM hH
  obtain ⟨z2, its2, n2, r2, hl2, e2⟩ := I.lstM hB
  refine PySem.P.add_list e e2 ?_ (by rw [List.size_toArray, List.size_toArray]; omega)
  have ea : its.toArray ++ its2.toArray = (its ++ its2).toArray := by simp
  rw [ea]
  exact ⟨.ref _, _, I.lnew (t' := s.toks) (r.append r2) (by rw [List.length_append]; omega), rfl, q _ I.fresh⟩

/-! ### del xs[i] -/
end

/-! ### xs[a:b] = ys -/
section
variable {prog : Program} {w : World} {A : Around} {E : Value → Shared → Prop} {s : Shared}
end

section
variable {X : Cx}
end
end L2

namespace Att
open PySem PySem.W PySem.Calls PyProof.Rows

/-! ### the script -/
theorem ints_of_wellAll {P : Params} {h : Heap} : ∀ (ns : List Int) (vs : List Value), WellAll P h vs (ns.map WData.int) → IntsAre vs ns := by
  intro ns
  induction ns with
  | nil =>
    intro vs w
    rw [List.map_nil] at w
    cases w
    exact .nil
  | cons n ns ih =>
    intro vs w
    rw [List.map_cons] at w
    cases w with
    | cons a b =>
      cases a
      exact .cons _ _ (ih _ b)

theorem script_of {l : OpenLaw} {n : Nat} (hn : l.most = some n) {P : Params} {h : Heap} {args : List WData} {vals : List Value}
    (hpre : l.row.toRowW.claim.pre args = true) (hwl : WellAll P h vals args) :
    ∃ a vs ns, vals = [Value.ref a] ∧ args = [WData.list (ns.map WData.int)] ∧ h.get? a = some { cls := .type "list", data := .seq vs.toArray } ∧ IntsAre vs ns ∧ ns.length ≤ n := by
  have hsh : WShape.hasAll [] args [.list .int] = true := (pre_splitW hpre).1
  have hc : l.pre.holds [] { args := args } = true := (pre_splitW hpre).2
  obtain ⟨d, r, rfl, h1, h2⟩ := hasAllW_cons hsh
  obtain rfl := hasAllW_nil h2
  obtain ⟨xs, rfl, h3⟩ := hasW_list h1
  obtain ⟨ns, rfl⟩ := items_int h3
  have hlen : ns.length ≤ n := by
    unfold OpenLaw.pre at hc
    have h4 : (WTm.not (.lt (.lit (.int (n : Int))) (.len (.arg 0)))).holds [] { args := [.list (ns.map .int)] } = true := by
      have h4 := (holds_andW hc).1
      rw [hn] at h4
      exact h4
    have h5 := condW_of h4 (w_not (w_lt w_lit (w_len_list (w_arg rfl))))
    rw [List.length_map] at h5
    refine Nat.le_of_not_lt fun q => ?_
    have q' : (n : Int) < ((ns.length : Nat) : Int) := by omega
    first
      | (rw [decide_eq_true q'] at h5; exact absurd h5 (by decide))
      | (simp at h5; omega)
  cases hwl with
  | cons w1 w2 =>
    cases w2
    cases w1 with
    | list ho hall => exact ⟨_, _, ns, rfl, rfl, ho, ints_of_wellAll ns _ hall, hlen⟩

theorem post_true (l : OpenLaw) (args : List WData) : l.row.toRowW.claim.post args (.bool true) args = true :=
  postW_of (r := l.row.toRowW) (X := (true == true))
    (show WShape.has [] (.bool true) .bool = true by first | rfl | decide | simp [WShape.has, WShape.arms, WShape.armsAll])
    (show (WTm.eq .res (.lit (.bool true))).value [] { args := args, res := some (.bool true), after := args } = some (.bool (true == true)) from w_eq_bool (w_res rfl) w_lit) rfl

/-! ### the attachment: holds_open's last premise (the goal 'hc' behind k_head) from a wpAny of the law's body -/

/-- the same from a codeAny of the CALL (for a layer whose function contracts speak of calls) -/
theorem attach_call {l : OpenLaw} {n : Nat} {q : Program} {loose : List Str} {XP : (Str → Option Value) → Heap → Prop} {YP : World → Heap → Prop} {d : DefRec}
    (hn : l.most = some n) (hdf : d.params.defaults = [])
    (call : ∀ (w : World) (s₀ s₁ : Shared) (mg mb : Str → Option Value) (fa : Addr) (o : Obj) (pm cd doc : Value) (a : Addr) (vs : List Value) (ns : List Int),
      Ground q loose [] XP w s₀ mg mb s₁.heap → YP w s₁.heap →
      s₁.heap.get? fa = some o → o.data = .func (docDef d.name d.params d.body d.scope pm cd doc) → s₁.heap.CodeRec cd d.name → mg d.name = some (.ref fa) →
      s₁.heap.get? a = some { cls := .type "list", data := .seq vs.toArray } → IntsAre vs ns → ns.length ≤ n → s₁.gens = #[] →
      codeAny (model l.prog w) callerA (.call (.ref fa) ⟨[.ref a], []⟩) (fun r s' => r = .ok (.ret (.bool true)) ∧ OldK s₁.heap s'.heap ∧ s'.os = s₁.os ∧ AllBare s'.gens) s₁) :
    WalkO q loose XP YP l.row.toRowW d [] (fun f vs => PySem.call f vs) := by
  intro w s₀ s₁ mg mb G Y fa o pm cd doc dV kV ho hd hcd hD hmg hg args vals as hpre hlay hrd hwl hlo
  obtain rfl : dV = .none := Dflts.none hD hdf
  obtain rfl : kV = .none := Dflts.noKw hD
  obtain ⟨a, vs, ns, rfl, rfl, hobj, hints, hlen⟩ := script_of hn hpre hwl
  refine enter_call (codeAny_mono (call w s₀ s₁ mg mb fa o pm cd doc a vs ns G Y ho (fd_plain hd) hcd hmg hobj hints hlen hg) fun r s' hq => ?_)
  obtain ⟨rfl, h2, h3, h4⟩ := hq
  exact ⟨.inl ⟨.bool true, .bool true, [], rfl, fun _ => rfl, .bool true, post_true l _, fun _ => ⟨List.Pairwise.nil, fun _ hm => (nomatch hm)⟩⟩, h2, h3, h4⟩


/-! ### rules over ANY heap (no ledger) from facts about the written part K: the library's own take a ledger (News) for what they write -/
section
variable {prog : Program} {w : World} {A : Around} {E : Value → Shared → Prop} {s : Shared} {K : Frag}





/-! the whole heap as the ledger: makes every rule that writes through a ledger a rule over any heap -/

end
end Att

namespace L2
open PySem PySem.Spec PyProof.Rows

theorem vals_ints : ∀ {vs : List Value} {ns : List Int}, IntsAre vs ns → Vals (ns.map V.int) vs
  | _, _, .nil => .nil
  | _, _, .cons n t h => .cons ⟨t, rfl⟩ (vals_ints h)

/-- nothing is tracked but the script, known to the object (or it is an object of the module) -/
def Only (H : Hp) : Prop := ∀ b, H b = none ∨ ∃ o xs, H b = some (.frz o (.lst xs))

/-- THE HEAD: the law's promise, at the heap behind the top. F, the promise of the law's def, may use that base is part of the heap (so K.In base, base.Ns mainGlobals mg stand in Mod) -/
theorem law_call {P : Program} {w : World} {K : PySem.W.Frag} {mg mb : Str → Option Value} {CX : CXT} {k : Nat} {fa a : Addr} {fd : FuncData} {x : Str} {sp : Sp} {s₁ : Shared} {vs : List Value} {ns : List Int}
    (KX : K.In s₁.heap) (hns : s₁.heap.Ns mainGlobals mg) (hb : s₁.heap.Ns builtinsNs mb) (hbb : ∀ x : Str, x ≠ "__name__" → mb x = bootBuiltins x) (hlim : s₁.heap.NoLimit) (hg : s₁.gens = #[])
    (ha : s₁.heap.get? a = some { cls := .type "list", data := .seq vs.toArray }) (hi : IntsAre vs ns) (hl : ns.length ≤ sizeLine) (hr : Room k callerA)
    (F : ∀ base : Heap, K.In base → base.Ns mainGlobals mg → FnOk P w K mg base CX k fa fd [x] sp) (hbind : ∀ (s : Shared) (u : Value), BindsTo s fd ⟨[u], []⟩ [(x, u)])
    (hsp : ∀ H : Hp, Only H → SqL K H a (ns.map V.int) → sp [.ref a] H (fun v _ => v = .bl true) fun _ _ _ => False)
    (hCX : ∀ H e s', CX [] H s₁ (fun _ _ _ => False) e s' → False) :
    codeAny (model P w) callerA (.call (.ref fa) ⟨[.ref a], []⟩) (fun r s' => r = .ok (.ret (.bool true)) ∧ OldK s₁.heap s'.heap ∧ s'.os = s₁.os ∧ AllBare s'.gens) s₁ := by
  have rv := vals_ints hi
  have lenV := hi.length
  -- from an abstract heap in which nothing but the script may be tracked
  have core : ∀ H : Hp, Only H → SqL K H a (ns.map V.int) → HOk P w H s₁.heap → (∀ b, H b ≠ none → b = a) → (H a ≠ none → K.lookup a = none) →
      codeAny (model P w) callerA (.call (.ref fa) ⟨[.ref a], []⟩) (fun r s' => r = .ok (.ret (.bool true)) ∧ OldK s₁.heap s'.heap ∧ s'.os = s₁.os ∧ AllBare s'.gens) s₁ := by
    intro H hO hS hok hA hK
    have base_of : ∀ {b : Addr} {o : Obj}, s₁.heap.get? b = some o → H b = none → (hidT s₁.heap H).get? b = some o := fun e n => hidT_get e n
    have noA : ∀ {b : Addr} {o : Obj} {es : Array DictEntry} {ep : Nat}, s₁.heap.get? b = some o → o.data = .dict es ep → H b = none := fun {b o es ep} e d => by
      cases q : H b with
      | none => rfl
      | some u =>
        have e' : b = a := hA b (by rw [q]; simp)
        subst e'
        rw [ha] at e; cases e
        have d' : Data.seq vs.toArray _ = Data.dict es ep := d
        cases d'
    have nsK : ∀ {b : Addr} {m : Str → Option Value}, s₁.heap.Ns b m → (hidT s₁.heap H).Ns b m := fun {b m} ⟨o, es, ep, e, d, r⟩ => ⟨o, es, ep, base_of e (noA e d), d, r⟩
    have hKb : K.In (hidT s₁.heap H) := fun b o e => base_of (KX b o e) (by
      cases q : H b with
      | none => rfl
      | some u =>
        have e' : b = a := hA b (by rw [q]; simp)
        subst e'
        rw [hK (by rw [q]; simp)] at e; cases e)
    have hM : Mod K mg (hidT s₁.heap H) := ⟨hKb, nsK hns, ⟨mb, nsK hb, hbb⟩, let ⟨mc, h1, h2⟩ := hlim; ⟨mc, nsK h1, h2⟩⟩
    have e0 : Env0 P w K mg (hidT s₁.heap H) callerA [] s₁ H := ⟨rfl, hM, fun b o e => of_hidT e, Nat.le_of_eq (hidT_size _ _), trivial, fun b hb => absurd (show b ∈ ([] : List Addr) from hb) (by simp), hok, .of_eq hg⟩
    refine codeAny_mono ((F _ hKb (nsK hns)).run callerA [] s₁ H ⟨[.ref a], []⟩ [.ref a] [.ref a] _ _ hr e0 (hbind s₁ (.ref a)) (.cons rfl .nil) (hsp H hO hS)) fun r s' h => ?_
    cases r with
    | error e => exact (hCX H e s' h).elim
    | ok fl =>
      cases fl with
      | next => exact False.elim h
      | brk => exact False.elim h
      | cont => exact False.elim h
      | ret u =>
        obtain ⟨v, H', os, bare, un, hok', r', q⟩ := h
        have q' : v = .bl true := q
        subst q'
        obtain rfl : u = Value.bool true := r'
        refine ⟨rfl, OldK.of_keep fun b o e => ?_, os, bare⟩
        cases q : H b with
        | none => exact un.keep b o e q (by intro z; exact absurd (show b ∈ ([] : List Addr) from z) (by simp)) (by simp)
        | some u =>
          rcases hO b with z | ⟨ob, xs, z⟩
          · rw [q] at z; cases z
          · have z2 := un.frzs b ob _ z
            obtain ⟨e1, _⟩ := hok b _ z
            obtain ⟨e2, _⟩ := hok' b _ z2
            rw [e] at e1; cases e1
            exact e2
  cases hk : K.lookup a with
  | some o =>
    -- the script is one of the module's own objects
    have e := KX a o hk
    rw [ha] at e
    cases e
    refine core (fun _ => none) (fun _ => .inl rfl) (.inr ⟨_, vs.toArray, _, hk, rfl, rfl, rfl, by rw [List.size_toArray, lenV]; exact hl, by simpa using rv⟩) (fun b u z => by have z' : (none : Option HO) = some u := z; cases z') (fun b z => absurd rfl z) fun z => absurd rfl z
  | none =>
    refine core (fun b => if b = a then some (.frz { cls := .type "list", data := .seq vs.toArray } (.lst (ns.map V.int))) else none) (fun b => ?_) (.inl (.inr ⟨{ cls := .type "list", data := .seq vs.toArray }, if_pos rfl⟩)) (fun b u z => ?_) (fun b z => ?_) fun _ => hk
    · by_cases hb : b = a
      · exact .inr ⟨_, _, if_pos hb⟩
      · exact .inl (if_neg hb)
    · by_cases hb : b = a
      · have z' := (if_pos hb).symm.trans z
        cases z'
        subst hb
        exact ⟨ha, by rw [List.length_map]; exact hl, vs, _, rv, ha⟩
      · have z' := (if_neg hb).symm.trans z
        cases z'
    · by_cases hb : b = a
      · exact hb
      · exact absurd (if_neg hb) z
end L2

namespace L2
open PySem PySem.Spec PyProof.Rows


/-- the goal that k_head leaves (case hc), from the law's promise. F gives the function object fd (K's own) once, then the promise over every base -/
theorem walk_of {l : PySem.W.OpenLaw} {n k : Nat} {q : Program} {loose : List Str} {XP : (Str → Option Value) → Heap → Prop} {YP : World → Heap → Prop} {d : DefRec} {K : Params → PySem.W.Frag} {CX : World → CXT} {sp : World → Sp} {x : Str}
    (hn : l.most = some n) (hn2 : n ≤ sizeLine) (hdf : d.params.defaults = []) (hr : Room k callerA)
    (hY : ∀ (w : World) (h : Heap), YP w h → (K w.params).In h)
    (F : ∀ (w : World) (mg : Str → Option Value) (fa : Addr) (h : Heap), (K w.params).In h → h.Ns mainGlobals mg → mg d.name = some (.ref fa) →
      ∃ fd : FuncData, (∀ (s : Shared) (u : Value), BindsTo s fd ⟨[u], []⟩ [(x, u)]) ∧
        ∀ base : Heap, (K w.params).In base → base.Ns mainGlobals mg → FnOk l.prog w (K w.params) mg base (CX w) k fa fd [x] (sp w))
    (hsp : ∀ (w : World) (H : Hp) (a : Addr) (ns : List Int), ns.length ≤ n → Only H → SqL (K w.params) H a (ns.map V.int) → sp w [.ref a] H (fun v _ => v = .bl true) fun _ _ _ => False)
    (hCX : ∀ (w : World) (H : Hp) (s : Shared) (e : Value) (s' : Shared), CX w [] H s (fun _ _ _ => False) e s' → False) :
    PySem.W.WalkO q loose XP YP l.row.toRowW d [] (fun f vs => PySem.call f vs) := by
  refine Att.attach_call hn hdf fun w s₀ s₁ mg mb fa o pm cd doc a vs ns G Y ho hd hcd hmg hobj hints hlen hg => ?_
  have KX := hY w _ Y
  obtain ⟨fd, hb, hF⟩ := F w mg fa _ KX G.T.g hmg
  exact law_call KX G.T.g G.T.b G.T.builtins G.T.nolimit hg hobj hints (Nat.le_trans hlen hn2) hr hF hb (fun H hO hS => hsp w H a ns hlen hO hS) fun H e s' => hCX w H s₁ e s'
end L2

/- THE LAST THEOREM (shape; LID, My.* are yours):
   My.Adr: a structure of the addresses that your layer names (classes, functions); My.Txt K t: a structure (Prop) of the equations over K;
   My.txt_mk : {K} {implicit addresses ..} (e1 : nsIn K mainGlobals "law" = some (some (.ref f))) (e2 : K.lookup f = some ⟨oc, od, .func (fnOf "law" "law" params body scope dV kV doc pm an cdv ct), sl⟩) (e3 : codeIn K cdv "law" = true) .. : ∃ t, My.Txt K t

set_option maxRecDepth 100000 in
set_option maxHeartbeats 0 in
theorem PySem.Challenge.cw_LID_holds : PySem.Challenge.rw_LID.Holds := by
  w_on; o_law; k_head; (case hw => w_witness2)
  k_fill
  refine L2.walk_of (l := PySem.Challenge.rw_LID) (n := 63) (k := 40) (x := "script") (CX := fun w => ..) (sp := fun _ => My.sp_law) rfl (by decide) rfl ⟨rfl, by decide, by decide⟩ (fun w h Y => PySem.W.kIn_of Y) ?F ?S ?C
  case F =>
    intro w mg fa h KX G hmg
    have T : ∃ t, My.Txt (L2.KOf KX) t := by
      dsimp only [L2.KOf]                          -- K must stand as «<heap const> w.params» for k_is
      refine' My.txt_mk ?e1 ?e2 ?e3 ..
      (case e1 => PySem.W.k_is)                    -- in the order: a name -> its address -> its object -> its parts
      (case e2 => PySem.W.k_is)
      ..
    obtain ⟨t, T⟩ := T
    have e0 := hmg.symm.trans (PySem.W.mg_of KX G T.law)
    cases e0                                       -- fa is the law's own address
    exact ⟨_, fun s u => .of_eq rfl, fun base kb nb => My.law_fn T kb nb⟩     -- if «.of_eq rfl» comes too early: refine' ⟨_, ?b, fun base kb nb => My.law_fn T kb nb⟩; exact fun s u => .of_eq rfl
  case S => exact fun w H a ns hl hO hS => ..
  case C => exact ..
(the tactic k_is has no namespace: write k_is) -/

/-! SHORT WORDS over the layer: a def of the text, its body, what a loop and a test want. -/
namespace L2
open PySem PySem.Spec PyProof.Rows

/-! ### the text by places -/
def defArgs (s : Stmt) : Arguments := match s with
  | .FunctionDef _ a _ _ _ _ _ _ _ _ => a
  | _ => { posonlyargs := [], args := [], vararg := none, kwonlyargs := [], kw_defaults := [], kwarg := none, defaults := [] }
def defBody (s : Stmt) : List Stmt := match s with
  | .FunctionDef _ _ b _ _ _ _ _ _ _ => b
  | _ => []
def defScope (s : Stmt) : Scope := match s with
  | .FunctionDef _ _ _ _ _ _ sc _ _ _ => sc
  | _ => { kind := .function, names := [], isGenerator := false, isCoroutine := false }

/-! ### no exception leaves a def -/

/-! ### a def (or method) of the text as it stands behind the top -/
structure Fun (K : PySem.W.Frag) (x qual : Str) (st : Stmt) (f : Addr) (fd : FuncData) : Prop where
  ex : ∃ (oc : Value) (od : Option Addr) (kV doc pm : Value) (an : Option Addr) (cdv ct : Value) (osl : Array (Option Value)),
    fd = PySem.W.fnOf x qual (defArgs st) (defBody st) (defScope st) .none kV doc pm an cdv ct ∧ K.lookup f = some ⟨oc, od, .func fd, osl⟩ ∧ PySem.W.codeIn K cdv qual = true
  kp : PySem.W.keepIn K (.ref f) = true
section
variable {P : Program} {w : World} {K : PySem.W.Frag} {mg : Str → Option Value} {base : Heap}
/-- how its arguments bind (no defaults): h is «fun _ _ _ _ _ _ us hl => match us, hl with | [_, _], _ => rfl», one _ a parameter -/
theorem Fun.binds {x qual : Str} {st : Stmt} {f : Addr} {fd : FuncData} {ps : List Str} (F : Fun K x qual st f fd)
    (h : ∀ (kV doc pm : Value) (an : Option Addr) (cdv ct : Value) (us : List Value), us.length = ps.length → bindArgs (PySem.W.fnOf x qual (defArgs st) (defBody st) (defScope st) .none kV doc pm an cdv ct) ⟨us, []⟩ = pure (ps.zip us)) : Binds K fd ps [] := by
  obtain ⟨oc, od, kV, doc, pm, an, cdv, ct, osl, rfl, lk, hcd⟩ := F.ex
  exact .all (h kV doc pm an cdv ct)
theorem fun_mk {x qual : Str} {st : Stmt} {f : Addr} {oc : Value} {od an : Option Addr} {osl : Array (Option Value)} {kV doc pm cdv ct : Value} (l : K.lookup f = some ⟨oc, od, .func (PySem.W.fnOf x qual (defArgs st) (defBody st) (defScope st) .none kV doc pm an cdv ct), osl⟩)
    (c : PySem.W.codeIn K cdv qual = true) (k : PySem.W.keepIn K (.ref f) = true) : Fun K x qual st f (PySem.W.fnOf x qual (defArgs st) (defBody st) (defScope st) .none kV doc pm an cdv ct) := ⟨⟨oc, od, kV, doc, pm, an, cdv, ct, osl, rfl, l, c⟩, k⟩
end
theorem hu_of {A : Around} {k : Nat} (hr : Room k A) : A.units + 1 < cLine := Nat.lt_of_le_of_lt (Nat.add_le_add_left (by decide : 1 ≤ 64) _) hr.units

/-! ### expressions in short: the name that stands in the i-th slot -/
section
variable {X : Cx}
theorem pv (i : Nat) {x : Str} {pos : Pos} (hN : X.N[i]? = some x := by rfl) (hv : Vis X.env.scope x := by first | exact Or.inl rfl | exact Or.inr (Or.inl rfl) | exact Or.inr (Or.inr rfl)) (hd : (x == ("__debug__" : Str)) = false := by decide)
    (hcd : (x == ("__classdict__" : Str)) = false := by decide) : PE X (.Name x pos) (tVar i) := pe_var hN hv hd hcd
end

/-! ### tests -/
theorem iteF {A B : Prop} (h : B) : if false = true then A else B := by
  rw [if_neg Bool.false_ne_true]
  exact h
theorem iteT {A B : Prop} (h : A) : if true = true then A else B := by
  rw [if_pos rfl]
  exact h
theorem ite2 {c A B : Prop} [Decidable c] (h1 : c → A) (h2 : ¬ c → B) : if c then A else B := by
  by_cases h : c
  · rw [if_pos h]
    exact h1 h
  · rw [if_neg h]
    exact h2 h

/-! ### heaps -/
/-- all that was tracked is as it was -/
def Same (H H' : Hp) : Prop := ∀ b o, H b = some o → H' b = some o
theorem Same.refl (H : Hp) : Same H H := fun _ _ h => h
theorem Same.trans {H H1 H2 : Hp} (a : Same H H1) (b : Same H1 H2) : Same H H2 := fun c o h => b c o (a c o h)
theorem Same.free {H H' : Hp} (e : Same H H') {l : Addr} (h : H' l = Option.none) : H l = Option.none := by
  cases q : H l with
  | none => rfl
  | some o =>
    rw [e l o q] at h
    cases h

end L2
end
section
set_option Elab.async false
set_option linter.all false
set_option maxRecDepth 100000
namespace L2
open PySem PySem.Spec PyProof.Rows

/-! ### lists of pairs as tables -/
section
variable {κ : Type} [DecidableEq κ]
def valV (kvs : List (κ × V)) (k : κ) : Option V := (kvs.find? fun kv => decide (kv.1 = k)).map (·.2)
/-- in its place, or at the end -/
def putK (kvs : List (κ × V)) (k : κ) (v : V) : List (κ × V) :=
  if (kvs.any fun kv => decide (kv.1 = k)) = true then kvs.map (fun kv => if kv.1 = k then (kv.1, v) else kv) else kvs ++ [(k, v)]

theorem valV_pos {p : κ × V} {r : List (κ × V)} {k : κ} (e : p.1 = k) : valV (p :: r) k = some p.2 := by simp [valV, List.find?_cons, e]
theorem valV_neg {p : κ × V} {r : List (κ × V)} {k : κ} (e : ¬ p.1 = k) : valV (p :: r) k = valV r k := by simp [valV, List.find?_cons, e]
theorem valV_any (k : κ) : ∀ kvs : List (κ × V), (kvs.any fun kv => decide (kv.1 = k)) = (valV kvs k).isSome
  | [] => rfl
  | p :: r => by
    rw [List.any_cons]
    by_cases e : p.1 = k
    · simp only [valV_pos e, decide_eq_true e, Bool.true_or, Option.isSome_some]
    · rw [valV_neg e, decide_eq_false e, Bool.false_or]; exact valV_any k r
theorem length_putK (kvs : List (κ × V)) (k : κ) (v : V) : (putK kvs k v).length ≤ kvs.length + 1 := by
  unfold putK
  split
  · rw [List.length_map]; omega
  · rw [List.length_append, List.length_cons, List.length_nil]; omega
theorem putK_new {kvs : List (κ × V)} {k : κ} (v : V) (h : valV kvs k = none) : putK kvs k v = kvs ++ [(k, v)] := by
  unfold putK
  rw [valV_any, h]
  exact if_neg (by decide)

theorem RelO.isSome_eq {o : Option V} {u : Option Value} (r : RelO o u) : o.isSome = u.isSome := by
  cases o with
  | none => cases u with
    | none => rfl
    | some _ => exact (show False from r).elim
  | some _ => cases u with
    | none => exact (show False from r).elim
    | some _ => rfl

/-- raw tables of the same keys -/
theorem KV.val {kvs : List (κ × V)} {vs : List (κ × Value)} (r : KV kvs vs) (k : κ) : RelO (valV kvs k) (valueAt vs k) := by
  unfold KV at r
  induction r with
  | nil => exact True.intro
  | @cons p q ps qs h t ih =>
    obtain ⟨h1, h2⟩ := h
    by_cases e : p.1 = k
    · have e' : q.1 = k := h1.symm.trans e
      have b : valueAt (q :: qs) k = some q.2 := by simp [valueAt, List.find?_cons, e']
      rw [valV_pos e, b]; exact h2
    · have e' : ¬ q.1 = k := fun z => e (h1.trans z)
      have b : valueAt (q :: qs) k = valueAt qs k := by simp [valueAt, List.find?_cons, e']
      rw [valV_neg e, b]; exact ih
theorem KV.any {kvs : List (κ × V)} {vs : List (κ × Value)} (r : KV kvs vs) (k : κ) : (kvs.any fun kv => decide (kv.1 = k)) = vs.any fun kv => decide (kv.1 = k) := by
  unfold KV at r
  induction r with
  | nil => rfl
  | cons h t ih => rw [List.any_cons, List.any_cons, ih, h.1]
theorem KV.repl {kvs : List (κ × V)} {vs : List (κ × Value)} (r : KV kvs vs) (k : κ) {y : V} {u : Value} (ry : RelV y u) :
    KV (kvs.map fun kv => if kv.1 = k then (kv.1, y) else kv) (vs.map fun kv => if kv.1 = k then (kv.1, u) else kv) := by
  unfold KV at r ⊢
  induction r with
  | nil => exact .nil
  | @cons p q ps qs h t ih =>
    rw [List.map_cons, List.map_cons]
    refine .cons ?_ ih
    obtain ⟨h1, h2⟩ := h
    by_cases e : p.1 = k
    · rw [if_pos e, if_pos (h1.symm.trans e)]; exact ⟨h1, ry⟩
    · rw [if_neg e, if_neg (fun z => e (h1.trans z))]; exact ⟨h1, h2⟩
theorem KV.put {kvs : List (κ × V)} {vs : List (κ × Value)} (r : KV kvs vs) (k : κ) {y : V} {u : Value} (ry : RelV y u) : KV (putK kvs k y) (stored vs k u) := by
  unfold putK stored
  rw [r.any k]
  by_cases e : (vs.any fun kv => decide (kv.1 = k)) = true
  · rw [if_pos e, if_pos e]; exact r.repl k ry
  · rw [if_neg e, if_neg e]; exact Paired.snoc r ⟨rfl, ry⟩
theorem KV.keys {kvs : List (κ × V)} {vs : List (κ × Value)} (r : KV kvs vs) : kvs.map (·.1) = vs.map (·.1) := by
  unfold KV at r
  induction r with
  | nil => rfl
  | cons h t ih => rw [List.map_cons, List.map_cons, ih, h.1]
theorem KV.length {kvs : List (κ × V)} {vs : List (κ × Value)} (r : KV kvs vs) : kvs.length = vs.length := Paired.length r
end


/-! ### a tracked dict, its keys ints and texts or tuples of these -/
theorem kV_is {P : Program} {w : World} {k : Key} {u : Value} (r : RelV (kV k) u) : (mixKind P w).is k u = true := by
  cases k with
  | inl i => obtain ⟨t, e⟩ := (show ∃ t, u = Value.int i t from r); subst e; exact mixKind_int P w i t
  | inr x => obtain ⟨t, e⟩ := (show ∃ t, u = Value.str x t from r); subst e; exact mixKind_str P w x t
theorem items_are {P : Program} {w : World} : ∀ {ks : List Key} {us : List Value}, Vals (ks.map kV) us → ItemsAre (mixKind P w) ks us
  | [], _, r => by rw [List.map_nil] at r; cases r; exact .nil
  | k :: ks, _, r => by
    rw [List.map_cons] at r
    cases r with
    | cons h t => exact .cons (kV_is h) (items_are t)

/-- raw entries of a dict with tuple keys -/
abbrev KT (H : Hp) : List (List Key × V) → List (List Key × Addr × Value) → Prop := Paired fun p q => p.1 = q.1 ∧ H q.2.1 = some (.tup (p.1.map kV)) ∧ RelV p.2 q.2.2
theorem KT.val {H : Hp} {kvs : List (List Key × V)} {xs : List (List Key × Addr × Value)} (r : KT H kvs xs) (k : List Key) : RelO (valV kvs k) ((atKey xs k).map (·.2)) := by
  induction r with
  | nil => exact True.intro
  | @cons p q ps qs h t ih =>
    obtain ⟨h1, _, h2⟩ := h
    by_cases e : p.1 = k
    · have e' : q.1 = k := h1.symm.trans e
      have b : atKey (q :: qs) k = some q.2 := by simp [atKey, List.find?_cons, e']
      rw [valV_pos e, b]; exact h2
    · have e' : ¬ q.1 = k := fun z => e (h1.trans z)
      have b : atKey (q :: qs) k = atKey qs k := by simp [atKey, List.find?_cons, e']
      rw [valV_neg e, b]; exact ih
theorem KT.repl {H : Hp} {kvs : List (List Key × V)} {xs : List (List Key × Addr × Value)} (r : KT H kvs xs) (k : List Key) {y : V} {u : Value} (ry : RelV y u) :
    KT H (kvs.map fun kv => if kv.1 = k then (kv.1, y) else kv) (xs.map (putAt k u)) := by
  induction r with
  | nil => exact .nil
  | @cons p q ps qs h t ih =>
    rw [List.map_cons, List.map_cons]
    refine .cons ?_ ih
    obtain ⟨h1, h2, h3⟩ := h
    unfold putAt
    by_cases e : p.1 = k
    · rw [if_pos e, if_pos (h1.symm.trans e)]; exact ⟨h1, h2, ry⟩
    · rw [if_neg e, if_neg (fun z => e (h1.trans z))]; exact ⟨h1, h2, h3⟩
theorem KT.put {H : Hp} {kvs : List (List Key × V)} {xs : List (List Key × Addr × Value)} (r : KT H kvs xs) (k : List Key) {b : Addr} {y : V} {u : Value} (hb : H b = some (.tup (k.map kV))) (ry : RelV y u) :
    KT H (putK kvs k y) (storedH xs k b u) := by
  have e : (kvs.any fun kv => decide (kv.1 = k)) = (atKey xs k).isSome := by
    rw [valV_any, (r.val k).isSome_eq, Option.isSome_map]
  unfold putK storedH
  rw [e]
  by_cases q : (atKey xs k).isSome = true
  · rw [if_pos q, if_pos q]; exact r.repl k ry
  · rw [if_neg q, if_neg q]; exact Paired.snoc r ⟨rfl, hb, ry⟩
theorem KT.keeps {H H' : Hp} {kvs : List (List Key × V)} {xs : List (List Key × Addr × Value)} (r : KT H kvs xs) (ht : ∀ b ys, H b = some (.tup ys) → H' b = some (.tup ys)) : KT H' kvs xs :=
  Paired.mapP r fun _ _ z => ⟨z.1, ht _ _ z.2.1, z.2.2⟩

section
variable {P : Program} {w : World} {H : Hp} {h : Heap} {a : Addr}
theorem rd_of {u : HO} (ok : HOk P w H h) (e : Rd H a u) : ObjOk P w H h a u := e.ok ok
theorem dk_rd {kvs : List (Key × V)} (ok : HOk P w H h) (e : Rd H a (.dK kvs)) : kvs.length ≤ sizeLine ∧ (a == sysModules) = false ∧ ∃ vs, KV kvs vs ∧ h.DictOf (mixKind P w) a vs :=
  show ObjOk P w H h a (.dK kvs) from rd_of ok e
theorem dk_of {kvs : List (Key × V)} (ok : HOk P w H h) (e : H a = some (.dK kvs)) : kvs.length ≤ sizeLine ∧ (a == sysModules) = false ∧ ∃ vs, KV kvs vs ∧ h.DictOf (mixKind P w) a vs := dk_rd ok (.inl e)
/-- a tracked tuple of ints and texts is a key -/
theorem key_of {ks : List Key} (ok : HOk P w H h) (e : H a = some (.tup (ks.map kV))) : (tupleKind (mixKind P w)).is h ks a := by
  obtain ⟨_, its, r, o, h1, h2, n, h3⟩ := (show ObjOk P w H h a (.tup (ks.map kV)) from ok a _ e)
  exact ⟨o, its.toArray, n, h1, h2, h3, by simpa using items_are r⟩
theorem dt_rd {kvs : List (List Key × V)} (ok : HOk P w H h) (e : Rd H a (.dT kvs)) : kvs.length ≤ sizeLine ∧ (a == sysModules) = false ∧
    ∃ xs, KT H kvs xs ∧ h.DictOfH (tupleKind (mixKind P w)) a xs := by
  obtain ⟨z, y, xs, r, o, es, ep, h1, h2, h3, h4, h5⟩ := (show ObjOk P w H h a (.dT kvs) from rd_of ok e)
  refine ⟨z, y, xs, r, o, es, ep, h1, h2, h3, h4, fun x hx => ?_, h5⟩
  have all : ∀ {l : List (List Key × V)} {m : List (List Key × Addr × Value)}, KT H l m → ∀ x ∈ m, (tupleKind (mixKind P w)).is h x.1 x.2.1 := by
    intro l m q
    induction q with
    | nil => intro x hx; exact nomatch hx
    | @cons p q ps qs hq t ih =>
      intro x hx
      rcases List.mem_cons.mp hx with e | hx
      · subst e
        exact key_of ok (by rw [← hq.1]; exact hq.2.1)
      · exact ih x hx
  exact all r x hx
theorem dt_of {kvs : List (List Key × V)} (ok : HOk P w H h) (e : H a = some (.dT kvs)) : kvs.length ≤ sizeLine ∧ (a == sysModules) = false ∧
    ∃ xs, KT H kvs xs ∧ h.DictOfH (tupleKind (mixKind P w)) a xs := dt_rd ok (.inl e)
end

/-- what the dict at a holds at the key y -/
def DGet (H : Hp) (a : Addr) (y : V) (r : Option V) : Prop :=
  (∃ kvs k, Rd H a (.dK kvs) ∧ y = kV k ∧ r = valV kvs k) ∨ ∃ kvs k b, Rd H a (.dT kvs) ∧ y = .ref b ∧ H b = some (.tup (k.map kV)) ∧ r = valV kvs k
/-- the heap behind a[y] = v -/
def DPut (H : Hp) (a : Addr) (y v : V) (H' : Hp) : Prop :=
  (∃ kvs k, H a = some (.dK kvs) ∧ y = kV k ∧ kvs.length < sizeLine ∧ H' = upd H a (.dK (putK kvs k v))) ∨
  ∃ kvs k b, H a = some (.dT kvs) ∧ y = .ref b ∧ H b = some (.tup (k.map kV)) ∧ kvs.length < sizeLine ∧ H' = upd H a (.dT (putK kvs k v))
theorem DGet.k {H : Hp} {a : Addr} {kvs : List (Key × V)} {k : Key} (e : H a = some (.dK kvs)) : DGet H a (kV k) (valV kvs k) := .inl ⟨kvs, k, .inl e, rfl, rfl⟩
theorem DPut.k {H : Hp} {a : Addr} {kvs : List (Key × V)} {k : Key} {v : V} (e : H a = some (.dK kvs)) (hl : kvs.length < sizeLine) : DPut H a (kV k) v (upd H a (.dK (putK kvs k v))) := .inl ⟨kvs, k, e, rfl, hl, rfl⟩


section
variable {X : Cx} {pins : List (Addr × Obj)} {σ : St} {H : Hp} {s : Shared} {a : Addr} {y v : V} {u r : Value} {o : Option V} {A : Around} {E : Value → Shared → Prop}

theorem Inv.big (I : Inv X pins σ H s) : sysModules < s.heap.objs.size := by
  have h : mainGlobals < s.heap.objs.size := (I.mod.glob.keeps I.bk).lt
  exact Nat.lt_trans (by decide) h

/-- d[y], there -/
theorem d_getItem {Q : Value → Shared → Prop} (hu : A.units + 1 < cLine) (I : Inv X pins σ H s) (g : DGet H a y (some v)) (ry : RelV y u) (h : ∀ w' s', Inv X pins σ H s' → RelV v w' → Q w' s') :
    wpAny (model X.prog X.w) A (getItem (.ref a) u) Q E s := by
  rcases g with ⟨kvs, k, e, ey, l⟩ | ⟨kvs, k, b, e, ey, eb, l⟩
  · subst ey
    obtain ⟨z, hd, vs, rel, dd⟩ := dk_rd I.hok e
    obtain ⟨w', hw, rw'⟩ := RelO.some_of (v := v) (o := valueAt vs k) (by rw [l]; exact rel.val k)
    exact wpAny_getItem_of (kV_is ry) dd.mapOf hw (h w' _ (I.tok _) rw')
  · subst ey
    cases (show u = Value.ref b from ry)
    obtain ⟨z, hd, xs, rel, dd⟩ := dt_rd I.hok e
    obtain ⟨w', hw, rw'⟩ := RelO.some_of (v := v) (o := (atKey xs k).map (·.2)) (by rw [l]; exact rel.val k)
    obtain ⟨p, hp, hp2⟩ := Option.map_eq_some_iff.mp hw
    refine wpAny_getItem_heap (tupleKind_room_in1 hu) (key_of I.hok eb) dd hp ?_
    rw [hp2]
    exact h w' _ (I.tok _) rw'
/-- y in d -/
theorem d_in {Q : Value → Shared → Prop} (hu : A.units + 1 < cLine) (I : Inv X pins σ H s) (g : DGet H a y o) (ry : RelV y u) (h : ∀ s', Inv X pins σ H s' → Q (.bool o.isSome) s') :
    wpAny (model X.prog X.w) A (compareOp .In u (.ref a)) Q E s := by
  rcases g with ⟨kvs, k, e, ey, l⟩ | ⟨kvs, k, b, e, ey, eb, l⟩
  · subst ey
    obtain ⟨z, hd, vs, rel, dd⟩ := dk_rd I.hok e
    refine wpAny_in_of (kV_is ry) hd dd.mapOf ?_
    rw [← (rel.val k).isSome_eq, ← l]
    exact h _ (I.tok _)
  · subst ey
    cases (show u = Value.ref b from ry)
    obtain ⟨z, hd, xs, rel, dd⟩ := dt_rd I.hok e
    refine wpAny_in_heap (tupleKind_room_in1 hu) (key_of I.hok eb) hd dd ?_
    have q := (rel.val k).isSome_eq
    rw [Option.isSome_map] at q
    rw [← q, ← l]
    exact h _ (I.tok _)
theorem d_notIn {Q : Value → Shared → Prop} (hu : A.units + 1 < cLine) (I : Inv X pins σ H s) (g : DGet H a y o) (ry : RelV y u) (h : ∀ s', Inv X pins σ H s' → Q (.bool (!o.isSome)) s') :
    wpAny (model X.prog X.w) A (compareOp .NotIn u (.ref a)) Q E s := by
  rcases g with ⟨kvs, k, e, ey, l⟩ | ⟨kvs, k, b, e, ey, eb, l⟩
  · subst ey
    obtain ⟨z, hd, vs, rel, dd⟩ := dk_rd I.hok e
    refine wpAny_notIn_of (kV_is ry) hd dd.mapOf ?_
    rw [← (rel.val k).isSome_eq, ← l]
    exact h _ (I.tok _)
  · subst ey
    cases (show u = Value.ref b from ry)
    obtain ⟨z, hd, xs, rel, dd⟩ := dt_rd I.hok e
    refine wpAny_notIn_heap (tupleKind_room_in1 hu) (key_of I.hok eb) hd dd ?_
    have q := (rel.val k).isSome_eq
    rw [Option.isSome_map] at q
    rw [← q, ← l]
    exact h _ (I.tok _)
/-- a dict's object is replaced -/
theorem d_write {h' : Heap} {t' : Nat} {ob : HO} (I : Inv X pins σ H s) (mu : Mut (H a)) (hs : Heap.SameBut a s.heap h') (he : ∃ q, h'.get? a = some q) (new : ObjOk X.prog X.w (upd H a ob) h' a ob) :
    Inv X pins σ (upd H a ob) { s with heap := h', toks := t' } :=
  I.write (x := a) (e := a) mu (.inl rfl) (fun b q hb z => (hs.2 b hb).trans z) he new
theorem dk_new {P : Program} {w : World} {H' : Hp} {h' : Heap} {kvs : List (Key × V)} {vs : List (Key × Value)} (z : kvs.length ≤ sizeLine) (hd : (a == sysModules) = false) (rel : KV kvs vs) (dd : h'.DictOf (mixKind P w) a vs) :
    ObjOk P w H' h' a (.dK kvs) := ⟨z, hd, vs, rel, dd⟩
/-- d[y] = v -/
theorem d_setItem {H' : Hp} {Q : Unit → Shared → Prop} (hu : A.units + 1 < cLine) (I : Inv X pins σ H s) (g : DPut H a y v H') (ry : RelV y u) (rv : RelV v r) (h : ∀ s', Inv X pins σ H' s' → Q () s') :
    wpAny (model X.prog X.w) A (setItem (.ref a) u r) Q E s := by
  rcases g with ⟨kvs, k, e, ey, l, eH⟩ | ⟨kvs, k, b, e, ey, eb, l, eH⟩
  · subst ey eH
    obtain ⟨z, hd, vs, rel, dd⟩ := dk_of I.hok e
    have hz : vs.length ≤ sizeLine := by rw [← rel.length]; exact z
    have hl : (putK kvs k v).length ≤ sizeLine := by have := length_putK kvs k v; omega
    refine wpAny_setItem_pairs (hsz := hz) (kV_is ry) dd fun h' dd' hs => h _ ?_
    have he : ∃ q, h'.get? a = some q := let ⟨q, _, _, hq, _⟩ := dd'; ⟨q, hq⟩
    exact d_write I (by rw [e]; exact True.intro) hs he (dk_new hl hd (rel.put k rv) dd')
  · subst ey eH
    cases (show u = Value.ref b from ry)
    obtain ⟨z, hd, xs, rel, dd⟩ := dt_of I.hok e
    have hz : xs.length ≤ sizeLine := by rw [← Paired.length rel]; exact z
    have hl : (putK kvs k v).length ≤ sizeLine := by have := length_putK kvs k v; omega
    refine wpAny_setItem_heap (hsz := hz) (tupleKind_room_in1 hu) (key_of I.hok eb) dd fun h' dd' hs => h _ ?_
    obtain ⟨q, es, ep, hq, h2, h3, h4, _, h5⟩ := dd'
    refine d_write I (by rw [e]; exact True.intro) hs ⟨q, hq⟩ ⟨hl, hd, _, (rel.put k eb rv).keeps fun c ys ec => ?_, q, es, ep, hq, h2, h3, h4, h5⟩
    rw [upd_ne (ne_of ec e (fun z => nomatch z))]
    exact ec
end

section
variable {X : Cx} {pins : List (Addr × Obj)} {σ : St} {H : Hp} {s : Shared} {a : Addr} {kvs : List (Key × V)} {k : Key} {u : Value} {A : Around} {E : Value → Shared → Prop}
/-- len(d) -/
theorem d_len {Q : Value → Shared → Prop} (I : Inv X pins σ H s) (e : Rd H a (.dK kvs)) (h : ∀ t s', Inv X pins σ H s' → Q (.int kvs.length t) s') : wpAny (model X.prog X.w) A (call (.builtin "len") [.ref a]) Q E s := by
  obtain ⟨z, hd, vs, rel, dd⟩ := dk_rd I.hok e
  refine call_len_dict hd dd (by rw [← rel.length]; rw [sizeLine_eq] at z; omega) ?_
  rw [← rel.length]
  exact h _ _ (I.tok _)
end


/-! ### readings and rules -/
/-- the element of a subscription, not a slice -/
def NoSl (i : Expr) : Prop := ∀ ov iv, subscripted i false ov iv = operate [ov, iv] (getItem ov iv)
theorem subD_of {prog : Program} {w : World} {A : Around} {E : Value → Shared → Prop} {s : Shared} {env : Env} {value slice : Expr} {pos : Pos} {T id : String} {Q : Value → Shared → Prop}
    (hl : typeLookup (.type T) "__getitem__" = pure (some (.builtin id))) (hs : NoSl slice)
    (h : wpAny (model prog w) A (eval value env) (fun o s₁ => wpAny (model prog w) A (eval slice env) (fun i s₂ => s₂.TypeIs o T ∧ wpAny (model prog w) A (getItem o i) Q E s₂) E s₁) E s) :
    wpAny (model prog w) A (eval (.Subscript value slice pos) env) Q E s := by
  refine Subscript_ (wpAny_mono h (fun o s₁ h₁ => wpAny_mono h₁ (fun i s₂ h₂ => ?_) fun _ _ x => x) fun _ _ x => x)
  obtain ⟨hT, h₂⟩ := h₂
  unfold subscriptTail
  refine wpAny_bind ?_
  rw [getitemInPython_of_ne hT.not_modules]
  refine wpAny_bind (wpAny_specialOf hT hl ?_)
  have fin : wpAny (model prog w) A (subscripted slice false o i) (fun r s₃ => wpAny (model prog w) A (letTemporaryGo value o r >>= fun _ => pure r) Q E s₃) E s₂ := by
    rw [hs o i]
    exact wpAny_operating (wpAny_mono h₂ (fun r s₃ h₃ => wpAny_bind (wpAny_letTemporaryGo (wpAny_pure h₃))) fun _ _ x => x)
  first
    | exact wpAny_pure (wpAny_bind fin)
    | exact wpAny_bind (wpAny_pure (wpAny_bind fin))
    | exact wpAny_bind fin

theorem dict_typeIs {X : Cx} {pins : List (Addr × Obj)} {σ : St} {H : Hp} {s : Shared} {a : Addr} {y : V} {o : Option V} (I : Inv X pins σ H s) (g : DGet H a y o) : s.TypeIs (.ref a) "dict" := by
  rcases g with ⟨kvs, k, e, _, _⟩ | ⟨kvs, k, b, e, _, _, _⟩
  · obtain ⟨_, _, vs, _, dd⟩ := dk_rd I.hok e
    exact dd.typeIs
  · obtain ⟨_, _, xs, _, dd⟩ := dt_rd I.hok e
    exact dd.typeIs

/-- d[y] -/
def tDGet (td ty : TE) : TE := fun σ H Q => td σ H fun x H1 => ty σ H1 fun y H2 => ∃ a v, x = .ref a ∧ DGet H2 a y (some v) ∧ Q v H2
/-- y in d, y not in d -/
def tDIn (ty td : TE) : TE := fun σ H Q => ty σ H fun y H1 => td σ H1 fun x H2 => ∃ a o, x = .ref a ∧ DGet H2 a y o ∧ Q (.bl o.isSome) H2
def tDNotIn (ty td : TE) : TE := fun σ H Q => ty σ H fun y H1 => td σ H1 fun x H2 => ∃ a o, x = .ref a ∧ DGet H2 a y o ∧ Q (.bl (!o.isSome)) H2
/-- d[y] = v -/
def sDPut (td ty tv : TE) : TS := fun D σ H => tv σ H fun v H1 => td σ H1 fun x H2 => ty σ H2 fun y H3 => ∃ a H4, x = .ref a ∧ DPut H3 a y v H4 ∧ D.nx σ H4

section
variable {X : Cx} {o i e value : Expr} {pos pos' tpos : Pos} {td ty tv : TE}
theorem pe_dget (hu : X.A.units + 1 < cLine) (ho : PE X o td) (hi : PE X i ty) (hs : NoSl i) : PE X (.Subscript o i pos) (tDGet td ty) := by
  intro pins s σ H Q I h
  refine subD_of PySem.F.slot_dict_getitem.lookup hs (thn (ho pins s σ H _ I h) fun u s1 ⟨x, H1, I1, rx, q1⟩ => thn (hi pins s1 σ H1 _ I1 q1) fun iv s2 ⟨y, H2, I2, ry, a, v, ex, g, q2⟩ => ?_)
  subst ex
  obtain rfl : u = Value.ref a := rx
  exact ⟨dict_typeIs I2 g, d_getItem hu I2 g ry fun w' s3 I3 rw' => ⟨v, H2, I3, rw', q2⟩⟩
theorem pc_din (hu : X.A.units + 1 < cLine) (hi : PE X i ty) (ho : PE X o td) : PC X .In i o (tDIn ty td) := by
  intro pins s σ H Q I h
  refine thn (hi pins s σ H _ I h) fun iv s1 ⟨y, H1, I1, ry, q1⟩ => thn (ho pins s1 σ H1 _ I1 q1) fun u s2 ⟨x, H2, I2, rx, a, ov, ex, g, q2⟩ => ?_
  subst ex
  obtain rfl : u = Value.ref a := rx
  exact d_in hu I2 g ry fun s3 I3 => ⟨.bl ov.isSome, H2, I3, rfl, q2⟩
theorem pc_dnotin (hu : X.A.units + 1 < cLine) (hi : PE X i ty) (ho : PE X o td) : PC X .NotIn i o (tDNotIn ty td) := by
  intro pins s σ H Q I h
  refine thn (hi pins s σ H _ I h) fun iv s1 ⟨y, H1, I1, ry, q1⟩ => thn (ho pins s1 σ H1 _ I1 q1) fun u s2 ⟨x, H2, I2, rx, a, ov, ex, g, q2⟩ => ?_
  subst ex
  obtain rfl : u = Value.ref a := rx
  exact d_notIn hu I2 g ry fun s3 I3 => ⟨.bl (!ov.isSome), H2, I3, rfl, q2⟩
theorem ps_dput (hu : X.A.units + 1 < cLine) (ho : PE X o td) (hi : PE X i ty) (hv : PE X value tv) (hs : swapsWith value (some (.Subscript o i pos')) pos.line X.env = pure false) :
    PS X (.Assign [.Subscript o i pos'] value pos) (sDPut td ty tv) := by
  intro pins s σ H D I h
  refine wpAny_Assign_Subscript (thn (hv pins s σ H _ I h) fun r s1 ⟨v, H1, I1, rv, q1⟩ => thn (ho pins s1 σ H1 _ I1 q1) fun u s2 ⟨x, H2, I2, rx, q2⟩ => thn (hi pins s2 σ H2 _ I2 q2) fun iv s3 ⟨y, H3, I3, ry, a, H4, ex, g, q3⟩ => ?_) hs
  subst ex
  obtain rfl : u = Value.ref a := rx
  exact d_setItem hu I3 g ry rv fun s4 I4 => ⟨σ, H4, I4, q3⟩
end


/-! ### displays -/
theorem dk_empty {P : Program} {w : World} {H : Hp} (h : Heap) (hb : sysModules < h.objs.size) : ObjOk P w H (h.push { cls := .type "dict", data := .dict #[] }) h.objs.size (.dK []) :=
  ⟨Nat.zero_le _, beq_eq_false_iff_ne.mpr (Ne.symm (Nat.ne_of_lt hb)), [], .nil, Heap.DictOf.new h⟩
/-- {}, to be a dict of the kind that is wanted -/
def tDNewK : TE := fun _ H Q => ∀ p, H p = none → Q (.ref p) (upd H p (.dK []))
section
variable {X : Cx} {pos : Pos}
theorem pe_dnewK : PE X (.Dict [] [] pos) tDNewK := fun pins s σ H Q I h =>
  wpAny_Dict_empty ⟨.ref s.heap.objs.size, _, I.laid (a := s.heap.objs.size) (o := .dK []) (t' := s.toks) (fun _ _ q => Heap.get?_push_of_some _ q) (Nat.le_refl _) (dk_empty s.heap I.big), rfl, h _ (I.hok.fresh (Nat.le_refl _))⟩
end




/-! ### methods -/


section
variable {X : Cx} {pins : List (Addr × Obj)} {σ : St} {H : Hp} {s : Shared} {a : Addr} {y d : V} {u r : Value} {o : Option V} {A : Around} {E : Value → Shared → Prop}
end

section
variable {X : Cx} {o e f : Expr} {apos cpos : Pos} {td ty tx : TE}
end

/-! ### dict(d): a copy -/
section
variable {X : Cx} {pins : List (Addr × Obj)} {σ : St} {H : Hp} {s : Shared} {a : Addr} {kvs : List (Key × V)} {A : Around} {E : Value → Shared → Prop}
end


section
variable {X : Cx} {pins : List (Addr × Obj)} {σ : St} {H : Hp} {s : Shared} {a : Addr} {y : V} {u : Value} {A : Around} {E : Value → Shared → Prop}
end
end L2
namespace L2
open PySem PySem.Spec PyProof.Rows
section
variable {X : Cx}
end
end L2
end
section
set_option maxRecDepth 100000
set_option maxHeartbeats 4000000
namespace LX
open PySem PySem.W

/-- an exception's object, as it stands: class, attributes' dict, its fields -/
def excRec (c : Value) (od : Option Addr) (fs : Array Value) (sl : Array (Option Value)) : Obj := { cls := c, dict := od, data := .fields fs, slots := sl }
/-- the object of a class of errors -/
def clsRec (dd : Option Addr) (cd : ClassData) (k0 k1 k2 k3 k5 : Option Value) : Obj := { cls := .type "type", dict := dd, data := .cls cd, slots := #[k0, k1, k2, k3, some (.builtin "ValueError.__new__"), k5] }

/-- a class of errors of the text's own, under ValueError -/
structure XCls (K : Frag) (C : Addr) (cd : ClassData) : Prop where
  ob : ∃ dd k0 k1 k2 k3 k5, K.lookup C = some (clsRec dd cd k0 k1 k2 k3 k5)
  del : cd.hasDel = false
  line : ∃ r, cd.mro = .ref C :: r
  val : cd.mro.contains (.type "ValueError") = true
  bas : cd.mro.contains (.type "BaseException") = true
  obj : cd.mro.contains (.type "object") = true
  atr : cd.mro.contains (.type "AttributeError") = false
  nam : cd.mro.contains (.type "NameError") = false


section
variable {K : Frag} {C : Addr} {cd : ClassData} {M : Model} {h : Heap}
theorem XCls.cls (x : XCls K C cd) : clsIn K C = some cd := by
  obtain ⟨dd, k0, k1, k2, k3, k5, e⟩ := x.ob
  unfold clsIn
  rw [e]
  rfl
theorem XCls.notEmpty (x : XCls K C cd) : cd.mro.isEmpty = false := by
  obtain ⟨r, e⟩ := x.line
  rw [e]
  rfl
theorem XCls.sub (x : XCls K C cd) (X : K.In h) (v : Value) : Looks M h (isSubtype (.ref C) v) (cd.mro.contains v) :=
  looks_mroIn X (by unfold mroIn; rw [x.cls, Option.bind_some, if_neg (by rw [x.notEmpty]; decide)])
theorem XCls.isTy (x : XCls K C cd) (X : K.In h) : Looks M h (isType (.ref C)) true := by
  obtain ⟨dd, k0, k1, k2, k3, k5, e⟩ := x.ob
  intro A Q E s k q
  unfold isType loadHead
  exact wpAny_bind (wpAny_loadPart (k _ _ (X _ _ e)) (wpAny_pure q))
end


section
variable {prog : Program} {w : World} {A : Around} {R : Result → Shared → Prop} {h : Heap} {g : Array GenState} {d : Drawn} {t : Nat} {os : OsState} {K : Frag} {C : Addr} {cd : ClassData} {vs : List Value}


end
end LX
end
section
set_option maxRecDepth 100000
set_option maxHeartbeats 4000000
namespace LX
open PySem PySem.W
section
variable {prog : Program} {w : World} {A : Around} {E : Value → Shared → Prop} {h : Heap} {g : Array GenState} {d : Drawn} {t : Nat} {os : OsState} {K : Frag} {C e t0 : Addr} {cd : ClassData} {vs : List Value} {od : Option Addr} {fs : Array Value} {sl : Array (Option Value)}


end
end LX
end
section
set_option maxRecDepth 100000
set_option maxHeartbeats 4000000
namespace LX
open PySem PySem.W
section
variable {prog : Program} {w : World} {A : Around} {E : Value → Shared → Prop} {s : Shared} {K : Frag}
end
end LX
end
section
set_option maxRecDepth 100000
set_option maxHeartbeats 4000000
namespace LX
open PySem PySem.W
section
variable {prog : Program} {w : World} {A : Around} {E : Value → Shared → Prop} {s : Shared} {K : Frag} {env : Env}

/-- an exception as an instance of its class -/
theorem inst_none {ea C : Addr} {fs : Array Value} {sl : Array (Option Value)} {h : Heap} (he : h.get? ea = some (excRec (.ref C) none fs sl)) : InstAt h ea (excRec (.ref C) none fs sl) C none := ⟨he, rfl, rfl, True.intro⟩
theorem inst_some {ea C dx : Addr} {o : Obj} {fs : Array Value} {sl : Array (Option Value)} {h : Heap} (he : h.get? ea = some (excRec (.ref C) (some dx) fs sl)) (hd : h.get? dx = some o) : InstAt h ea (excRec (.ref C) (some dx) fs sl) C (some o) := ⟨he, rfl, rfl, hd⟩
end
end LX
end
section
set_option maxRecDepth 100000
set_option maxHeartbeats 4000000
namespace LX
open PySem PySem.W
/-- what attributes of an exception's class ask -/
structure XGet (K : Frag) (C : Addr) : Prop where
  ga : findIn K (.ref C) "__getattribute__" = some (some (.builtin "BaseException.__getattribute__"))
  gt : findIn K (.ref C) "__getattr__" = some none
section
variable {prog : Program} {w : World} {A : Around} {E : Value → Shared → Prop} {h : Heap} {g : Array GenState} {d : Drawn} {t : Nat} {os : OsState} {K : Frag} {C ea : Addr} {cd : ClassData} {ox : Obj} {od : Option Obj} {name : Str}
/-- e.name, whatever is found -/
theorem getby_exc {tk : Tok} {fill expr : Bool} {r : Builtin.ObjectAttr.Found} {Q : Value → Shared → Prop} (x : XCls K C cd) (G : XGet K C) (X : K.In h) (I : InstAt h ea ox C od) (hf : findObj K C od name = some r)
    (k : match r with
      | .value v => handedIn v = true ∧ Q v ⟨h, g, d, t, os⟩
      | .bind gg a => wpAny (model prog w) A.in1 (call gg [a, .ref ea, .ref C]) (fun v s' => handedIn v = true ∧ Q v s') (fun _ _ => False) ⟨h, g, d, t, os⟩
      | .missing => False) :
    wpAny (model prog w) A (getAttrBy (.ref ea) (.str name tk) fill expr) Q E ⟨h, g, d, t, os⟩ := by
  have ty := I.type (M := model prog w)
  have l1 := looks_findIn (M := model prog w) X G.ga
  have l2 := looks_findIn (M := model prog w) X G.gt
  have l3 := looks_find (M := model prog w) X I hf
  have sb := x.sub (M := model prog w) X (.type "BaseException")
  rw [x.bas] at sb
  have S := PySem.F.excAttr_ValueError.ga
  unfold getAttrBy
  refine wpAny_holding (wpAny_bind (ty.at (wpAny_bind (l1.at ?_))))
  dsimp only
  rw [show (onTheHeap (Value.ref C) && Value.builtin "BaseException.__getattribute__" == Value.builtin "object.__getattribute__") = false by rw [show (Value.builtin "BaseException.__getattribute__" == Value.builtin "object.__getattribute__") = false by decide +kernel, Bool.and_false], if_neg Bool.false_ne_true]
  unfold getAttrByItsOwn
  have hb : Looks (model prog w) h (hookBefore (.ref C)) none := looks_hook X (by rw [if_pos (by rfl)]; exact G.gt)
  refine wpAny_bind (hb.at (wpAny_bind (wpAny_attempt (wpAny_holding ?_))))
  unfold callGetattribute
  rw [show (expr && onTheHeap (Value.builtin "BaseException.__getattribute__")) = false from Bool.and_false _, if_neg Bool.false_ne_true]
  unfold boundAndCalled
  rw [S.bind]
  refine wpAny_bind (wpAny_pure ?_)
  show wpAny _ _ (call (.builtin "BaseException.__getattribute__") [.ref ea, .str name tk]) _ _ _
  refine wpAny_call (codeAny_call_builtin S.plain PySem.F.entry_bexc_ga ?_)
  refine @check_slot (model prog w) _ _ ⟨h, g, d, t, os⟩ "BaseException.__getattribute__" "BaseException" "__getattribute__" (.ref ea) [.str name tk] [] _ (by decide +kernel) (by decide +kernel) (ty.andThen sb) (PySem.F.args_bexc_ga (.ref ea) (.str name tk)) ?_
  unfold Builtin.«object.__getattribute__»
  refine wpAny_bind (wpAny_pure (wpAny_bind (wpAny_pure (wpAny_bind (ty.at (wpAny_bind (l3.at ?_)))))))
  cases r with
  | value v =>
    refine wpAny_pure ?_
    show wpAny _ _ (handedOut v) _ _ _
    rw [handedOut_of k.1]
    exact wpAny_pure k.2
  | bind gg a =>
    refine wpAny_bind (wpAny_holding (wpAny_mono k (fun v s' z => wpAny_pure ?_) fun _ _ z => z.elim))
    show wpAny _ _ (handedOut v) _ _ _
    rw [handedOut_of z.1]
    exact wpAny_pure z.2
  | missing => exact k.elim
/-- e.__class__ as isinstance asks it -/
theorem class_exc {Q : Option Value → Shared → Prop} (x : XCls K C cd) (G : XGet K C) (X : K.In h) (I : InstAt h ea ox C od) (hc : findIn K (.ref C) "__class__" = some (some (.builtin "object.__class__")))
    (k : Q (some (.ref C)) ⟨h, g, d, t + 1, os⟩) : wpAny (model prog w) A (getAttr? (.ref ea) "__class__") Q E ⟨h, g, d, t, os⟩ := by
  have hn : specialIn K (.builtin "object.__class__") "__get__" = some (some (.builtin "getset_descriptor.__get__")) := by kernel_rfl
  have ht : takesIn K (.builtin "object.__class__") = some true := by kernel_rfl
  have hf : findObj K C od "__class__" = some (.bind (.builtin "getset_descriptor.__get__") (.builtin "object.__class__")) := by
    unfold findObj
    rw [x.cls, Option.bind_some, hc, Option.bind_some]
    dsimp only
    rw [hn, Option.bind_some]
    dsimp only
    rw [ht]
    rfl
  have mo : mroIn K C (.type "object") = some true := by
    unfold mroIn
    rw [x.cls, Option.bind_some, if_neg (by rw [x.notEmpty]; decide), x.obj]
  unfold getAttr? getAttrBy?
  refine wpAny_bind (wpAny_mkText (wpAny_bind (wpAny_attempt ?_)))
  refine getby_exc (t := t + 1) x G X I hf ?_
  refine wpAny_call ?_
  refine class_get (s := ⟨h, g, d, t + 1, os⟩) (ox := ox) (od := od) X I mo ⟨rfl, ?_⟩
  exact wpAny_pure k
/-- isinstance's ways with an exception -/
theorem kit_exc (x : XCls K C cd) (G : XGet K C) (hc : findIn K (.ref C) "__class__" = some (some (.builtin "object.__class__"))) : KitX K (.ref ea) (.ref C) (fun h => ∃ ox od, InstAt h ea ox C od) where
  ty := fun _ _ _ ⟨_, _, I⟩ => I.type
  it := fun _ _ X _ => x.isTy X
  ne := fun h tp dd its n sl X htp => by
    obtain ⟨d2, k0, k1, k2, k3, k5, e⟩ := x.ob
    refine Bool.eq_false_iff.mpr fun q => ?_
    have e2 : C = tp := Value.ref.inj (beq_iff_eq.mp q)
    subst e2
    have z := congrArg (fun o : Option Obj => o.map (·.data)) ((X _ _ e).symm.trans htp)
    simp [clsRec] at z
  ca := fun {_ _ _ _ _ s} X ⟨_, _, I⟩ k => by
    obtain ⟨hh, gg, dd, tt, oo⟩ := s
    exact class_exc x G X I hc k
end
end LX
end
section
set_option maxRecDepth 100000
set_option maxHeartbeats 4000000
namespace LX
open PySem PySem.W
section
variable {prog : Program} {w : World} {A : Around} {E : Value → Shared → Prop} {h : Heap} {g : Array GenState} {d : Drawn} {t : Nat} {os : OsState} {K : Frag} {C CH ea : Addr} {cd : ClassData} {fs : Array Value} {sl : Array (Option Value)} {name : Str} {v : Value}

end
end LX
end
section
set_option maxRecDepth 100000
set_option maxHeartbeats 4000000
namespace LX
open PySem



section
variable {M : Model} {A : Around} {E : Value → Shared → Prop} {s : Shared} {base : Heap} {env : Env} {outer : List Env} {L e : Addr} {c : Value} {od : Option Addr} {fs : Array Value} {sl : Array (Option Value)}




/-- how an exception's traceback lies: none, or an entry that no frame holds -/
inductive Trail (h : Heap) (e : Addr) (fs : Array Value) : Option Addr → Prop where
  | none (h1 : fs[1]? = some .none) : Trail h e fs none
  | some {T : Addr} {oc : Value} {ts : Array Value} {d : Option Addr} {sl : Array (Option Value)} (h1 : fs[1]? = some (.ref T)) (ne : T ≠ e) (hT : h.get? T = some (excRec oc d ts sl)) (h3 : ts[3]? = some .none) : Trail h e fs (some T)



end
end LX
end
section
set_option Elab.async false
set_option linter.all false
set_option maxRecDepth 100000
set_option maxHeartbeats 4000000
namespace L2
open PySem PySem.Spec PyProof.Rows LX

/-! ### an exception as a tracked thing -/
/-- class C, the dict of its attributes at od; fresh: not raised yet -/
def ExP (fresh : Bool) (C e : Addr) (od : Option Addr) (h : Heap) : Prop := ∃ fs sl t0, h.get? e = some (excRec (.ref C) od fs sl) ∧ fs[0]? = some (.ref t0) ∧ (fresh = true → fs[1]? = some .none)
def exo (fresh : Bool) (C e : Addr) (od : Option Addr) : HO := .ext (ExP fresh C e od)
section
variable {P : Program} {w : World} {H : Hp} {h : Heap} {b : Bool} {C e : Addr} {od : Option Addr}
theorem exo_get (ok : HOk P w H h) (z : H e = some (exo b C e od)) : ExP b C e od h := (show ObjOk P w H h e (exo b C e od) from ok e _ z).1
end

/-! ### heaps that keep what is tracked -/
section
variable {P : Program} {w : World} {H H' : Hp} {h h' : Heap} {a : Addr}
theorem HOk.keeps (ok : HOk P w H h) (k : ∀ b u o, H b = some u → h.get? b = some o → h'.get? b = some o) : HOk P w H h' := fun b u q =>
  (ok b u q).stay (fun c v hc r => by
    rcases hc with rfl | hc
    · exact k c u v q r
    · exact k c _ v hc r) (fun _ z => z) fun _ _ z => z
end

/-! ### how an exception lies behind a call -/
structure Lies (P : Program) (w : World) (outer : List Env) (H H' : Hp) (s : Shared) (ea C T : Addr) (od : Option Addr) (fs : Array Value) (sl : Array (Option Value)) (s' : Shared) : Prop where
  os : s'.os = s.os
  bare : AllBare s'.gens
  un : Un (frs outer) [] H H' s.heap s'.heap
  hok : HOk P w H' s'.heap
  newE : s.heap.get? ea = none
  newT : s.heap.get? T = none
  freeE : H' ea = none
  freeT : H' T = none
  at_ : s'.heap.get? ea = some (excRec (.ref C) od fs sl)
  args : ∃ t0, fs[0]? = some (.ref t0)
  trail : Trail s'.heap ea fs (some T)
def CXE (P : Program) (w : World) : CXT := fun outer H s E e s' => ∃ ea C T od fs sl H', e = .ref ea ∧ Lies P w outer H H' s ea C T od fs sl s' ∧ E (.ref C) od H'

section
variable {X : Cx} {pins : List (Addr × Obj)} {σ : St} {H H' : Hp} {s s' : Shared} {ea C T : Addr} {od : Option Addr} {fs : Array Value} {sl : Array (Option Value)}
end
end L2
end
section
set_option Elab.async false
set_option linter.all false
set_option maxRecDepth 100000
set_option maxHeartbeats 4000000
namespace L2
open PySem PySem.Spec PyProof.Rows LX

/-! ### an exception passes a def's frame -/
section
variable {P : Program} {w : World} {K : PySem.W.Frag} {mg : Str → Option Value} {base : Heap} {N : List Str} {qual : Str} {scope : Scope} {f : Addr} {cdv : Value} {A : Around} {outer : List Env} {s₀ : Shared} {H₀ : Hp} {E₀ : XK}
abbrev cxE (P : Program) (w : World) (K : PySem.W.Frag) (mg : Str → Option Value) (base : Heap) (N : List Str) (qual : Str) (scope : Scope) (f : Addr) (cdv : Value) (A : Around) (outer : List Env) (s₀ : Shared) (H₀ : Hp) (E₀ : XK) : Cx :=
  cxOf (CXE P w) P w K mg base N qual scope f cdv A outer s₀ H₀ E₀


end
end L2
end
section
set_option Elab.async false
set_option linter.all false
set_option maxRecDepth 100000
set_option maxHeartbeats 4000000
namespace L2
open PySem PySem.Spec PyProof.Rows LX

/-! ### a def, with exceptions -/
theorem Fun.okE {P : Program} {w : World} {K : PySem.W.Frag} {mg : Str → Option Value} {base : Heap} {x qual : Str} {st : Stmt} {f : Addr} {fd : FuncData} {N ps : List Str} {k : Nat} {sp : Sp} (F : Fun K x qual st f fd) (S : FnScope N ps (defScope st)) (len : ∀ vs H Q E, sp vs H Q E → vs.length = ps.length)
    (hbody : ∀ (cdv : Value) (A : Around) (outer : List Env) (s : Shared) (H : Hp) (vs : List V) (Q : VK) (E : XK), Room k (A.deeper (envOfC qual (defScope st) s.heap.objs.size f cdv)) → sp vs H Q E →
      ∃ t, PSs (cxE P w K mg base N qual (defScope st) f cdv A outer s H E) (defBody st) t ∧ t { nx := fun _ H' => Q .non H', rt := Q } (start N vs) H) : FnOk P w K mg base (CXE P w) (k + 1) f fd ps sp := by
  obtain ⟨oc, od, kV, doc, pm, an, cdv, ct, osl, rfl, lk, hcd⟩ := F.ex
  exact fn_of lk hcd S len fun A outer s H vs Q E hr hsp => hbody cdv A outer s H vs Q E hr hsp

/-! ### raise -/
section
variable {X : Cx}

/-! ### calls whose exceptions this body wants, by the names' values at the call -/
def PassesX (CX : CXT) (X : Cx) (EK : St → XK) : Prop := ∀ (pins : List (Addr × Obj)) (σ : St) (H : Hp) (s : Shared) (e : Value) (s' : Shared), Inv X pins σ H s → CX X.stack H s (EK σ) e s' → X.xe e s'

def xCall (sp : Sp) (dvs : List V) (EK : St → XK) (t : TA) : TE := fun σ H Q => t σ H fun vs H1 => sp (vs ++ dvs) H1 Q (EK σ)

variable {CX : CXT} {k : Nat} {f C : Addr} {fd : FuncData} {ps : List Str} {sp : Sp} {dvs : List V} {ds : List Value} {EK : St → XK} {x m : Str} {p pos apos : Pos} {e o : Expr} {es : List Expr} {ta : TE} {t : TA}

theorem xrun {pins : List (Addr × Obj)} {σ : St} {H : Hp} {s : Shared} {Q : VK} {us : List Value} {vs : List V} (F : FnOk X.prog X.w X.K X.mg X.base CX k f fd ps sp) (hr : Room k X.A) (hb : Binds X.K fd ps ds) (hd : Vals dvs ds) (hx : PassesX CX X EK)
    (I : Inv X pins σ H s) (r : Vals vs us) (h : sp (vs ++ dvs) H Q (EK σ)) : wpAny (model X.prog X.w) X.A (call (.ref f) us) (EP X pins σ Q) X.xe s := by
  have r2 : Vals (vs ++ dvs) (us ++ ds) := r.append hd
  have hl : (us ++ ds).length = ps.length := by rw [← r2.length]; exact F.len _ _ _ _ h
  refine wpAny_call (codeAny_mono (F.run X.A X.stack s H ⟨us, []⟩ (us ++ ds) (vs ++ dvs) Q (EK σ) hr I.env0 (hb s us I.kIn hl) r2 h) fun r s' hq => ?_)
  cases r with
  | error e => exact hx pins σ H s e s' I hq
  | ok fl =>
    cases fl with
    | ret u => exact I.after hq
    | _ => exact False.elim hq
theorem xe_call (F : FnOk X.prog X.w X.K X.mg X.base CX k f fd ps sp) (hr : Room k X.A) (hg : Gl X x) (hm : X.mg x = some (.ref f)) (hk : PySem.W.keepIn X.K (.ref f) = true) (hb : Binds X.K fd ps ds) (hd : Vals dvs ds) (hx : PassesX CX X EK)
    (ha : PA X (e :: es) t) (hdb : (x == ("__debug__" : Str)) = false := by decide) (he : starEach (e :: es) X.env = (false, eval e X.env) :: starEach es X.env := by rfl) (hpl : (backTo pos (starEach es X.env)).any (·.1) = false := by rfl) :
    PE X (.Call (.Name x p) (e :: es) [] pos) (xCall sp dvs EK t) := by
  intro pins s σ H Q I h
  refine wpAny_Call_Name_kw (ld_glob I hg hm ?_ hdb)
  exact PySem.W.callWith_K (h₀ := X.base) I.ok.mod.kin hk (thn (ha pos pins s σ H _ I h) fun us s1 ⟨vs, H1, I1, r, q⟩ => ⟨I1.kIn, xrun F hr hb hd hx I1 r q⟩) he hpl

end
end L2
end
section
set_option Elab.async false
set_option linter.all false
set_option maxRecDepth 100000
set_option maxHeartbeats 4000000
namespace L2
open PySem PySem.Spec PyProof.Rows LX

section
variable {X : Cx}
/-! ### ValueError.__init__(self, ..) -/

/-! ### f-strings: some text -/

/-! ### isinstance, of exceptions too -/
inductive TyX (K : PySem.W.Frag) (H : Hp) : V → Value → Prop where
  | of {x : V} {t : Value} (h : TyOf K H x t) : TyX K H x t
  | exc {b : Bool} {a C : Addr} {od : Option Addr} {cd : ClassData} (e : H a = some (exo b C a od)) (hd : od = none ∨ ∃ dx fs, od = some dx ∧ H dx = some (.xd fs)) (x : XCls K C cd) (g : XGet K C)
      (hc : PySem.W.findIn K (.ref C) "__class__" = some (some (.builtin "object.__class__"))) : TyX K H (.ref a) (.ref C)
/-- a class as isinstance takes it -/
def clsV : V → Value
  | .ref a => .ref a
  | .ty n => .type n
  | _ => .none
theorem exo_inst {P : Program} {w : World} {H : Hp} {h : Heap} {b : Bool} {C a : Addr} {od : Option Addr} (ok : HOk P w H h) (e : H a = some (exo b C a od)) (hd : od = none ∨ ∃ dx fs, od = some dx ∧ H dx = some (.xd fs)) :
    ∃ ox o, PySem.W.InstAt h a ox C o := by
  obtain ⟨fs, sl, a0, z, _⟩ := exo_get ok e
  rcases hd with rfl | ⟨dx, gs, rfl, q⟩
  · exact ⟨_, _, inst_none z⟩
  · obtain ⟨mA, n, _⟩ := (show ObjOk P w H h dx (.xd gs) from ok dx _ q)
    obtain ⟨o, _, _, ho, _⟩ := n
    exact ⟨_, _, inst_some z ho⟩
def rIsiT (K : PySem.W.Frag) : List V → Hp → VK → Prop := fun vs H Q => ∃ x c t b, vs = [x, c] ∧ TyX K H x t ∧ (∃ n, c = .ty n) ∧ PySem.W.kitOne K t (clsV c) = some b ∧ Q (.bl b) H
theorem isi_any {pins : List (Addr × Obj)} {s : Shared} {σ : St} {H : Hp} {x : V} {u c t : Value} {b : Bool} {Q : VK} (I : Inv X pins σ H s) (rx : RelV x u) (ty : TyX X.K H x t) (e : PySem.W.kitOne X.K t c = some b) (q : Q (.bl b) H) :
    wpAny (model X.prog X.w) X.A (call (.builtin "isinstance") [u, c]) (EP X pins σ Q) X.xe s := by
  have fin : ∀ tk, EP X pins σ Q (.bool b) { s with toks := tk } := fun tk => ⟨.bl b, H, I.tok tk, rfl, q⟩
  cases ty with
  | of h => exact isinst_ok I rx h e fin
  | exc ea hd xc g hc =>
    cases (show u = Value.ref _ from rx)
    obtain ⟨ox, o, J⟩ := exo_inst I.hok ea hd
    exact PySem.W.kia_one (kit_exc xc g hc) I.kIn ⟨ox, o, J⟩ e (fun z => nomatch z) fin
theorem call_isiT : CallR X (.builtin "isinstance") (rIsiT X.K) := by
  rintro pins s σ H xs us Q I r ⟨x, c, t, b, rfl, ty, ⟨n, rfl⟩, e, q⟩
  obtain ⟨u, v, rfl, ru, rv⟩ := vals2 r
  cases (show v = Value.type n from rv)
  exact isi_any I ru ty e q

/-! ### e.m() of an exception -/
end
end L2
end
section
set_option Elab.async false
set_option linter.all false
set_option maxRecDepth 100000
set_option maxHeartbeats 4000000
namespace L2
open PySem PySem.Spec PyProof.Rows LX

/-! ### try: .. except C as n: .. -/
section
variable {X : Cx} {pins : List (Addr × Obj)} {σ : St} {H : Hp} {s : Shared} {E : Value → Shared → Prop} {ea : Addr}
end

section
variable {X : Cx}

end
end L2
end
section
set_option Elab.async false
set_option linter.all false
set_option maxRecDepth 100000
set_option maxHeartbeats 4000000
namespace L2
open PySem PySem.Spec PyProof.Rows LX

/-! ### lists: + of any two, count of flat items -/
section
variable {X : Cx}
end
/-! ### what is tracked stays -/
theorem Same.upd {H : Hp} {a : Addr} {o : HO} (h : H a = none) : Same H (L2.upd H a o) := fun b u q => by rw [upd_ne fun e => by rw [e, h] at q; cases q]; exact q

/-! ### the classes of errors that the text has, and HeapError.__init__ -/
theorem isi_readT {K : PySem.W.Frag} {i : Nat} {σ : St} {H : Hp} {Q : VK} {x : V} {D : String} {t : Value} {b : Bool} (h0 : σ[i]? = some (some x)) (ty : TyX K H x t) (hk : PySem.W.kitOne K t (.type D) = some b) (q : Q (.bl b) H) :
    tCB (rIsiT K) (tCons (tVar i) (tCons (tC (.ty D)) tNil)) σ H Q := ⟨x, h0, x, .ty D, t, b, rfl, ty, ⟨_, rfl⟩, hk, q⟩
/-- a built-in's name as a value -/
theorem pe_ty {X : Cx} {x : Str} {T : String} {pos : Pos} (hg : Gl X x) (hm : X.mg x = none) (hv : bootBuiltins x = some (.type T)) (hn : x ≠ "__name__" := by decide) (hd : (x == ("__debug__" : Str)) = false := by decide) : PE X (.Name x pos) (tC (.ty T)) :=
  fun _ _ _ H _ I h => ld_blt I hg hm hv ⟨.ty T, H, I, rfl, h⟩ hn hd
/-- no exception leaves: calls in a body under nox -/
theorem passN {P : Program} {w : World} {X : Cx} : PassesX (CXE P w) X.nox (fun _ _ _ _ => False) := fun _ _ _ _ _ _ _ ⟨_, _, _, _, _, _, _, _, _, q⟩ => q.elim
theorem noneE {P : Program} {w : World} {outer : List Env} {H : Hp} {s : Shared} {e : Value} {s' : Shared} (h : CXE P w outer H s (fun _ _ _ => False) e s') : False := by
  obtain ⟨_, _, _, _, _, _, _, _, _, q⟩ := h
  exact q
end L2
end
section
set_option Elab.async false
set_option linter.all false
set_option maxRecDepth 100000
set_option maxHeartbeats 4000000
namespace L2
open PySem PySem.Spec PyProof.Rows LX
/-! ### == of two lists of flat items, as long as one another -/
end L2
end
section
set_option Elab.async false
set_option linter.all false
set_option maxRecDepth 100000
set_option maxHeartbeats 4000000
namespace L2
open PySem PySem.Spec PyProof.Rows LX
/-! ### attributes of an exception -/
section
variable {X : Cx}
variable {o e value : Expr} {f : Str} {pos pos' : Pos} {ta tv : TE}

/-! ### C.f(..): a def of a class, called by the class's name -/

/-! ### e.m() of an exception, whichever its class -/

/-! ### a short text times a small number: some text -/
end
end L2
end
section
set_option Elab.async false
set_option linter.all false
set_option maxRecDepth 100000
set_option maxHeartbeats 4000000
namespace L2
open PySem PySem.Spec PyProof.Rows LX
/-! ### a list comprehension of one clause, its target a name, no test; nothing leaves it -/
theorem compLoop_any {prog : Program} {w : World} {A : Around} {R : Result → Shared → Prop} {s : Shared} {elt target iter : Expr} {scope : Scope} {pos : Pos} {it acc : Value} {env : Env} (I : Nat → Shared → Prop)
    (turn : ∀ n s, I n s → wpAny (model prog w) A (pyNext it) (fun r s₁ => match r with
      | none => R (.ok .next) s₁
      | some v => wpAny (model prog w) A (letOwnedTupleGo target it v) (fun _ s5 => wpAny (model prog w) A (assign target env v) (fun _ s₂ => wpAny (model prog w) A (eval elt env) (fun x s₃ =>
          wpAny (model prog w) A (call (.builtin "list.append") [acc, x]) (fun _ s₄ => ∃ m, m < n ∧ I m s₄) (notedBy (model prog w) A env fun e s' => R (.error e) s') s₃)
          (notedBy (model prog w) A env fun e s' => R (.error e) s') s₂) (notedBy (model prog w) A env fun e s' => R (.error e) s') s5) (notedBy (model prog w) A env fun e s' => R (.error e) s') s₁) (notedBy (model prog w) A env fun e s' => R (.error e) s') s)
    (n : Nat) (h : I n s) : codeAny (model prog w) A (.compLoop (.ListComp elt [⟨target, iter, [], 0⟩] scope pos) 0 it acc env) R s := by
  refine codeAny_loop rfl I (fun n s hI => ?_) n h
  show wpAny _ _ ((compTurn (.ListComp elt [⟨target, iter, [], 0⟩] scope pos) 0 it acc env).onRaise (fun x => do noteFrame x env; theTreesLotGoes x)) _ _ s
  refine wpAny_noted ?_
  rw [compTurn_list1]
  refine wpAny_bind (wpAny_standAt (wpAny_bind (wpAny_mono (turn n s hI) (fun r s₁ h₁ => ?_) fun _ _ h' => h')))
  cases r with
  | none => exact wpAny_pure h₁
  | some v =>
    refine wpAny_bind (wpAny_mono h₁ (fun _ s5 h5 => ?_) fun _ _ h' => h')
    exact wpAny_bind (wpAny_mono h5 (fun _ s₂ h₂ => wpAny_bind (wpAny_bind (wpAny_mono h₂ (fun x s₃ h₃ => wpAny_bind (wpAny_mono h₃
      (fun _ s₄ h₄ => wpAny_pure (wpAny_pure ⟨rfl, h₄⟩)) fun _ _ h' => h')) fun _ _ h' => h'))) fun _ _ h' => h')

/-- the block's context -/
abbrev cxC (X : Cx) (scope : Scope) (cl : List (Str × Addr)) (NC : List Str) (C : Addr) (fp : List Addr) (s₀ : Shared) (H₀ : Hp) : Cx :=
  { X with N := NC, s₀ := s₀, H₀ := H₀, env := compEnvC scope cl C X.env, outer := X.stack, ex := fp, fn := fun _ => false, pn := [], xe := fun _ _ => False }
def caps (σ : St) (idx : List Nat) : St := idx.map fun i => (σ[i]?).getD none
/-- what the block's scope has: its own name, and those of the def that it reads -/
structure CompOk (X : Cx) (scope : Scope) (cl : List (Str × Addr)) (x : Str) (idx : List Nat) (NC : List Str) : Prop where
  clos : closureFor scope X.env = pure cl
  sub : ∀ y c, cl.lookup y = some c → X.env.cells.lookup y = some c
  has : ∀ y, ((relabel scope X.env).names.lookup y = some .cell ∨ (relabel scope X.env).names.lookup y = some .free) → ∃ c, cl.lookup y = some c
  nocell : ∀ y ∈ scope.names, y.2 ≠ .cell
  kind : scope.kind = .function
  loc : ∀ y ∈ scope.names, y.2 = .local → scope.names.lookup y.1 = some .local
  xl : scope.names.lookup x = some .local
  nc : NC = x :: idx.map fun i => X.N.getD i x
  nd : NC.Nodup
  cap : ∀ i ∈ idx, i < X.N.length ∧ ((X.env.scope.names.lookup (X.N.getD i x) = some .cell ∨ X.env.scope.names.lookup (X.N.getD i x) = some .free) ∧ ((relabel scope X.env).names.lookup (X.N.getD i x) = some .cell ∨ (relabel scope X.env).names.lookup (X.N.getD i x) = some .free))
section
variable {X : Cx} {scope : Scope} {cl : List (Str × Addr)} {x : Str} {idx : List Nat} {NC : List Str} {C : Addr} {fp : List Addr} {pins : List (Addr × Obj)} {σ : St} {H : Hp} {s : Shared}
theorem inv_comp {h1 : Heap} {t' : Nat} (c : CompOk X scope cl x idx NC) (I : Inv X pins σ H s) (hf : ∀ b ∈ fp, FpOk X pins H b) (hlt : ∀ b ∈ fp, b < s.heap.objs.size) (ns : h1.Ns s.heap.objs.size (fun _ => none))
    (k : ∀ b o, s.heap.get? b = some o → h1.get? b = some o) : Inv (cxC X scope cl NC s.heap.objs.size fp s H) [] (none :: caps σ idx) H { s with heap := h1, toks := t' } := by
  have sub : ∀ b, b ∈ frs X.stack → b ∈ X.env.locals :: X.fs := I.stkSub
  refine ⟨⟨I.ok.mod, c.kind, I.ok.glob, I.ok.blt, Nat.le_refl _, fun y z a h1 h2 => I.ok.inj y z a (c.sub _ _ h1) (c.sub _ _ h2), c.has, fun y a z => (by cases z), I.ok.hd, I.ok.frames, .inl rfl, fun b hb => ⟨Nat.ne_of_lt (hlt b hb), fun y a q => (hf b hb).2.2.2.2.1 y a (c.sub _ _ q)⟩,
    fun b o q => I.bs b o q, Nat.le_trans I.ok.bsz I.sz, fun b o q hb => ?_, fun b hb z => ?_, I.stack, I.stkFree⟩, rfl, I.bare, Un.kept k, ⟨_, ns, fun i y v e1 e2 e3 => ?_⟩, fun y a q => ?_, I.hok.fresh (Nat.le_refl _), fun y a q => I.freeC _ _ (c.sub _ _ q), fun p hp => (by cases hp), I.hok.keeps fun b u o _ q => k b o q, ?_⟩
  · rcases (hf b hb).2.2.2.1 with z | z
    · exact I.ok.noex b o q z
    · exact absurd (Nat.lt_of_lt_of_le (Heap.lt_size (I.ok.bs b o q).1) z) (Nat.lt_irrefl _)
  · rcases List.mem_cons.mp (sub b z) with r | r
    · exact (hf b hb).2.1 r
    · exact (hf b hb).2.2.1 r
  · cases i with
    | zero => cases e2
    | succ j =>
      have e1' : (idx.map fun i => X.N.getD i x)[j]? = some y := by
        have : (cxC X scope cl NC s.heap.objs.size fp s H).N = NC := rfl
        rw [this, c.nc] at e1
        exact e1
      have e2' : (caps σ idx)[j]? = some (some v) := e2
      rw [List.getElem?_map] at e1'
      unfold caps at e2'
      rw [List.getElem?_map] at e2'
      cases ei : idx[j]? with
      | none => rw [ei] at e1'; cases e1'
      | some i =>
        rw [ei] at e1' e2'
        simp only [Option.map_some, Option.some.injEq] at e1' e2'
        obtain ⟨hi, h2, h3⟩ := c.cap i (List.mem_of_getElem? ei)
        rw [e1'] at h2 h3
        have hN : X.N[i]? = some y := by
          rw [← e1']
          simp [List.getD, List.getElem?_eq_getElem hi]
        have hσ : σ[i]? = some (some v) := by
          cases q : σ[i]? with
          | none => rw [q] at e2'; cases e2'
          | some o => rw [q] at e2'; simp only [Option.getD_some] at e2'; rw [e2']
        obtain ⟨m, hn, hl⟩ := I.loc
        obtain ⟨u, r, l⟩ := hl i y v hN hσ (h2.elim (fun z => .inr (.inl z)) fun z => .inr (.inr z))
        refine ⟨u, r, .inr ⟨h3, ?_⟩⟩
        rcases l with ⟨l, _⟩ | ⟨_, a, ha, hc⟩
        · exfalso
          have l' : X.env.scope.names.lookup y = some .local := l
          rcases h2 with z | z <;> (rw [l'] at z; cases z)
        · obtain ⟨a', ha'⟩ := c.has y h3
          have := c.sub _ _ ha'
          rw [ha] at this
          cases this
          exact ⟨a, ha', hc.keeps k⟩
  · obtain ⟨v, z⟩ := I.cell _ _ (c.sub _ _ q)
    exact ⟨v, z.keeps k⟩
  · show _ = NC.length
    rw [c.nc]
    simp [caps]
/-- the list at D grows by an item a turn -/
def CompTo (J : It) (D : Addr) (τ : St) (te : TE) (Q : VK) (H : Hp) : Prop := ∃ W : Nat → Nat → List V → Hp → Prop, (∃ m, W 0 m [] H) ∧ ∀ i m ys H2, W i m ys H2 → H2 D = some (.lst ys) ∧
  ((J.stop i H2 ∧ Q (.ref D) H2) ∨ (J.go i H2 ∧ ys.length < sizeLine ∧ ∃ N : List V → Hp → Prop, (∀ zs H', N zs H' → ∃ m', m' < m ∧ W (i + 1) m' zs H') ∧ ∀ y H3, J.yld i H2 y H3 → te (some y :: τ) H3 fun v H4 => H4 D = some (.lst ys) ∧ N (ys ++ [v]) (upd H4 D (.lst (ys ++ [v])))))
def tComp (wi : TI) (idx : List Nat) (te : TE) : TE := fun σ H Q => wi σ H fun J H1 => ∀ D, H1 D = none → CompTo J D (caps σ idx) te Q (upd H1 D (.lst []))
theorem appended {X : Cx} {pins : List (Addr × Obj)} {σ : St} {H : Hp} {s : Shared} {D : Addr} {ys : List V} {v : V} {u : Value} (I : Inv X pins σ H s) (h : H D = some (.lst ys)) (hz : ys.length < sizeLine) (r : RelV v u) :
    wpAny (model X.prog X.w) X.A (call (.builtin "list.append") [.ref D, u]) (fun _ s' => Inv X pins σ (upd H D (.lst (ys ++ [v]))) s') X.xe s := by
  refine thn (mt_append pins s σ H (.ref D) [v] (.ref D) [u] (fun _ H' => H' = upd H D (.lst (ys ++ [v]))) I rfl (.cons r .nil) ⟨D, ys, v, rfl, rfl, h, hz, rfl⟩) fun w s' ⟨_, H', I', _, e⟩ => ?_
  rw [← e]
  exact I'
theorem pe_comp {elt iter : Expr} {px pos : Pos} {wi : TI} {te : TE} (c : CompOk X scope cl x idx NC) (hc : X.calm = true) (hi : PI X (.Name x px) iter wi) (he : ∀ C fp s₀ H₀, PE (cxC X scope cl NC C fp s₀ H₀) elt te)
    (hs : ∀ x, foldedSetIterable iter X.env x = pure x := by intro _; rfl) : PE X (.ListComp elt [⟨.Name x px, iter, [], 0⟩] scope pos) (tComp wi idx te) := by
  intro pins s σ H Q I h
  rw [eval_ListComp]
  refine wpAny_comprehension_free (use := none) rfl hs c.clos c.kind c.loc (thn (hi pins s σ H _ I h) fun v s1 h1 => thn h1 fun itv s2 h2 => ?_)
  obtain ⟨it, fp, tn, J, H2, rfl, I2, T, st2, f2, q⟩ := h2
  refine wpAny_newObj_type (wpAny_newFunctionEnv c.nocell (by intro y hy; simp at hy) (fun h₁ hns₁ hsb₁ => ?_) c.kind)
  dsimp only at hns₁ hsb₁ ⊢
  have I3 : Inv X pins σ (upd H2 s2.heap.objs.size (.lst [])) { s2 with heap := s2.heap.push { cls := .type "list", data := .seq ([] : List Value).toArray }, toks := s2.toks } := I2.lnew (ys := []) (its := []) .nil (Nat.zero_le _)
  obtain ⟨W, ⟨m0, w0⟩, turn⟩ := q s2.heap.objs.size I2.fresh
  generalize hD : s2.heap.objs.size = D at *
  generalize hH : s2.heap.push { cls := .type "list", data := .seq ([] : List Value).toArray } = h3 at *
  have hlt2 : ∀ b ∈ fp, b < D := fun b hb => by
    obtain ⟨o, e, _⟩ := T.obj _ _ st2 b hb
    rw [← hD]
    exact Heap.lt_size e
  have hlt : ∀ b ∈ fp, b < h3.objs.size := fun b hb => by
    rw [← hH, Heap.size_push, hD]
    exact Nat.lt_succ_of_lt (hlt2 b hb)
  have hf : ∀ b ∈ fp, FpOk X pins (upd H2 D (.lst [])) b := fun b hb => ⟨by rw [upd_ne (Nat.ne_of_lt (hlt2 b hb))]; exact (f2 b hb).1, (f2 b hb).2⟩
  have kp : ∀ b o, h3.get? b = some o → h₁.get? b = some o := fun b o e => hsb₁.extBut b o (Nat.ne_of_lt (Heap.lt_size e)) (Heap.get?_push_of_some _ e)
  have I4 : Inv (cxC X scope cl NC h3.objs.size fp { s2 with heap := h3, toks := s2.toks } (upd H2 D (.lst []))) [] (none :: caps σ idx) (upd H2 D (.lst [])) { s2 with heap := h₁, toks := s2.toks + ([] : List (Str × Value)).length } :=
    inv_comp (s := { s2 with heap := h3, toks := s2.toks }) c I3 hf hlt hns₁ kp
  have stat : ∀ {H' : Hp}, (∀ b ∈ fp, H' b = none) → ∀ b ∈ fp, FpOk (cxC X scope cl NC h3.objs.size fp { s2 with heap := h3, toks := s2.toks } (upd H2 D (.lst []))) [] H' b := fun hn b hb =>
    ⟨hn b hb, Nat.ne_of_lt (hlt b hb), fun z => (List.mem_cons.mp (I3.stkSub b z)).elim (hf b hb).2.1 (hf b hb).2.2.1, .inl hb, fun y a q => (hf b hb).2.2.2.2.1 y a (c.sub _ _ q), fun p hp => (by cases hp)⟩
  have st1 : tn 0 h₁ := T.keep 0 _ _ st2 fun b hb o e => kp b o (by rw [← hH]; exact Heap.get?_push_of_some _ e)
  have loop : ∀ s4 : Shared, s4 = { s2 with heap := h₁, toks := s2.toks + ([] : List (Str × Value)).length } →
      codeAny (model X.prog X.w) X.A (.compLoop (.ListComp elt [⟨.Name x px, iter, [], 0⟩] scope pos) 0 (.ref it) (.ref D) (compEnvC scope cl h3.objs.size X.env)) (compPost (model X.prog X.w) X.A X.xe none (EP X pins σ Q) (.ref D) h3.objs.size) s4 := by
    rintro s4 rfl
    refine compLoop_any (fun n s' => ∃ i ys H' v0, Inv (cxC X scope cl NC h3.objs.size fp { s2 with heap := h3, toks := s2.toks } (upd H2 D (.lst []))) [] (v0 :: caps σ idx) H' s' ∧ tn i s'.heap ∧ (∀ b ∈ fp, H' b = none) ∧ W i n ys H')
      ?_ m0 ⟨0, [], _, none, I4, st1, fun b hb => (hf b hb).1, w0⟩
    rintro n s5 ⟨i, ys, H5, v0, I5, st5, fr5, w5⟩
    obtain ⟨hDl, alt⟩ := turn i n ys H5 w5
    rcases alt with ⟨stop, qn⟩ | ⟨go, hz, N, hN, step⟩
    · refine thn (T.done (cxC X scope cl NC h3.objs.size fp { s2 with heap := h3, toks := s2.toks } (upd H2 D (.lst []))) rfl rfl rfl hc i [] s5 _ H5 _ I5 (stat fr5) st5 stop) fun r s6 ⟨hr, I6⟩ => ?_
      subst hr
      obtain ⟨m, ns6, _⟩ := id I6.loc
      refine ⟨m, ns6, fun h' hs' => ⟨.ref D, H5, ?_, rfl, qn⟩⟩
      have J6 : Inv X pins σ H5 s6 := I3.call' (ch := fp) I6.os I6.base I6.hok I6.bare fun b hb => ⟨(hf b hb).2.2.2.1, (hf b hb).2.1, (hf b hb).2.2.2.2.1, (hf b hb).2.2.2.2.2⟩
      refine J6.turned (t' := s6.toks) (it := h3.objs.size) (fun b o hb e => hs'.extBut b o hb e) I6.free (Nat.ne_of_gt I3.lt) (.inr I3.sz) (fun y a q z => ?_) (fun p hp z => ?_)
      · obtain ⟨v, q'⟩ := I3.cell y a q
        exact absurd q'.lt (by rw [z]; exact Nat.lt_irrefl _)
      · exact absurd (Heap.lt_size (I3.pin p hp).1) (by rw [z]; exact Nat.lt_irrefl _)
    · refine thn (T.item (cxC X scope cl NC h3.objs.size fp { s2 with heap := h3, toks := s2.toks } (upd H2 D (.lst []))) rfl rfl rfl hc i [] s5 _ H5 _ I5 (stat fr5) st5 go) fun r s6 ⟨u, hr, h6⟩ => ?_
      subst hr
      refine thn h6 fun _ s7 ⟨y, H7, I7, r7, y7, st7, fr7⟩ => ?_
      have I7' := I7.pinned (stat fr7) (T.obj _ _ st7)
      have hnl : (relabel scope X.env).names.lookup x = some .local := lookup_relabel_local c.xl
      refine wpAny_mono (pg_name (X := cxC X scope cl NC h3.objs.size fp { s2 with heap := h3, toks := s2.toks } (upd H2 D (.lst []))) (i := 0) (x := x) (pos := px) c.nd (by show NC[0]? = some x; rw [c.nc]; rfl) (.inl hnl) (.inr hnl) _ s7 _ H7 y u
        (fun σ' H' => σ' = some y :: caps σ idx ∧ H' = H7) I7' r7 ⟨rfl, rfl⟩) (fun _ s8 ⟨σ8, H8, I8, e8, e8'⟩ => ?_) fun _ _ z => z.elim
      subst e8 e8'
      refine wpAny_mono (he _ _ _ _ _ s8 _ H8 _ I8 (step y H8 y7)) (fun w s9 ⟨v, H9, I9, r9, hD9, n9⟩ => ?_) fun _ _ z => z.elim
      obtain ⟨m', hm, w9⟩ := hN _ _ n9
      refine wpAny_mono (appended (X := (cxC X scope cl NC h3.objs.size fp { s2 with heap := h3, toks := s2.toks } (upd H2 D (.lst [])))) I9 hD9 hz r9) (fun _ s10 I10 => ?_) fun _ _ z => z.elim
      refine ⟨m', hm, i + 1, ys ++ [v], _, some y, I10.unpinned, T.keep _ _ _ st7 fun b hb o e => (I10.pin (b, o) (List.mem_append_right _ (List.mem_append_right _ (mem_pinsAt hb e)))).1, fun b hb => ?_, w9⟩
      obtain ⟨o, e, d⟩ := T.obj _ _ st7 b hb
      exact (I10.pin (b, o) (List.mem_append_right _ (List.mem_append_right _ (mem_pinsAt hb e)))).2.1
  exact codeAny_compStart_list (loop _ rfl) (T.self _ 0 _ _ _ st1 (loop _ rfl))
end
end L2
end
section
set_option Elab.async false
set_option linter.all false
set_option maxRecDepth 100000
set_option maxHeartbeats 4000000
namespace L2
open PySem PySem.Spec PyProof.Rows LX
section
variable {X : Cx}
/-! ### all of a list of bools -/
theorem bools_of : ∀ {bs : List Bool} {us : List Value}, Vals (bs.map V.bl) us → us = bs.map Value.bool
  | [], _, .nil => rfl
  | b :: r, _, .cons h t => by
    cases h
    rw [bools_of t]
    rfl
def rAll (K : PySem.W.Frag) : List V → Hp → VK → Prop := fun vs H Q => ∃ (p : Addr) (bs : List Bool), vs = [.ref p] ∧ SqL K H p (bs.map V.bl) ∧ Q (.bl (bs.all id)) H
theorem call_all (hc : X.calm = true) : CallR X (.builtin "all") (rAll X.K) := by
  rintro pins s σ H xs us Q I r ⟨p, bs, rfl, hq, q⟩
  obtain ⟨u, rfl, ru⟩ := r.one
  cases (show u = Value.ref p from ru)
  obtain ⟨its, rv, ⟨o, n, e1, e2, e3, e4⟩, hz⟩ := I.list hq
  have e := bools_of rv
  have hl : s.heap.IsList p (bs.map Value.bool).toArray := by
    rw [← e]
    exact ⟨o, e1, e2, n, e4⟩
  have hlt : p < s.heap.objs.size := Heap.lt_size e1
  refine call_all_walk (wpAny_pyIter_list hl ?_)
  refine ⟨s.heap.objs.size, [s.heap.objs.size, p], [s.heap.objs.size], (bs.map Value.bool).toArray.size, _, _, fun i => (bs[i]?).getD true, rfl, Walks.list (A := X.A.in1) (I.ok.hd hc) _ p (Nat.ne_of_lt hlt) _,
    ⟨⟨_, Heap.get?_push_size _ rfl, rfl, rfl⟩, hl.push _⟩, fun i v s' Q' E' hP hQ => ?_, fun h' tk hk => ?_⟩
  · simp only [List.getElem?_toArray, List.getElem?_map] at hP
    cases eb : bs[i]? with
    | none => rw [eb] at hP; cases hP
    | some b =>
      rw [eb] at hP
      cases hP
      simp only [eb, Option.getD_some] at hQ
      exact wpAny_truthy_bool hQ
  · have e : ((List.range (bs.map Value.bool).toArray.size).all fun i => (bs[i]?).getD true) = bs.all id := by
      rw [List.size_toArray, List.length_map]
      exact LSm.range_all bs
    rw [e]
    refine ⟨.bl _, H, I.kept (t' := tk) fun b x q => hk b x (fun hm => ?_) (Heap.get?_push_of_some _ q), rfl, q⟩
    rw [List.mem_singleton.mp hm] at q
    exact Nat.lt_irrefl _ (Heap.lt_size q)
/-! ### a comprehension with one test -/
variable {scope : Scope} {cl : List (Str × Addr)} {x : Str} {idx : List Nat} {NC : List Str} {C : Addr} {fp : List Addr} {pins : List (Addr × Obj)} {σ : St} {H : Hp} {s : Shared}
end
end L2
end
section
set_option Elab.async false
set_option linter.all false
set_option maxRecDepth 100000
set_option maxHeartbeats 4000000
namespace L2
open PySem PySem.Spec PyProof.Rows LX
/-! ### enumerate of a list, unpacked -/
def Ite (K : PySem.W.Frag) (a : Addr) : It :=
  ⟨fun i H => ∃ xs x, SqL K H a xs ∧ xs[i]? = some x, fun i H y H' => ∃ t x, H t = none ∧ y = .ref t ∧ (∀ xs, SqL K H a xs → xs[i]? = some x) ∧ H' = upd H t (.tup [.int (i : Int), x]), fun i H => ∃ xs, SqL K H a xs ∧ xs.length ≤ i⟩
theorem turn_enum {P : Program} {w : World} {K : PySem.W.Frag} {es : List Expr} {x1 : Nat} {pos : Pos} (a it e : Addr) (hne : e ≠ it) :
    Turn P w K (.Tuple es x1 pos) (Ite K a) [e, it] e (fun i h => ∃ old, IsEnum h e it i old ∧ h.IsListIter it a i) where
  mem := by simp
  obj := fun i h st b hb => by
    obtain ⟨old, h1, o, q, c, d⟩ := st
    rcases List.mem_cons.mp hb with z | z
    · rw [z]
      exact ⟨_, h1, fun v z => by
        have z' : Data.fields _ = Data.cell v := z
        cases z'⟩
    · rw [List.mem_singleton.mp z]
      exact ⟨o, q, fun v z => by rw [d] at z; cases z⟩
  keep := fun i h h' st k => by
    obtain ⟨old, h1, h2⟩ := st
    exact ⟨old, k e (by simp) _ h1, h2.at fun o q => k it (by simp) o q⟩
  item := by
    intro X hP hw hK hc i pins s σ H E I hf st hg
    subst hP hw hK
    obtain ⟨xs, x, hq, hx⟩ := hg
    obtain ⟨its, rv, p, hz⟩ := I.list hq
    obtain ⟨u, hu, ru⟩ := rv.get hx
    obtain ⟨old, he, hit⟩ := st
    have fr : H s.heap.objs.size = none := I.hok.fresh (Nat.le_refl _)
    refine wpAny_pyNext_enum_item he hit p.isList (x := u) (by simpa using hu) hne fun h1 heo hit1 ht1 hz1 hk1 => ⟨_, rfl, wpAny_letOwnedTupleGo_enum heo fun h2 he2 hs2 => ?_⟩
    replace hs2 : Heap.SameBut e h1 h2 := hs2
    have hel : e < s.heap.objs.size := Heap.lt_size he
    have k2 : ∀ b o, b ≠ e → b ≠ it → s.heap.get? b = some o → h2.get? b = some o := fun b o z1 z2 q => (hs2.2 b z1).trans (hk1 b o z1 z2 q)
    have ht2 : h2.get? s.heap.objs.size = some { cls := .type "tuple", data := .seq #[.int i s.toks, u] } := (hs2.2 _ (Nat.ne_of_gt hel)).trans ht1
    have hit2 : h2.IsListIter it a (i + 1) := hit1.extBut hs2.extBut (Ne.symm hne)
    have nt : ∀ b o, s.heap.get? b = some o → b ≠ s.heap.objs.size := fun b o q => Nat.ne_of_lt (Heap.lt_size q)
    have nh : ∀ b v, H b = some v → b ≠ s.heap.objs.size := fun b v q => ne_of_none q fr
    have ne' : ∀ b v, H b = some v → b ≠ e ∧ b ≠ it := fun b v q => ⟨ne_of_none q (hf e (by simp)).1, ne_of_none q (hf it (by simp)).1⟩
    refine ⟨.ref s.heap.objs.size, upd H s.heap.objs.size (.tup [.int (i : Int), x]), ?_, rfl, ⟨_, x, fr, rfl, fun ys hy => by rw [I.list_inj hy hq]; exact hx, rfl⟩, ⟨_, he2, hit2⟩, fun b hb => ?_⟩
    · refine Inv.step (s := s) (h' := h2) (t' := s.toks + 1) (H := H) (g' := s.gens) (d' := s.drawn) (ch := [e, it]) I (fun b hb => ⟨(hf b hb).2.2.2.1, (hf b hb).2.1, (hf b hb).2.2.2.2.1, (hf b hb).2.2.2.2.2⟩)
        (fun b o _ _ z q _ => k2 b o (fun y => z (by simp [y])) (fun y => z (by simp [y])) q) (fun b o _ _ z q _ => ⟨o.slots, k2 b o (fun y => z (by simp [y])) (fun y => z (by simp [y])) q⟩)
        (fun b o _ q n => by rw [upd_ne (nt b o q)]; exact n) (fun b o z q => ⟨o, k2 b o (fun y => z (by simp [y])) (fun y => z (by simp [y])) q⟩)
        (fun b xs q => by rw [upd_ne (nh b _ q)]; exact q) (fun b o v q => by rw [upd_ne (nh b _ q)]; exact q) (fun b ps q => ⟨#[], by rw [upd_ne (nh b _ q), q]; simp⟩) (fun m hm => ?_) (fun b v q => ?_) I.bare
      · obtain ⟨o, es', ep, ho, r⟩ := hm
        exact ⟨o, es', ep, k2 _ o (Ne.symm (hf e (by simp)).2.1) (Ne.symm (hf it (by simp)).2.1) ho, r⟩
      · by_cases z : b = s.heap.objs.size
        · subst z
          rw [upd_same] at q
          cases q
          exact ⟨by show 2 ≤ sizeLine; decide, [.int i s.toks, u], .cons ⟨_, rfl⟩ (.cons ru .nil), _, ht2, rfl, _, rfl⟩
        · rw [upd_ne z] at q
          refine (I.hok b v q).stay (fun c o hc w => ?_) (fun c w => by rw [upd_ne (nh c _ w)]; exact w) fun c xs w => by rw [upd_ne (nh c _ w)]; exact w
          rcases hc with y | y
          · rw [y] at w ⊢
            exact k2 b o (ne' b v q).1 (ne' b v q).2 w
          · exact k2 c o (ne' c _ y).1 (ne' c _ y).2 w
    · have hb' : b < s.heap.objs.size := by
        rcases List.mem_cons.mp hb with z | z
        · rw [z]; exact hel
        · rw [List.mem_singleton.mp z]
          obtain ⟨o, q, _⟩ := hit
          exact Heap.lt_size q
      rw [upd_ne (Nat.ne_of_lt hb')]
      exact (hf b hb).1
  done := by
    intro X hP hw hK hc i pins s σ H E I hf st hg
    subst hP hw hK
    obtain ⟨xs, hq, hx⟩ := hg
    obtain ⟨its, rv, p, hz⟩ := I.list hq
    obtain ⟨f0, f1, f2, f3, f4, f5⟩ := hf it (by simp)
    have hl := rv.length
    obtain ⟨old, he, hit⟩ := st
    exact wpAny_pyNext_enum_end (I.ok.hd hc) he hit p.isList (by simp; omega) fun h' eb => ⟨rfl, I.turned (t' := s.toks) (fun b o hb q => eb b o hb q) f0 f1 f3 f4 f5⟩
  self := fun A i s Q E st h => by
    obtain ⟨old, he, hit⟩ := st
    exact wpAny_pyIter_enum he h
section
variable {X : Cx} {es : List Expr} {x1 : Nat} {tp : Pos}
def iEnum (K : PySem.W.Frag) (ta : TA) : TI := fun σ H R => ta σ H fun vs H1 => ∃ a, vs = [.ref a] ∧ (∃ xs, SqL K H1 a xs) ∧ R (Ite K a) H1
theorem pi_enum {a : Expr} {ta : TA} {p pos : Pos} (hg : Gl X "enumerate") (hm : X.mg "enumerate" = none) (ha : PA X [a] ta) (hs : starEach [a] X.env = [(false, eval a X.env)] := by rfl) : PI X (.Tuple es x1 tp) (.Call (.Name "enumerate" p) [a] [] pos) (iEnum X.K ta) := by
  intro pins s σ H R I h
  refine Call_ (ld_blt I hg hm PyProof.Rows.Boot.«enumerate» (PyProof.Rows.callWith_type1 (thn (ha pos pins s σ H _ I h) fun us s1 ⟨vs, H1, I1, r1, q1⟩ => ?_) hs rfl))
  obtain ⟨l, e, ⟨xs, hq⟩, q⟩ := q1
  subst e
  cases r1 with
  | cons r rr =>
    cases rr
    cases r
    obtain ⟨its, rv, pl, hz⟩ := I1.list hq
    refine call_enumerate_list pl.isList fun h' he hit hsz hk => ?_
    refine wpAny_pyIter_enum he ?_
    refine ⟨s1.heap.objs.size + 1, [s1.heap.objs.size + 1, s1.heap.objs.size], _, _, H1, rfl, I1.kept (t' := s1.toks) hk, turn_enum l s1.heap.objs.size (s1.heap.objs.size + 1) (Nat.succ_ne_self _), ⟨_, he, hit⟩, fun b hb => ?_, q⟩
    have hb' : s1.heap.objs.size ≤ b := by
      rcases List.mem_cons.mp hb with z | z
      · rw [z]; exact Nat.le_succ _
      · rw [List.mem_singleton.mp z]
        exact Nat.le_refl _
    exact I1.fpOk hb' (I1.hok.fresh hb')
end
/-- over a list that the body leaves as it is, by pairs -/
theorem for_enum {K : PySem.W.Frag} {a : Addr} {xs : List V} {g : TG} {tb : TS} {D : Ends} {σ : St} {H : Hp} (Pv : Nat → St → Hp → Prop) (h0 : Pv 0 σ H) (hl : ∀ i σ H, i ≤ xs.length → Pv i σ H → SqL K H a xs)
    (hs : ∀ i x σ H t, xs[i]? = some x → Pv i σ H → H t = none → g (.ref t) σ (upd H t (.tup [.int (i : Int), x])) fun σ2 H2 => tb { D with nx := Pv (i + 1), ct := Pv (i + 1), bk := D.nx } σ2 H2) (hd : ∀ σ H, Pv xs.length σ H → D.nx σ H) :
    ∃ W : Nat → Nat → St → Hp → Prop, (∃ m, W 0 m σ H) ∧ ∀ i m σ H, W i m σ H →
      ((Ite K a).stop i H ∧ D.nx σ H) ∨ ((Ite K a).go i H ∧ ∃ N : St → Hp → Prop, (∀ σ' H', N σ' H' → ∃ m', m' < m ∧ W (i + 1) m' σ' H') ∧ ∀ x H', (Ite K a).yld i H x H' → g x σ H' fun σ2 H2 => tb { D with nx := N, ct := N, bk := D.nx } σ2 H2) := by
  refine ⟨fun i m σ H => m = xs.length - i ∧ i ≤ xs.length ∧ Pv i σ H, ⟨xs.length, by simp, Nat.zero_le _, h0⟩, ?_⟩
  rintro i m σ H ⟨rfl, hi, p⟩
  by_cases hlt : i < xs.length
  · refine .inr ⟨⟨xs, xs[i], hl i σ H hi p, List.getElem?_eq_getElem hlt⟩, Pv (i + 1), fun σ' H' p' => ⟨xs.length - (i + 1), by omega, rfl, hlt, p'⟩, fun x H' y => ?_⟩
    obtain ⟨t, v, e1, e2, e3, e4⟩ := y
    subst e2 e4
    exact hs i v σ H t (e3 xs (hl i σ H hi p)) p e1
  · have e : i = xs.length := by omega
    subst e
    exact .inl ⟨⟨xs, hl _ σ H hi p, Nat.le_refl _⟩, hd σ H p⟩
end L2
namespace L2
open PySem
theorem comp_range {lo : Int} {n : Nat} {te : TE} {Q : VK} {D : Addr} {τ : St} {H : Hp} (Pv : Nat → List V → Hp → Prop) (h0 : Pv 0 [] H) (hD : ∀ i ys H, i ≤ n → Pv i ys H → H D = some (.lst ys) ∧ ys.length = i) (hn : n ≤ sizeLine)
    (hs : ∀ i ys H, i < n → Pv i ys H → te (some (.int (lo + i)) :: τ) H fun v H4 => H4 D = some (.lst ys) ∧ Pv (i + 1) (ys ++ [v]) (upd H4 D (.lst (ys ++ [v])))) (hd : ∀ ys H, Pv n ys H → Q (.ref D) H) : CompTo (Itr lo n) D τ te Q H := by
  refine ⟨fun i m ys H => m = n - i ∧ i ≤ n ∧ Pv i ys H, ⟨n, by simp, Nat.zero_le _, h0⟩, ?_⟩
  rintro i m ys H2 ⟨rfl, hi, p⟩
  obtain ⟨hd1, hd2⟩ := hD i ys H2 hi p
  refine ⟨hd1, ?_⟩
  by_cases hlt : i < n
  · refine .inr ⟨hlt, by omega, Pv (i + 1), fun zs H' p' => ⟨n - (i + 1), by omega, rfl, hlt, p'⟩, fun y H3 e => ?_⟩
    obtain ⟨e1, e2⟩ := e
    subst e1 e2
    exact hs i ys _ hlt p
  · have e : i = n := by omega
    subst e
    exact .inl ⟨Nat.le_refl _, hd ys H2 p⟩
theorem comp_list {K : PySem.W.Frag} {a : Addr} {xs : List V} {te : TE} {Q : VK} {D : Addr} {τ : St} {H : Hp} (Pv : Nat → List V → Hp → Prop) (h0 : Pv 0 [] H) (hD : ∀ i ys H, i ≤ xs.length → Pv i ys H → H D = some (.lst ys) ∧ ys.length = i) (hl : ∀ i ys H, i ≤ xs.length → Pv i ys H → SqL K H a xs) (hn : xs.length ≤ sizeLine)
    (hs : ∀ i x ys H, xs[i]? = some x → Pv i ys H → te (some x :: τ) H fun v H4 => H4 D = some (.lst ys) ∧ Pv (i + 1) (ys ++ [v]) (upd H4 D (.lst (ys ++ [v])))) (hd : ∀ ys H, Pv xs.length ys H → Q (.ref D) H) : CompTo (Itl K a) D τ te Q H := by
  refine ⟨fun i m ys H => m = xs.length - i ∧ i ≤ xs.length ∧ Pv i ys H, ⟨xs.length, by simp, Nat.zero_le _, h0⟩, ?_⟩
  rintro i m ys H2 ⟨rfl, hi, p⟩
  obtain ⟨hd1, hd2⟩ := hD i ys H2 hi p
  refine ⟨hd1, ?_⟩
  by_cases hlt : i < xs.length
  · refine .inr ⟨⟨xs, xs[i], hl i ys H2 hi p, List.getElem?_eq_getElem hlt⟩, by omega, Pv (i + 1), fun zs H' p' => ⟨xs.length - (i + 1), by omega, rfl, hlt, p'⟩, fun y H3 e => ?_⟩
    obtain ⟨e1, e2⟩ := e
    subst e1
    exact hs i y ys _ (e2 xs (hl i ys _ hi p)) p
  · have e : i = xs.length := by omega
    subst e
    exact .inl ⟨⟨xs, hl _ ys H2 hi p, Nat.le_refl _⟩, hd ys H2 p⟩
end L2
end
section
set_option Elab.async false
set_option linter.all false
set_option maxRecDepth 100000
set_option maxHeartbeats 4000000
namespace L2
open PySem PySem.Spec PyProof.Rows LX
/-! ### CompOk by what can be looked up -/
def relN (sc : Scope) (names : List (Str × NameKind)) : List (Str × NameKind) := names.map fun (n, k) => if (k == .free && sc.kind == .function && sc.names.lookup n == some .cell) then (n, .cell) else (n, k)
def CompP (sc scope : Scope) (x : Str) (ns N : List Str) (idx : List Nat) : Prop :=
  (∀ y ∈ scope.names, y.2 ≠ .cell) ∧ (∀ y ∈ scope.names, y.2 = .local → scope.names.lookup y.1 = some .local) ∧ scope.names.lookup x = some .local ∧ (∀ p ∈ relN sc scope.names, p.2 = .cell ∨ p.2 = .free → p.1 ∈ ns) ∧ (x :: idx.map fun i => N.getD i x).Nodup ∧
  ∀ i ∈ idx, i < N.length ∧ ((sc.names.lookup (N.getD i x) = some .cell ∨ sc.names.lookup (N.getD i x) = some .free) ∧ ((relN sc scope.names).lookup (N.getD i x) = some .cell ∨ (relN sc scope.names).lookup (N.getD i x) = some .free))
instance (sc scope : Scope) (x : Str) (ns N : List Str) (idx : List Nat) : Decidable (CompP sc scope x ns N idx) := by unfold CompP; infer_instance
theorem some_of_mem {y : Str} : ∀ {cl : List (Str × Addr)}, y ∈ cl.map (·.1) → ∃ c, cl.lookup y = some c
  | [], h => by simp at h
  | (n, c) :: r, h => by
    by_cases e : y = n
    · exact ⟨c, by simp [List.lookup, e]⟩
    · have h' : y ∈ r.map (·.1) := by
        rw [List.map_cons] at h
        rcases List.mem_cons.mp h with z | z
        · exact absurd z e
        · exact z
      obtain ⟨c', q⟩ := some_of_mem h'
      have hb : (y == n) = false := beq_eq_false_iff_ne.mpr e
      exact ⟨c', by simp only [List.lookup, hb]; exact q⟩
theorem comp_ok {X : Cx} {sc scope : Scope} {cl : List (Str × Addr)} {x : Str} {ns N : List Str} {idx : List Nat} (hsc : X.env.scope = sc) (hN : X.N = N) (hk : scope.kind = .function) (p : CompP sc scope x ns N idx) (hn : cl.map (·.1) = ns)
    (hclos : closureFor scope X.env = pure cl) (hsub : ∀ q ∈ cl, X.env.cells.lookup q.1 = some q.2) : CompOk X scope cl x idx (x :: idx.map fun i => N.getD i x) := by
  obtain ⟨p1, p2, p3, p4, p5, p6⟩ := p
  have re : (relabel scope X.env).names = relN sc scope.names := by subst hsc; rfl
  subst hsc hN hn
  refine ⟨hclos, fun y c q => hsub (y, c) (PySem.mem_of_lookup q), fun y h => ?_, p1, hk, p2, p3, rfl, p5, fun i hi => ?_⟩
  · rw [re] at h
    refine some_of_mem ?_
    rcases h with h | h
    · exact p4 (y, .cell) (PySem.mem_of_lookup h) (.inl rfl)
    · exact p4 (y, .free) (PySem.mem_of_lookup h) (.inr rfl)
  · rw [re]
    exact p6 i hi
/-- a call out of which nothing comes -/
theorem passF {P : Program} {w : World} {X : Cx} : PassesX (CXE P w) X (fun _ _ _ _ => False) := fun _ _ _ _ _ _ _ ⟨_, _, _, _, _, _, _, _, _, q⟩ => q.elim
end L2
end
section
set_option Elab.async false
set_option linter.all false
set_option maxRecDepth 100000
set_option maxHeartbeats 4000000
namespace L2
open PySem PySem.Spec PyProof.Rows LX
section
variable {X : Cx} {scope : Scope} {cl : List (Str × Addr)} {x : Str} {idx : List Nat} {NC : List Str} {pins : List (Addr × Obj)} {σ : St} {H : Hp} {s : Shared}
/-! ### name = [comprehension]: the store comes ahead of the going of the block's names -/
theorem ps_comp {i : Nat} {y : Str} {elt iter : Expr} {px py pos spos : Pos} {wi : TI} {te : TE} (hN : X.N.Nodup) (hi' : X.N[i]? = some y) (hx : X.env.scope.names.lookup y = some .local) (c : CompOk X scope cl x idx NC) (hc : X.calm = true) (hi : PI X (.Name x px) iter wi)
    (he : ∀ C fp s₀ H₀, PE (cxC X scope cl NC C fp s₀ H₀) elt te) (hsw : swapsWith (.ListComp elt [⟨.Name x px, iter, [], 0⟩] scope pos) (some (.Name y py)) spos.line X.env = pure true := by rfl)
    (hs : ∀ x, foldedSetIterable iter X.env x = pure x := by intro _; rfl) : PS X (.Assign [.Name y py] (.ListComp elt [⟨.Name x px, iter, [], 0⟩] scope pos) spos) (tAsg (tComp wi idx te) (gName i)) := by
  intro pins s σ H D0 I h
  rw [exec_Assign_Name_used _ _ _ _ hsw]
  refine wpAny_bind (wpAny_standAt (wpAny_bind ?_))
  show wpAny _ _ (do let _ ← comprehension (.ListComp elt [⟨.Name x px, iter, [], 0⟩] scope pos) scope X.env _ (newList []) false (eval iter X.env) (some (assign (.Name y py) X.env))) _ _ s
  refine wpAny_bind (wpAny_mono (wpAny_comprehension_free (use := some (assign (.Name y py) X.env)) (Q := fun _ s' => SP X pins D0 .next s') rfl hs c.clos c.kind c.loc
    (thn (hi pins s σ H _ I h) fun v s1 h1 => thn h1 fun itv s2 h2 => ?_)) (fun _ s' hq => wpAny_pure (wpAny_pure hq)) fun _ _ e => e)
  obtain ⟨it, fp, tn, J, H2, rfl, I2, T, st2, f2, q⟩ := h2
  refine wpAny_newObj_type (wpAny_newFunctionEnv c.nocell (by intro y hy; simp at hy) (fun h₁ hns₁ hsb₁ => ?_) c.kind)
  dsimp only at hns₁ hsb₁ ⊢
  have I3 : Inv X pins σ (upd H2 s2.heap.objs.size (.lst [])) { s2 with heap := s2.heap.push { cls := .type "list", data := .seq ([] : List Value).toArray }, toks := s2.toks } := I2.lnew (ys := []) (its := []) .nil (Nat.zero_le _)
  obtain ⟨W, ⟨m0, w0⟩, turn⟩ := q s2.heap.objs.size I2.fresh
  generalize hD : s2.heap.objs.size = D at *
  generalize hH : s2.heap.push { cls := .type "list", data := .seq ([] : List Value).toArray } = h3 at *
  have hlt2 : ∀ b ∈ fp, b < D := fun b hb => by
    obtain ⟨o, e, _⟩ := T.obj _ _ st2 b hb
    rw [← hD]
    exact Heap.lt_size e
  have hlt : ∀ b ∈ fp, b < h3.objs.size := fun b hb => by
    rw [← hH, Heap.size_push, hD]
    exact Nat.lt_succ_of_lt (hlt2 b hb)
  have hf : ∀ b ∈ fp, FpOk X pins (upd H2 D (.lst [])) b := fun b hb => ⟨by rw [upd_ne (Nat.ne_of_lt (hlt2 b hb))]; exact (f2 b hb).1, (f2 b hb).2⟩
  have kp : ∀ b o, h3.get? b = some o → h₁.get? b = some o := fun b o e => hsb₁.extBut b o (Nat.ne_of_lt (Heap.lt_size e)) (Heap.get?_push_of_some _ e)
  have I4 : Inv (cxC X scope cl NC h3.objs.size fp { s2 with heap := h3, toks := s2.toks } (upd H2 D (.lst []))) [] (none :: caps σ idx) (upd H2 D (.lst [])) { s2 with heap := h₁, toks := s2.toks + ([] : List (Str × Value)).length } :=
    inv_comp (s := { s2 with heap := h3, toks := s2.toks }) c I3 hf hlt hns₁ kp
  have stat : ∀ {H' : Hp}, (∀ b ∈ fp, H' b = none) → ∀ b ∈ fp, FpOk (cxC X scope cl NC h3.objs.size fp { s2 with heap := h3, toks := s2.toks } (upd H2 D (.lst []))) [] H' b := fun hn b hb =>
    ⟨hn b hb, Nat.ne_of_lt (hlt b hb), fun z => (List.mem_cons.mp (I3.stkSub b z)).elim (hf b hb).2.1 (hf b hb).2.2.1, .inl hb, fun y a q => (hf b hb).2.2.2.2.1 y a (c.sub _ _ q), fun p hp => (by cases hp)⟩
  have st1 : tn 0 h₁ := T.keep 0 _ _ st2 fun b hb o e => kp b o (by rw [← hH]; exact Heap.get?_push_of_some _ e)
  have loop : ∀ s4 : Shared, s4 = { s2 with heap := h₁, toks := s2.toks + ([] : List (Str × Value)).length } →
      codeAny (model X.prog X.w) X.A (.compLoop (.ListComp elt [⟨.Name x px, iter, [], 0⟩] scope pos) 0 (.ref it) (.ref D) (compEnvC scope cl h3.objs.size X.env)) (compPost (model X.prog X.w) X.A X.xe (some (assign (.Name y py) X.env)) (fun _ s' => SP X pins D0 .next s') (.ref D) h3.objs.size) s4 := by
    rintro s4 rfl
    refine compLoop_any (fun n s' => ∃ i ys H' v0, Inv (cxC X scope cl NC h3.objs.size fp { s2 with heap := h3, toks := s2.toks } (upd H2 D (.lst []))) [] (v0 :: caps σ idx) H' s' ∧ tn i s'.heap ∧ (∀ b ∈ fp, H' b = none) ∧ W i n ys H')
      ?_ m0 ⟨0, [], _, none, I4, st1, fun b hb => (hf b hb).1, w0⟩
    rintro n s5 ⟨i5, ys, H5, v0, I5, st5, fr5, w5⟩
    obtain ⟨hDl, alt⟩ := turn i5 n ys H5 w5
    rcases alt with ⟨stop, qn⟩ | ⟨go, hz, N, hN', step⟩
    · refine thn (T.done (cxC X scope cl NC h3.objs.size fp { s2 with heap := h3, toks := s2.toks } (upd H2 D (.lst []))) rfl rfl rfl hc i5 [] s5 _ H5 _ I5 (stat fr5) st5 stop) fun r s6 ⟨hr, I6⟩ => ?_
      subst hr
      obtain ⟨m, ns6, _⟩ := id I6.loc
      have J6 : Inv X pins σ H5 s6 := I3.call' (ch := fp) I6.os I6.base I6.hok I6.bare fun b hb => ⟨(hf b hb).2.2.2.1, (hf b hb).2.1, (hf b hb).2.2.2.2.1, (hf b hb).2.2.2.2.2⟩
      have fC : FpOk X pins H5 h3.objs.size := I3.fpOk (Nat.le_refl _) I6.free
      obtain ⟨o, es, ep, ho, rr⟩ := ns6
      have od : ∀ v, o.data ≠ .cell v := fun v z => by
        rw [rr.1] at z
        cases z
      show wpAny _ _ (assign (.Name y py) X.env (.ref D)) (fun _ s'' => ∃ m, s''.heap.Ns h3.objs.size m ∧ ∀ h', Heap.SameBut h3.objs.size s''.heap h' → SP X pins D0 .next { s'' with heap := h' }) X.xe s6
      have J7 := J6.pinned (fp := [h3.objs.size]) (fun b hb => by rw [List.mem_singleton.mp hb]; exact fC) (fun b hb => by rw [List.mem_singleton.mp hb]; exact ⟨o, ho, od⟩)
      refine wpAny_mono (pg_name (pos := py) hN hi' (.inl hx) (.inr hx) _ s6 _ H5 (.ref D) (.ref D) D0.nx J7 rfl qn) (fun _ s7 ⟨σ7, H7, I7, q7⟩ => ?_) (fun _ _ z => z)
      have pC := I7.pin (h3.objs.size, o) (List.mem_append_right _ (List.mem_append_right _ (mem_pinsAt (List.mem_singleton.mpr rfl) ho)))
      refine ⟨m, ⟨o, es, ep, pC.1, rr⟩, fun h' hs' => ⟨σ7, H7, ?_, q7⟩⟩
      exact I7.unpinned.turned (t' := s7.toks) (it := h3.objs.size) (fun b o hb e => hs'.extBut b o hb e) pC.2.1 fC.2.1 fC.2.2.2.1 fC.2.2.2.2.1 fC.2.2.2.2.2
    · refine thn (T.item (cxC X scope cl NC h3.objs.size fp { s2 with heap := h3, toks := s2.toks } (upd H2 D (.lst []))) rfl rfl rfl hc i5 [] s5 _ H5 _ I5 (stat fr5) st5 go) fun r s6 ⟨u, hr, h6⟩ => ?_
      subst hr
      refine thn h6 fun _ s7 ⟨y, H7, I7, r7, y7, st7, fr7⟩ => ?_
      have I7' := I7.pinned (stat fr7) (T.obj _ _ st7)
      have hnl : (relabel scope X.env).names.lookup x = some .local := lookup_relabel_local c.xl
      refine wpAny_mono (pg_name (X := cxC X scope cl NC h3.objs.size fp { s2 with heap := h3, toks := s2.toks } (upd H2 D (.lst []))) (i := 0) (x := x) (pos := px) c.nd (by show NC[0]? = some x; rw [c.nc]; rfl) (.inl hnl) (.inr hnl) _ s7 _ H7 y u
        (fun σ' H' => σ' = some y :: caps σ idx ∧ H' = H7) I7' r7 ⟨rfl, rfl⟩) (fun _ s8 ⟨σ8, H8, I8, e8, e8'⟩ => ?_) fun _ _ z => z.elim
      subst e8 e8'
      refine wpAny_mono (he _ _ _ _ _ s8 _ H8 _ I8 (step y H8 y7)) (fun w s9 ⟨v, H9, I9, r9, hD9, n9⟩ => ?_) fun _ _ z => z.elim
      obtain ⟨m', hm, w9⟩ := hN' _ _ n9
      refine wpAny_mono (appended (X := (cxC X scope cl NC h3.objs.size fp { s2 with heap := h3, toks := s2.toks } (upd H2 D (.lst [])))) I9 hD9 hz r9) (fun _ s10 I10 => ?_) fun _ _ z => z.elim
      refine ⟨m', hm, i5 + 1, ys ++ [v], _, some y, I10.unpinned, T.keep _ _ _ st7 fun b hb o e => (I10.pin (b, o) (List.mem_append_right _ (List.mem_append_right _ (mem_pinsAt hb e)))).1, fun b hb => ?_, w9⟩
      obtain ⟨o, e, d⟩ := T.obj _ _ st7 b hb
      exact (I10.pin (b, o) (List.mem_append_right _ (List.mem_append_right _ (mem_pinsAt hb e)))).2.1
  exact codeAny_compStart_list (loop _ rfl) (T.self _ 0 _ _ _ st1 (loop _ rfl))
/-! ### != of two lists of flat items, as long as one another -/
/-! ### sum of a list of numbers -/
/-! ### isinstance with a tuple of classes -/
end
end L2
end
section
set_option Elab.async false
set_option linter.all false
set_option maxRecDepth 100000
set_option maxHeartbeats 4000000
namespace L2
open PySem PySem.Spec PyProof.Rows LX
/-! ### sorted(x) of a list of numbers, of a dict whose keys are numbers -/
theorem ints_by : ∀ {us : List Value} {ks : List Int}, us.length = ks.length → (∀ (j : Nat) (v : Value), us[j]? = some v → ∃ t, v = Value.int (ks.getD j 0) t) → IntsAre us ks
  | [], [], _, _ => .nil
  | [], _ :: _, h, _ => by simp at h
  | _ :: _, [], h, _ => by simp at h
  | u :: us, k :: ks, h, f => by
    obtain ⟨t, e⟩ := f 0 u rfl
    subst e
    exact .cons k t (ints_by (by simpa using h) fun j v q => f (j + 1) v q)
section
variable {X : Cx}
theorem dict_ints {P : Program} {w : World} {vs : List (Key × Value)} {ks : List Int} {acc : Array Value} (hk : vs.map (·.1) = ks.map Sum.inl) (ha : acc.size = vs.length) (h : ∀ (j : Nat) (v : Value), acc[j]? = some v → ∃ k x, vs[j]? = some (k, x) ∧ (mixKind P w).is k v = true) : IntsAre acc.toList ks := by
  have hl : vs.length = ks.length := by
    have := congrArg List.length hk
    simpa using this
  refine ints_by (by rw [Array.length_toList]; omega) fun j v e => ?_
  obtain ⟨k, x, h1, h2⟩ := h j v (by rw [← Array.getElem?_toList]; exact e)
  have h3 : (vs.map (·.1))[j]? = some k := by rw [List.getElem?_map, h1]; rfl
  rw [hk, List.getElem?_map] at h3
  obtain ⟨i, hi, rfl⟩ := Option.map_eq_some_iff.mp h3
  have h4 : keyIs (.inl i) v = true := h2
  rcases keyIs_shape h4 with ⟨i', t, e1, e2⟩ | ⟨y, t, e1, _⟩
  · injection e1 with e1
    subst e1
    exact ⟨t, by rw [e2]; simp [List.getD, hi]⟩
  · cases e1
end
/-! ### ==, != of things that are the same through and through -/
inductive Deep (K : PySem.W.Frag) (H : Hp) : Nat → V → V → Prop
  | flat {n : Nat} {x : V} : flatV x = true → Deep K H n x x
  | lst {n : Nat} {a b : Addr} {xs ys : List V} : SqL K H a xs → SqL K H b ys → xs.length = ys.length → (∀ j (h1 : j < xs.length) (h2 : j < ys.length), Deep K H n xs[j] ys[j]) → Deep K H (n + 1) (.ref a) (.ref b)
  | tup {n : Nat} {a b : Addr} {xs ys : List V} : SqT K H a xs → SqT K H b ys → xs.length = ys.length → (∀ j (h1 : j < xs.length) (h2 : j < ys.length), Deep K H n xs[j] ys[j]) → Deep K H (n + 1) (.ref a) (.ref b)
theorem eqV_id {v : V} (h : flatV v = true) : eqV v v = true := by
  cases v with
  | non => rfl
  | bl b => cases b <;> rfl
  | int n => simp [eqV]
  | str z => simp [eqV]
  | _ => exact absurd (show false = true from h) Bool.false_ne_true
theorem all_true (l : List Nat) : (l.all fun _ => true) = true := List.all_eq_true.mpr fun _ _ => rfl
theorem Deep.eqAt {X : Cx} {pins : List (Addr × Obj)} {σ : St} {H : Hp} {s : Shared} (I : Inv X pins σ H s) {n : Nat} {x y : V} (d : Deep X.K H n x y) : ∀ {A : Around} {u v : Value}, RelV x u → RelV y v → A.units + n < cLine → SeqAt.EqAt A s u v true := by
  induction d with
  | flat h =>
    intro A u v rx ry hu
    have := eqAt_V (A := A) (s := s) rx ry h h
    rw [eqV_id h] at this
    exact this
  | @lst n a b xs ys ha hb hl hd ih =>
    intro A u v rx ry hu
    cases rx
    cases ry
    by_cases e : a = b
    · subst e
      exact SeqAt.EqAt.same _
    · refine SeqAt.EqAt.of_refs e ?_
      obtain ⟨vs, r1, ⟨o1, n1, e1, c1, _, g1⟩, _⟩ := I.list ha
      obtain ⟨ws, r2, ⟨o2, n2, e2, c2, _, g2⟩, _⟩ := I.list hb
      have l1 := r1.length
      have l2 := r2.length
      have := SeqAt.RcAt.lists (A := A) (s := s) (e := fun _ => true) ⟨o1, e1, c1, n1, g1⟩ ⟨o2, e2, c2, n2, g2⟩ (by simp only [List.size_toArray]; omega) (by omega) (fun j h1 h2 => by
        simp only [List.size_toArray] at h1 h2
        obtain ⟨w1, z1, rz1⟩ := r1.get (i := j) (x := xs[j]'(by omega)) (List.getElem?_eq_getElem (by omega))
        obtain ⟨w2, z2, rz2⟩ := r2.get (i := j) (x := ys[j]'(by omega)) (List.getElem?_eq_getElem (by omega))
        have a1 : vs.toArray[j] = w1 := by
          have := (List.getElem?_eq_some_iff.mp z1).2
          simpa using this
        have a2 : ws.toArray[j] = w2 := by
          have := (List.getElem?_eq_some_iff.mp z2).2
          simpa using this
        rw [a1, a2]
        exact ih j (by omega) (by omega) rz1 rz2 (by rw [Around.in1_units]; omega))
      rw [all_true] at this
      exact this
  | @tup n a b xs ys ha hb hl hd ih =>
    intro A u v rx ry hu
    cases rx
    cases ry
    by_cases e : a = b
    · subst e
      exact SeqAt.EqAt.same _
    · refine SeqAt.EqAt.of_refs e ?_
      obtain ⟨vs, r1, t1, _⟩ := I.tuple ha
      obtain ⟨ws, r2, t2, _⟩ := I.tuple hb
      have l1 := r1.length
      have l2 := r2.length
      have hs : vs.length = ws.length := by omega
      have := SeqAt.RcAt.tuples (A := A) (s := s) (e := fun _ => true) t1 t2 (by omega) (fun j h1 h2 => by
        simp only [List.size_toArray] at h1 h2
        obtain ⟨w1, z1, rz1⟩ := r1.get (i := j) (x := xs[j]'(by omega)) (List.getElem?_eq_getElem (by omega))
        obtain ⟨w2, z2, rz2⟩ := r2.get (i := j) (x := ys[j]'(by omega)) (List.getElem?_eq_getElem (by omega))
        have a1 : vs.toArray[j] = w1 := by
          have := (List.getElem?_eq_some_iff.mp z1).2
          simpa using this
        have a2 : ws.toArray[j] = w2 := by
          have := (List.getElem?_eq_some_iff.mp z2).2
          simpa using this
        rw [a1, a2]
        exact ih j (by omega) (by omega) rz1 rz2 (by rw [Around.in1_units]; omega))
      rw [all_true] at this
      simpa [hs] using this
def rNeD (K : PySem.W.Frag) (n : Nat) : R2 := fun x y H Q => ∃ a b xs ys, x = .ref a ∧ y = .ref b ∧ SqL K H a xs ∧ SqL K H b ys ∧ xs.length = ys.length ∧ (∀ j (h1 : j < xs.length) (h2 : j < ys.length), Deep K H n xs[j] ys[j]) ∧ Q (.bl false) H
section
variable {X : Cx}
theorem op_neD {n : Nat} (hu : X.A.units + n + 1 < cLine) : OpR X (compareOp .NotEq) (rNeD X.K n) := by
  rintro pins s σ H x y v u Q I rx ry ⟨a, b, xs, ys, rfl, rfl, ha, hb, hl, hd, q⟩
  cases rx
  cases ry
  obtain ⟨vs, r1, ⟨o1, n1, e1, c1, _, g1⟩, _⟩ := I.list ha
  obtain ⟨ws, r2, ⟨o2, n2, e2, c2, _, g2⟩, _⟩ := I.list hb
  have l1 := r1.length
  have l2 := r2.length
  refine SeqAt.RcNeAt.lists (e := fun _ => true) ⟨o1, e1, c1, n1, g1⟩ ⟨o2, e2, c2, n2, g2⟩ (by simp only [List.size_toArray]; omega) (by omega) (fun j h1 h2 => ?_) _ _ _ _ ⟨.bl false, H, I, by simp [RelV], q⟩
  simp only [List.size_toArray] at h1 h2
  obtain ⟨w1, z1, rz1⟩ := r1.get (i := j) (x := xs[j]'(by omega)) (List.getElem?_eq_getElem (by omega))
  obtain ⟨w2, z2, rz2⟩ := r2.get (i := j) (x := ys[j]'(by omega)) (List.getElem?_eq_getElem (by omega))
  have a1 : vs.toArray[j] = w1 := by
    have := (List.getElem?_eq_some_iff.mp z1).2
    simpa using this
  have a2 : ws.toArray[j] = w2 := by
    have := (List.getElem?_eq_some_iff.mp z2).2
    simpa using this
  rw [a1, a2]
  exact (hd j (by omega) (by omega)).eqAt I rz1 rz2 (by rw [Around.in1_units]; omega)
end
end L2
end
section
set_option Elab.async false
set_option linter.all false
set_option maxRecDepth 100000
set_option maxHeartbeats 4000000
namespace L2
open PySem PySem.Spec PyProof.Rows LX
section
variable {X : Cx} {tg : Expr}
/-! ### range(a, b, c), c a written positive number -/
end
end L2
end
section
set_option Elab.async false
set_option linter.all false
set_option maxRecDepth 100000
set_option maxHeartbeats 4000000
namespace L2
open PySem PySem.Spec PyProof.Rows LX
section
variable {X : Cx} {scope : Scope} {cl : List (Str × Addr)} {x : Str} {idx : List Nat} {NC : List Str} {pins : List (Addr × Obj)} {σ : St} {H : Hp} {s : Shared}
/-! ### name = [comprehension with one test] -/
end
/-! ### a comprehension with a test over a range -/
end L2
end
section
set_option Elab.async false
set_option linter.all false
set_option maxRecDepth 100000
set_option maxHeartbeats 4000000
namespace L2
open PySem PySem.Spec PyProof.Rows LX
/-! ### a set's table: its places rise -/
/-! ### orders -/
end L2
end
section
set_option Elab.async false
set_option linter.all false
set_option maxRecDepth 100000
set_option maxHeartbeats 4000000
namespace L2
open PySem PySem.Spec PyProof.Rows LX
section
variable {P : Program} {w : World} {A : Around} {E : Value → Shared → Prop} {s : Shared} {a : Addr} {S : Int → Bool} {n : Nat}
end
end L2
end
section
set_option Elab.async false
set_option linter.all false
set_option maxRecDepth 100000
set_option maxHeartbeats 4000000
namespace L2
open PySem PySem.Spec PyProof.Rows LX
section
variable {P : Program} {w : World} {A : Around} {R : Result → Shared → Prop} {I : Addr} {fp wr : List Addr} {G : Array GenState → Array GenState → Prop} {n : Nat} {p : Nat → Value → Prop} {St : Nat → Shared → Prop}
end
section
variable {P : Program} {w : World} {A : Around} {E : Value → Shared → Prop} {s : Shared}
end
end L2
end
section
set_option Elab.async false
set_option linter.all false
set_option maxRecDepth 100000
set_option maxHeartbeats 4000000
namespace L2
open PySem PySem.Spec PyProof.Rows LX
/-! ### what the library has of a set's iterator -/
section
variable {P : Program} {w : World} {A : Around} {E : Value → Shared → Prop} {s : Shared} {it a : Addr} {first : Value} {i n ep : Nat}
/-- StopIteration flies -/
theorem stop_flies {α : Type} {Q : α → Shared → Prop} (hh : A.handled = none) (q : ∀ h' e, (∀ b o, s.heap.get? b = some o → h'.get? b = some o) → (∃ o, h'.get? e = some o ∧ o.cls = .type "StopIteration") → E (.ref e) { s with heap := h' }) :
    wpAny (model P w) A (newExc (.type "StopIteration") [] >>= fun e => (raiseNew e : Sem α)) Q E s := by
  refine wpAny_bind ?_
  simp only [newExc, newTuple]
  refine wpAny_bind (wpAny_newObj_type ?_ (by size_fits))
  refine wpAny_bind (m := firstArgMember _ _) (wpAny_of_eq (a := Value.none) (by first | rfl | (simp only [firstArgMember]; rfl)) (wpAny_newObj_type ?_ (by size_fits)))
  simp only [raiseNew]
  refine wpAny_bind (wpAny_handled ?_)
  rw [hh]
  exact wpAny_bind (wpAny_pure (wpAny_throw (q _ _ (fun b o e => Heap.get?_push_of_some _ (Heap.get?_push_of_some _ e)) ⟨_, Heap.get?_push_size _ rfl, rfl⟩)))
end
end L2
end
section
set_option Elab.async false
set_option linter.all false
set_option maxRecDepth 100000
set_option maxHeartbeats 4000000
namespace L2
open PySem PySem.Spec PyProof.Rows LX
section
variable {P : Program} {w : World} {A : Around} {E : Value → Shared → Prop} {s : Shared} {it a : Addr} {first : Value} {i n ep : Nat} {es : Array (Int × Value)} {t : SetTable}
end
section
variable {P : Program} {w : World} {A : Around} {E : Value → Shared → Prop} {s : Shared} {I a : Addr} {ep : Nat} {es : Array (Int × Value)} {t : SetTable} {sl : Nat → Nat} {vs : List Value}
/-! the drawn way: the places lie in a tuple -/
end
end L2
end
section
set_option Elab.async false
set_option linter.all false
set_option maxRecDepth 100000
set_option maxHeartbeats 4000000
namespace L2
open PySem PySem.Spec PyProof.Rows LX PySem.W
section
variable {P : Program} {w : World} {A : Around} {E : Value → Shared → Prop} {s : Shared} {a : Addr} {ep : Nat} {es : Array (Int × Value)} {t : SetTable}
end
end L2
end
section
set_option Elab.async false
set_option linter.all false
set_option maxRecDepth 100000
set_option maxHeartbeats 4000000
namespace L2
open PySem PySem.Spec PyProof.Rows LX PySem.W
section
variable {P : Program} {w : World} {A : Around} {E : Value → Shared → Prop} {s : Shared} {a : Addr} {ep : Nat} {es : Array (Int × Value)} {t : SetTable}
end
end L2
end
section
set_option Elab.async false
set_option linter.all false
set_option maxRecDepth 100000
set_option maxHeartbeats 4000000
namespace L2
open PySem PySem.Spec PyProof.Rows LX PySem.W
/-! ### numbers without doubles -/
theorem nodup_len : ∀ {l m : List Int}, l.Nodup → (∀ k ∈ l, k ∈ m) → l.length ≤ m.length
  | [], m, _, _ => Nat.zero_le _
  | x :: l, m, h, s => by
    have hx : x ∈ m := s x (.head _)
    have hl := List.nodup_cons.mp h
    have := nodup_len (l := l) (m := m.erase x) hl.2 fun k hk => (List.mem_erase_of_ne fun e => hl.1 (by rw [← e]; exact hk)).mpr (s k (.tail _ hk))
    rw [List.length_erase_of_mem hx] at this
    have : 0 < m.length := List.length_pos_of_mem hx
    simp only [List.length_cons]
    omega
/-! ### set(l), sorted(s) -/
section
variable {X : Cx}
end
end L2
end
section
set_option Elab.async false
set_option linter.all false
set_option maxRecDepth 100000
set_option maxHeartbeats 4000000
namespace L2
open PySem PySem.Spec PyProof.Rows LX
section
variable {X : Cx} {pins : List (Addr × Obj)} {σ : St} {H : Hp} {s : Shared} {d : Addr} {kvs : List (Key × V)}
/-! ### a dict that is read only from here on -/
theorem Inv.frozen (I : Inv X pins σ H s) (hd : H d = some (.dK kvs)) : ∃ o, Inv X pins σ (upd H d (.frz o (.dK kvs))) s := by
  obtain ⟨hz, h0, vs, rel, o, es, ep, ho, r⟩ := dk_of I.hok hd
  have nn : ∀ {b : Addr}, H b = none → upd H d (.frz o (.dK kvs)) b = none := fun {b} q => by
    rw [upd_ne fun z => by rw [z, hd] at q; cases q]
    exact q
  have ns : ∀ {b : Addr} {u : HO}, H b = some u → u ≠ .dK kvs → upd H d (.frz o (.dK kvs)) b = some u := fun {b u} q n => by
    rw [upd_ne fun z => n (by rw [z, hd] at q; exact (Option.some.inj q).symm)]
    exact q
  refine ⟨o, I.ok, I.os, I.bare, ⟨I.base.keep, I.base.slot, fun b ob q n e => nn (I.base.free b ob q n e), I.base.there, fun b xs q => ns (I.base.tups b xs q) (by intro z; cases z), fun b ob u q => ns (I.base.frzs b ob u q) (by intro z; cases z), fun b ps q => ?_⟩, I.loc, I.cell, nn I.free, fun x c q => nn (I.freeC x c q), fun p hp => ?_, fun a u q => ?_, I.len⟩
  · obtain ⟨more, q'⟩ := I.base.tbls b ps q
    exact ⟨more, ns q' (by intro z; cases z)⟩
  · obtain ⟨p1, p2, p3⟩ := I.pin p hp
    exact ⟨p1, nn p2, p3⟩
  · have st : ∀ {a : Addr} {u : HO}, ObjOk X.prog X.w H s.heap a u → ObjOk X.prog X.w (upd H d (.frz o (.dK kvs))) s.heap a u := fun x => x.stay (fun _ _ _ z => z) (fun b z => ns z (by intro y; cases y)) fun b xs z => ns z (by intro y; cases y)
    by_cases e : a = d
    · subst e
      rw [upd_same] at q
      cases q
      exact ⟨ho, st (I.hok a _ hd)⟩
    · rw [upd_ne e] at q
      exact st (I.hok a u q)
/-- an expression's value, and a dict frozen after it -/
def tFrz (te : TE) : TE := fun σ H Q => te σ H fun v H1 => ∃ d kvs, H1 d = some (.dK kvs) ∧ ∀ o, Q v (upd H1 d (.frz o (.dK kvs)))
theorem pe_frz {e : Expr} {te : TE} (h : PE X e te) : PE X e (tFrz te) := by
  intro pins s σ H Q I t
  refine wpAny_mono (h pins s σ H _ I t) (fun u s1 ⟨v, H1, I1, r, q⟩ => ?_) fun _ _ z => z
  obtain ⟨d, kvs, hd, q⟩ := q
  obtain ⟨o, I2⟩ := I1.frozen hd
  exact ⟨v, _, I2, r, q o⟩
/-! ### for k in d -/
def Itd (d : Addr) (o : Obj) (kvs : List (Key × V)) : It :=
  ⟨fun i H => H d = some (.frz o (.dK kvs)) ∧ i < kvs.length, fun i H x H' => H' = H ∧ ∃ p, kvs[i]? = some p ∧ x = kV p.1, fun i H => H d = some (.frz o (.dK kvs)) ∧ kvs.length ≤ i⟩
theorem kV_rel {P : Program} {w : World} {k : Key} {u : Value} (h : (mixKind P w).is k u = true) : RelV (kV k) u := by
  have h4 : keyIs k u = true := h
  rcases keyIs_shape h4 with ⟨i, t, e1, e2⟩ | ⟨y, t, e1, e2⟩
  · subst e1 e2
    exact ⟨t, rfl⟩
  · subst e1 e2
    exact ⟨t, rfl⟩
theorem frz_at {o : Obj} (I : Inv X pins σ H s) (hd : H d = some (.frz o (.dK kvs))) {es : Array DictEntry} {ep : Nat} (eo : o.data = .dict es ep) : kvs.length ≤ sizeLine ∧ (d == sysModules) = false ∧ ∃ vs, KV kvs vs ∧ s.heap.DictAt (mixKind X.prog X.w) d vs ep := by
  obtain ⟨ho, hz, h0, vs, rel, o', es', ep', ho', c1, c2, c3⟩ := (show ObjOk X.prog X.w H s.heap d (.frz o (.dK kvs)) from I.hok d _ hd)
  have e : o' = o := Option.some.inj (ho'.symm.trans ho)
  subst e
  rw [eo] at c2
  injection c2 with e1 e2
  subst e1 e2
  exact ⟨hz, h0, vs, rel, o', es, ho', c1, eo, c3⟩
theorem frz_data {o : Obj} (I : Inv X pins σ H s) (hd : H d = some (.frz o (.dK kvs))) : ∃ es ep, o.data = .dict es ep := by
  obtain ⟨ho, hz, h0, vs, rel, o', es', ep', ho', c1, c2, c3⟩ := (show ObjOk X.prog X.w H s.heap d (.frz o (.dK kvs)) from I.hok d _ hd)
  have e : o' = o := Option.some.inj (ho'.symm.trans ho)
  subst e
  exact ⟨es', ep', c2⟩
theorem kv_get : ∀ {kvs : List (Key × V)} {vs : List (Key × Value)}, KV kvs vs → ∀ {i : Nat} {p : Key × V}, kvs[i]? = some p → ∃ x, vs[i]? = some (p.1, x)
  | _, _, .nil, _, _, h => by simp at h
  | (k, v) :: _, (k', x) :: _, .cons a r, 0, p, h => by
    have h1 : (k, v) = p := by simpa using h
    subst h1
    obtain ⟨e, _⟩ := a
    have e' : k = k' := e
    subst e'
    exact ⟨x, rfl⟩
  | _ :: _, _ :: _, .cons _ r, i + 1, p, h => by
    have := kv_get r (i := i) (p := p) (by simpa using h)
    simpa using this
theorem turn_dict {P : Program} {w : World} {K : PySem.W.Frag} {tg : Expr} (d it : Addr) (o : Obj) (kvs : List (Key × V)) (ne : d ≠ it) : Turn P w K tg (Itd d o kvs) [it] it (fun i h => ∃ es ep, o.data = .dict es ep ∧ h.IsKeyIter it d i kvs.length ep) where
  mem := by simp
  obj := fun i h st b hb => by
    have e : b = it := by simpa using hb
    subst e
    obtain ⟨es, ep, _, o, e, c, d⟩ := st
    exact ⟨o, e, fun v z => by rw [d] at z; cases z⟩
  keep := fun i h h' ⟨es, ep, eo, st⟩ k => ⟨es, ep, eo, st.at fun o e => k it (by simp) o e⟩
  item := by
    rintro X hP hw hK hc i pins s σ H E I hf ⟨es, ep, eo, st⟩ ⟨hd, hi⟩
    subst hP hw hK
    obtain ⟨hz, h0, vs, rel, hat⟩ := frz_at I hd eo
    have hl := rel.length
    obtain ⟨x, hx⟩ := kv_get rel (List.getElem?_eq_getElem hi)
    obtain ⟨f0, f1, f2, f3, f4, f5⟩ := hf it (by simp)
    rw [hl] at st
    refine wpAny_pyNext_dict_item st hat hx fun key h' hk st' sb => ?_
    have I1 : Inv X pins σ H { s with heap := h' } := I.turned (t' := s.toks) (fun b o hb e => (sb.2 b hb).trans e) f0 f1 f3 f4 f5
    exact ⟨key, rfl, letGo_keyiter (s' := { s with heap := h' }) st' ⟨kV (kvs[i]'hi).1, H, I1, kV_rel hk, ⟨rfl, _, List.getElem?_eq_getElem hi, rfl⟩, ⟨es, ep, eo, by rw [hl]; exact st'⟩, fun b hb => (hf b hb).1⟩⟩
  done := by
    rintro X hP hw hK hc i pins s σ H E I hf ⟨es, ep, eo, st⟩ ⟨hd, hi⟩
    subst hP hw hK
    obtain ⟨hz, h0, vs, rel, hat⟩ := frz_at I hd eo
    have hl := rel.length
    obtain ⟨f0, f1, f2, f3, f4, f5⟩ := hf it (by simp)
    rw [hl] at st
    exact wpAny_pyNext_dict_end (I.ok.hd hc) st hat (List.getElem?_eq_none (by omega)) fun h' eb => ⟨rfl, I.turned (t' := s.toks) (fun b o hb e => eb b o hb e) f0 f1 f3 f4 f5⟩
  self := fun _ _ _ _ _ ⟨_, _, _, st⟩ h => wpAny_pyIter_keyiter st h
def iDict (td : TE) : TI := fun σ H R => td σ H fun x H1 => ∃ d o kvs, x = .ref d ∧ H1 d = some (.frz o (.dK kvs)) ∧ R (Itd d o kvs) H1
theorem pi_dict {tg l : Expr} {tl : TE} (hl : PE X l tl) : PI X tg l (iDict tl) := by
  intro pins s σ H R I h
  refine thn (hl pins s σ H _ I h) fun v s1 ⟨x, H1, I1, r1, q1⟩ => ?_
  obtain ⟨d, o, kvs, e, hd, q⟩ := q1
  subst e
  cases r1
  obtain ⟨es, ep, eo⟩ := frz_data I1 hd
  obtain ⟨hz, h0, vs, rel, hat⟩ := frz_at I1 hd eo
  have hl := rel.length
  refine wpAny_pyIter_dict h0 hat ?_
  rw [← hl]
  refine ⟨s1.heap.objs.size, [s1.heap.objs.size], _, _, H1, rfl, I1.kept (t' := s1.toks) fun b o e => Heap.get?_push_of_some _ e, turn_dict d _ o kvs (Nat.ne_of_lt hat.lt_size), ⟨es, ep, eo, _, Heap.get?_push_size _ rfl, rfl, rfl⟩, fun b hb => ?_, q⟩
  have e : b = s1.heap.objs.size := by simpa using hb
  subst e
  exact I1.fpOk (Nat.le_refl _) (I1.hok.fresh (Nat.le_refl _))
end
/-- over a dict -/
theorem for_dict {d : Addr} {o : Obj} {kvs : List (Key × V)} {g : TG} {tb : TS} {D : Ends} {σ : St} {H : Hp} (Pv : Nat → St → Hp → Prop) (h0 : Pv 0 σ H) (hl : ∀ i σ H, i ≤ kvs.length → Pv i σ H → H d = some (.frz o (.dK kvs)))
    (hs : ∀ i p σ H, kvs[i]? = some p → Pv i σ H → g (kV p.1) σ H fun σ2 H2 => tb { D with nx := Pv (i + 1), ct := Pv (i + 1), bk := D.nx } σ2 H2) (hd : ∀ σ H, Pv kvs.length σ H → D.nx σ H) :
    ∃ W : Nat → Nat → St → Hp → Prop, (∃ m, W 0 m σ H) ∧ ∀ i m σ H, W i m σ H →
      ((Itd d o kvs).stop i H ∧ D.nx σ H) ∨ ((Itd d o kvs).go i H ∧ ∃ N : St → Hp → Prop, (∀ σ' H', N σ' H' → ∃ m', m' < m ∧ W (i + 1) m' σ' H') ∧ ∀ x H', (Itd d o kvs).yld i H x H' → g x σ H' fun σ2 H2 => tb { D with nx := N, ct := N, bk := D.nx } σ2 H2) := by
  refine ⟨fun i m σ H => m = kvs.length - i ∧ i ≤ kvs.length ∧ Pv i σ H, ⟨kvs.length, by simp, Nat.zero_le _, h0⟩, ?_⟩
  rintro i m σ H ⟨rfl, hi, p⟩
  by_cases hlt : i < kvs.length
  · refine .inr ⟨⟨hl i σ H hi p, hlt⟩, Pv (i + 1), fun σ' H' p' => ⟨kvs.length - (i + 1), by omega, rfl, hlt, p'⟩, fun x H' y => ?_⟩
    obtain ⟨e1, q, e2, e3⟩ := y
    subst e1 e3
    exact hs i q σ _ e2 p
  · have e : i = kvs.length := by omega
    subst e
    exact .inl ⟨⟨hl _ σ H hi p, Nat.le_refl _⟩, hd σ H p⟩
section
variable {X : Cx}
/-! ### len(d), sorted(d) -/
theorem call_lenR : CallR X (.builtin "len") (fun xs H Q => ∃ a kvs, xs = [V.ref a] ∧ Rd H a (.dK kvs) ∧ Q (.int kvs.length) H) := by
  rintro pins s σ H xs us Q I r ⟨a, kvs, rfl, e, q⟩
  obtain ⟨u, rfl, ru⟩ := r.one
  cases (show u = Value.ref a from ru)
  exact d_len I e fun t s' I' => ⟨.int kvs.length, H, I', ⟨t, rfl⟩, q⟩
def rSortR : List V → Hp → VK → Prop := fun vs H Q => ∃ (p : Addr) (kvs : List (Key × V)) (ks : List Int), vs = [.ref p] ∧ Rd H p (.dK kvs) ∧ kvs.map (·.1) = ks.map Sum.inl ∧ ks.length < 64 ∧
  ∀ (l : Addr) (ns' : List Int), H l = none → ns'.Perm ks → ns'.Pairwise (· ≤ ·) → Q (.ref l) (upd H l (.lst (ns'.map V.int)))
theorem call_sortedR (hc : X.calm = true) : CallR X (.builtin "sorted") rSortR := by
  rintro pins s σ H xs us Q I r ⟨p, kvs, ks, rfl, hp, hk, h64, q⟩
  obtain ⟨u, rfl, ru⟩ := r.one
  cases (show u = Value.ref p from ru)
  obtain ⟨hz, hd, vs, rel, dd⟩ := dk_rd I.hok hp
  obtain ⟨ep, hat⟩ := dd.dictAt
  have hh := I.ok.hd hc
  have hl : ks.length = kvs.length := by
    have := congrArg List.length hk
    simpa using this.symm
  refine Calls.call_function_entry kind_sorted plain_sorted entry_sorted (args_sorted1 _) ?_
  unfold Builtin.«sorted»
  refine wpAny_bind (m := checkCount "sorted" 1 1 _) (wpAny_pure ?_)
  refine wpAny_bind (PySem.W.kdu_collect (A := X.A.in1) (PySem.W.kdl_dict (knd := mixKind X.prog X.w) (kvs := vs) (ep := ep) hd) hh hat (by rw [← rel.length]; exact hz) fun h' tk acc hkp hacc => ?_)
  have hI : IntsAre acc.toList ks := dict_ints (by rw [← rel.keys]; exact hk) hacc.1 hacc.2
  have hlen := hI.length
  have I1 : Inv X pins σ H { s with heap := h', toks := tk } := I.kept (t' := tk) hkp
  refine wpAny_bind (wpAny_newList ?_)
  have hoL : (h'.push (seqObj "list" acc.toList.toArray 0)).get? h'.objs.size = some (seqObj "list" acc.toList.toArray 0) := Heap.get?_push_size _ rfl
  show wpAny _ _ _ _ _ { s with heap := h'.push (seqObj "list" acc.toList.toArray 0), toks := tk }
  refine wpAny_bind (wpAny_holding (wpAny_call_entry slot_list_sort ⟨_, hoL, rfl⟩ entry_list_sort (list_sort_tree hoL hI (by omega) fun out ns' a1 a2 a3 => ⟨_, rfl, ?_⟩) (args_list_sort _)))
  refine wpAny_pure ⟨_, rfl, ?_⟩
  obtain ⟨e, he⟩ := sortedHeap_at (out := out) hoL
  refine ⟨.ref h'.objs.size, _, I1.laid (a := h'.objs.size) (o := .lst (ns'.map V.int)) (t' := tk) (fun b o hb => ?_) (Nat.le_refl _) ?_, rfl, q _ ns' (I1.hok.fresh (Nat.le_refl _)) a2 a3⟩
  · have hlt := Heap.lt_size hb
    rw [sortedHeap_old (Nat.ne_of_lt hlt) (by rw [size_push']; exact Nat.lt_succ_of_lt hlt), Heap.get?_push_ne _ _ _ (Nat.ne_of_lt hlt)]
    exact hb
  · refine ⟨by rw [List.length_map, a2.length_eq, hl]; exact hz, out.toList, e, vals_ints a1, ?_⟩
    rw [he]
end
end L2
end
section
set_option Elab.async false
set_option linter.all false
set_option maxRecDepth 100000
set_option maxHeartbeats 4000000
namespace L2
open PySem PySem.Spec PyProof.Rows LX
/-! ### == of two dicts, of two tuples of a list and a dict -/
theorem pairs_any {P P' : Program} {w w' : World} : ∀ {es : List DictEntry} {kvs : List (Key × Value)}, Pairs (mixKind P w) es kvs → Pairs (mixKind P' w') es kvs
  | _, _, .nil => .nil
  | _, _, .cons a b r => .cons a b (pairs_any r)
theorem pairs_key {P : Program} {w : World} : ∀ {es : List DictEntry} {kvs : List (Key × Value)}, Pairs (mixKind P w) es kvs → ∀ e ∈ es, ∃ kv ∈ kvs, keyIs kv.1 e.key = true
  | _, _, .nil, _, h => nomatch h
  | _, _, .cons (kv := kv) a b r, e, h => by
    rcases List.mem_cons.mp h with z | z
    · subst z
      exact ⟨kv, List.mem_cons_self .., a⟩
    · obtain ⟨kv', h1, h2⟩ := pairs_key r e z
      exact ⟨kv', List.mem_cons_of_mem _ h1, h2⟩
theorem dict_any {P P' : Program} {w w' : World} {h : Heap} {a : Addr} {kvs : List (Key × Value)} (x : h.DictOf (mixKind P w) a kvs) (hi : ∀ p ∈ kvs, ∃ i, p.1 = Sum.inl i) : h.DictOf (mixKind P' w') a kvs := by
  obtain ⟨o, es, ep, h1, h2, h3, h4, h5, h6⟩ := x
  have h4' : ∀ e ∈ es, ∃ k, keyIs k e.key = true ∧ e.hash = keyH w k := h4
  refine ⟨o, es, ep, h1, h2, h3, fun e he => ?_, pairs_any h5, h6⟩
  obtain ⟨k, g1, g2⟩ := h4' e he
  obtain ⟨kv, g3, g4⟩ := pairs_key h5 e (by simpa using he)
  obtain ⟨i, ei⟩ := hi kv g3
  have ek : k = kv.1 := (mixKind P w).inj _ _ _ g1 g4
  rw [ei] at ek
  subst ek
  exact ⟨.inl i, g1, g2⟩
theorem hits_all {A : Around} {s : Shared} {kb : List (Key × Value)} : ∀ {ka : List (Key × Value)}, (∀ p ∈ ka, ∃ y, valueAt kb p.1 = some y ∧ SeqAt.EqAt A s p.2 y true) → PySem.W.KeqHits A s kb ka true
  | [], _ => .nil
  | (k, v) :: r, h => by
    obtain ⟨y, e1, e2⟩ := h (k, v) (List.mem_cons_self ..)
    exact .hit (e := true) (b := true) e1 e2 (hits_all fun p hp => h p (List.mem_cons_of_mem _ hp))
theorem kv_mem : ∀ {kvs : List (Key × V)} {vs : List (Key × Value)}, KV kvs vs → ∀ q ∈ vs, ∃ p ∈ kvs, p.1 = q.1 ∧ RelV p.2 q.2
  | _, _, .nil, _, h => nomatch h
  | p :: _, q :: _, .cons a r, q', h => by
    rcases List.mem_cons.mp h with e | h
    · subst e
      exact ⟨p, List.mem_cons_self .., a⟩
    · obtain ⟨p', h1, h2⟩ := kv_mem r q' h
      exact ⟨p', List.mem_cons_of_mem _ h1, h2⟩
theorem ki {kvs : List (Key × V)} {vs : List (Key × Value)} (r : KV kvs vs) (hi : ∀ p ∈ kvs, ∃ i, p.1 = Sum.inl i) : ∀ q ∈ vs, ∃ i, q.1 = Sum.inl i := fun q hq => by
  obtain ⟨p, h1, h2, _⟩ := kv_mem r q hq
  obtain ⟨i, e⟩ := hi p h1
  exact ⟨i, by rw [← h2, e]⟩
section
variable {X : Cx} {pins : List (Addr × Obj)} {σ : St} {H : Hp} {s : Shared}
theorem eqAt_dict (I : Inv X pins σ H s) {A : Around} {n : Nat} {a b : Addr} {kvs kvs' : List (Key × V)} (ha : Rd H a (.dK kvs)) (hb : Rd H b (.dK kvs')) (hl : kvs.length = kvs'.length) (hi : ∀ p ∈ kvs, ∃ i, p.1 = Sum.inl i) (hj : ∀ p ∈ kvs', ∃ i, p.1 = Sum.inl i) (hd : ∀ p ∈ kvs, ∃ y, valV kvs' p.1 = some y ∧ Deep X.K H n p.2 y) (hu : A.units + n + 1 < cLine) : SeqAt.EqAt A s (.ref a) (.ref b) true := by
  by_cases e : a = b
  · subst e
    exact SeqAt.EqAt.same _
  · refine SeqAt.EqAt.of_refs e fun prog w E Q h => ?_
    obtain ⟨_, h1, vs, r1, d1⟩ := dk_rd I.hok ha
    obtain ⟨_, h2, us, r2, d2⟩ := dk_rd I.hok hb
    have l1 := r1.length
    have l2 := r2.length
    refine PySem.W.keq_eq (knd := mixKind prog w) (r := true) h1 h2 (dict_any d1 fun q hq => ki r1 hi q hq) (dict_any d2 fun q hq => ki r2 hj q hq) (by omega) (fun _ => hits_all fun q hq => ?_) ?_
    · obtain ⟨p, hp, e1, rp⟩ := kv_mem r1 q hq
      obtain ⟨y, hy, dp⟩ := hd p hp
      have rv := r2.val p.1
      rw [hy] at rv
      rw [← e1]
      cases hu' : valueAt us p.1 with
      | none =>
        rw [hu'] at rv
        exact absurd rv (by intro z; cases z)
      | some u =>
        rw [hu'] at rv
        exact ⟨u, rfl, dp.eqAt I rp (by first | exact rv | simpa using rv) (by rw [Around.in1_units]; omega)⟩
    · have e : (vs.length == us.length && true) = true := by simp; omega
      rw [e]
      exact h
end
end L2
end
section
set_option Elab.async false
set_option linter.all false
set_option maxRecDepth 100000
set_option maxHeartbeats 4000000
namespace L2
open PySem PySem.Spec PyProof.Rows LX
/-! ### != of two lists of numbers, of any lengths -/
section
variable {X : Cx}
/-! ### l.insert(i, y) -/
/-! ### e[::-1] -/
end
end L2
end
section
set_option Elab.async false
set_option linter.all false
set_option maxRecDepth 100000
set_option maxHeartbeats 4000000
namespace L2
open PySem PySem.Spec PyProof.Rows LX
section
variable {X : Cx}
/-! ### list(d), d a dict whose keys are numbers -/
def rListR : List V → Hp → VK → Prop := fun vs H Q => ∃ (p : Addr) (kvs : List (Key × V)) (ks : List Int), vs = [.ref p] ∧ Rd H p (.dK kvs) ∧ kvs.map (·.1) = ks.map Sum.inl ∧ ∀ l : Addr, H l = none → Q (.ref l) (upd H l (.lst (ks.map V.int)))
theorem call_listR (hc : X.calm = true) : CallR X (.type "list") rListR := by
  rintro pins s σ H xs us Q I r ⟨p, kvs, ks, rfl, hp, hk, q⟩
  obtain ⟨u, rfl, ru⟩ := r.one
  cases (show u = Value.ref p from ru)
  obtain ⟨hz, hd, vs, rel, dd⟩ := dk_rd I.hok hp
  obtain ⟨ep, hat⟩ := dd.dictAt
  have hl : ks.length = kvs.length := by
    have := congrArg List.length hk
    simpa using this.symm
  refine PySem.W.kdl_call (PySem.W.kdl_dict (knd := mixKind X.prog X.w) (kvs := vs) (ep := ep) hd) (I.ok.hd hc) hat (by rw [← rel.length]; exact hz) fun h' tk acc c hkp hS hacc => ?_
  have hI : IntsAre acc.toList ks := dict_ints (by rw [← rel.keys]; exact hk) hacc.1 hacc.2
  refine ⟨.ref s.heap.objs.size, _, I.laid (a := s.heap.objs.size) (o := .lst (ks.map V.int)) (t' := tk) hkp (Nat.le_refl _) ?_, rfl, q _ (I.hok.fresh (Nat.le_refl _))⟩
  refine ⟨by rw [List.length_map, hl]; exact hz, acc.toList, c, vals_ints hI, ?_⟩
  rw [hS]
/-! ### != of two tuples of a list and a dict that are the same -/
def rNeVw (K : PySem.W.Frag) (n : Nat) : R2 := fun x y H Q => ∃ a b r d r' d' kvs kvs', x = .ref a ∧ y = .ref b ∧ SqT K H a [.ref r, .ref d] ∧ SqT K H b [.ref r', .ref d'] ∧ Deep K H n (.ref r) (.ref r') ∧ Rd H d (.dK kvs) ∧ Rd H d' (.dK kvs') ∧ kvs.length = kvs'.length ∧ (∀ p ∈ kvs, ∃ i, p.1 = Sum.inl i) ∧ (∀ p ∈ kvs', ∃ i, p.1 = Sum.inl i) ∧ (∀ p ∈ kvs, ∃ y, valV kvs' p.1 = some y ∧ Deep K H n p.2 y) ∧ Q (.bl false) H
theorem op_neVw {n : Nat} (hu : X.A.units + n + 2 < cLine) : OpR X (compareOp .NotEq) (rNeVw X.K n) := by
  rintro pins s σ H x y v u Q I rx ry ⟨a, b, r, d, r', d', kvs, kvs', rfl, rfl, ha, hb, h1, h2, h3, h4, h6, h7, h5, q⟩
  cases rx
  cases ry
  obtain ⟨vs, r1, t1, _⟩ := I.tuple ha
  obtain ⟨ws, r2, t2, _⟩ := I.tuple hb
  cases r1 with
  | cons x1 xr =>
    cases xr with
    | cons x2 xr =>
      cases xr
      cases r2 with
      | cons y1 yr =>
        cases yr with
        | cons y2 yr =>
          cases yr
          cases x2
          cases y2
          refine SeqAt.RcNeAt.tuples (e := fun _ => true) t1 t2 (by omega) (fun j g1 g2 => ?_) _ _ _ _ ⟨.bl false, H, I, by simp [RelV], q⟩
          match j, g1, g2 with
          | 0, _, _ => exact h1.eqAt I x1 y1 (by rw [Around.in1_units]; omega)
          | 1, _, _ => exact eqAt_dict I h2 h3 h4 h6 h7 h5 (by rw [Around.in1_units]; omega)
          | j + 2, g1, _ => exact absurd (show j + 2 < 2 from g1) (by omega)
end
end L2
end
section
set_option Elab.async false
set_option linter.all false
set_option maxRecDepth 100000
set_option maxHeartbeats 4000000
namespace L2
open PySem PySem.Spec PyProof.Rows LX
section
variable {X : Cx}
/-! ### dict(d) -/
end
/-! ### a comprehension with a test over a dict -/
end L2
end
section
set_option Elab.async false
set_option linter.all false
set_option maxRecDepth 100000
set_option maxHeartbeats 4000000
namespace L2
open PySem PySem.Spec PyProof.Rows LX
section
variable {P : Program} {w : World} {A : Around} {E : Value → Shared → Prop}
end
section
variable {P : Program} {w : World} {A : Around} {R : Result → Shared → Prop} {KK : Type} [DecidableEq KK] {knd : KeyKind P w KK}
end
section
variable {P : Program} {w : World} {A : Around} {E : Value → Shared → Prop} {KK : Type} [DecidableEq KK] {knd : KeyKind P w KK}
end
section
variable {P : Program} {w : World} {A : Around} {E : Value → Shared → Prop}
end
end L2
end
section
set_option Elab.async false
set_option linter.all false
set_option maxRecDepth 100000
set_option maxHeartbeats 4000000
namespace L2
open PySem PySem.Spec PyProof.Rows LX
section
variable {X : Cx}
/-! ### dict([(k, v), ..]) -/
/-! ### list(reversed(l)) -/
/-! ### == of two lists of numbers, of any lengths -/
/-! ### != of two tuples that are the same through and through -/
end
end L2
end
section
set_option Elab.async false
set_option linter.all false
set_option maxRecDepth 100000
set_option maxHeartbeats 4000000
namespace L2
open PySem PySem.Spec PyProof.Rows LX
/-! ### raising out of a loop of the def's own body -/
section
variable {P : Program} {w : World} {K : PySem.W.Frag} {mg : Str → Option Value} {base : Heap} {N : List Str} {qual : Str} {scope : Scope} {f : Addr} {cdv : Value} {A : Around} {outer : List Env} {s₀ : Shared} {H₀ : Hp} {E₀ : XK}

end
end L2
end
section
set_option Elab.async false
set_option linter.all false
set_option maxRecDepth 100000
set_option maxHeartbeats 4000000
namespace L2
open PySem PySem.Spec PyProof.Rows LX
/-! ### < of tuples as long as one another, items of any kind -/
/-- what the places from j on tell: eqs, then less at the first that differs -/
def restLt (eq lt : Nat → Bool) : Nat → Nat → Bool
  | _, 0 => false
  | j, k + 1 => if eq j = true then restLt eq lt (j + 1) k else lt j
section
open PySem.SeqAt
open PySem.AutoSeq1 (wpAny_loadPart')
open PySem.MeetsSeq PySem.MeetsSeq2 PySem.MeetsSeq3
theorem tupLt_meets (l b : Addr) (xs ys : Array Value) (n m : Nat) (dx dy : Option Addr) (lx ly : Array (Option Value)) (eq lt : Nat → Bool) (hz : xs.size = ys.size) :
    Meets (Builtin.«tuple.__lt__» ⟨[.ref l, .ref b], []⟩)
      (fun B R s => s.heap.get? l = some { cls := .type "tuple", dict := dx, data := .seq xs n, slots := lx } ∧ s.heap.get? b = some { cls := .type "tuple", dict := dy, data := .seq ys m, slots := ly } ∧
        (∀ j (h1 : j < xs.size) (h2 : j < ys.size), (∀ i, i < j → eq i = true) → SeqAt.EqAt B.in1 s xs[j] ys[j] (eq j) ∧
          (eq j = false → ∀ (prog : Program) (w : World) (E : Value → Shared → Prop) (Q : Value → Shared → Prop), Q (.bool (lt j)) s → wpAny (model prog w) B.in1 (richCompare .Lt xs[j] ys[j]) Q E s)) ∧
        R (.ok (.ret (.bool (restLt eq lt 0 xs.size)))) s) :=
  .of_wp fun prog w A R s h => by
    obtain ⟨hp, g, d, tk, os⟩ := s; obtain ⟨hl, hb, hit, h⟩ := h
    have f2 := AutoSeq1.sub_tuple_tuple
    wp_walk using wpAny_loadPart' hl, wpAny_loadPart' hb, wpAny_forIn_list _ (fun rest b s' => b.1 = none ∧ s' = ⟨hp, g, d, tk, os⟩ ∧ ∃ j, j ≤ xs.size ∧ rest = (xs.toList.drop j).zip (ys.toList.drop j) ∧ (∀ i, i < j → eq i = true) ∧ R (.ok (.ret (.bool (restLt eq lt j (xs.size - j))))) ⟨hp, g, d, tk, os⟩) _
    case turn =>
      rintro ⟨y, x⟩ rest b s' ⟨hb', rfl, j, hj, hrest, hall, hR⟩
      have j1 : j < xs.size := by
        rcases Nat.lt_or_ge j xs.size with z | z
        · exact z
        · rw [List.drop_of_length_le (by rw [Array.length_toList]; exact z), List.zip_nil_left] at hrest
          cases hrest
      have j2 : j < ys.size := by omega
      rw [List.drop_eq_getElem_cons (by rw [Array.length_toList]; exact j1), List.drop_eq_getElem_cons (l := ys.toList) (by rw [Array.length_toList]; exact j2), List.zip_cons_cons] at hrest
      injection hrest with hyx hrest
      injection hyx with hy hx
      rw [Array.getElem_toList] at hy hx
      subst hy hx
      obtain ⟨he, hlt⟩ := hit j j1 j2 hall
      rw [show xs.size - j = (xs.size - (j + 1)) + 1 by omega] at hR
      refine wpAny_bind (he prog w _ _ ?_)
      cases e : eq j with
      | true =>
        rw [restLt, if_pos e] at hR
        wp_walk
        refine ⟨rfl, rfl, j + 1, j1, hrest, fun i hi => ?_, hR⟩
        rcases Nat.lt_or_ge i j with z | z
        · exact hall i z
        · rw [show i = j by omega]; exact e
      | false =>
        rw [restLt, if_neg (by rw [e]; exact Bool.false_ne_true)] at hR
        have hri := fun E Q => hlt e prog w E Q
        wp_walk using hri
        exact ⟨_, rfl, by simpa using hR⟩
    case fin =>
      rintro ⟨b1, b2⟩ s' ⟨hb', rfl, j, hj, hrest, hall, hR⟩
      simp only at hb'
      subst hb'
      have hv : restLt eq lt j (xs.size - j) = decide (xs.size < ys.size) := by
        have ej : xs.size - j = 0 := by
          rcases Nat.lt_or_ge j xs.size with z | z
          · rw [List.drop_eq_getElem_cons (by rw [Array.length_toList]; exact z), List.drop_eq_getElem_cons (l := ys.toList) (by rw [Array.length_toList]; omega), List.zip_cons_cons] at hrest
            cases hrest
          · omega
        rw [ej]
        exact (decide_eq_false (by omega)).symm
      rw [hv] at hR
      wp_walk
      exact ⟨_, rfl, by simpa [Builtin.Tuple.tupleCompareSizes] using hR⟩
    case h =>
      exact ⟨rfl, rfl, 0, Nat.zero_le _, rfl, fun i hi => absurd hi (Nat.not_lt_zero _), h⟩
end
theorem getD_at {ns : List Int} {j : Nat} (h : j < ns.length) : ns.getD j 0 = ns[j] := by simp [List.getD, List.getElem?_eq_getElem h]
theorem valsT {x y z : V} {us : List Value} (r : Vals [x, y, z] us) : ∃ u v w, us = [u, v, w] ∧ RelV x u ∧ RelV y v ∧ RelV z w := by
  cases r with
  | cons a r =>
    obtain ⟨u, w, rfl, b, c⟩ := vals2 r
    exact ⟨_, u, w, rfl, a, b, c⟩
theorem ints_one {vs : List Value} : ∀ {ns ms : List Int}, Vals (ns.map V.int) vs → Vals (ms.map V.int) vs → ns.length = ms.length → ns = ms := fun {ns ms} r1 r2 hl => by
  refine List.ext_getElem hl fun j h1 h2 => ?_
  obtain ⟨w1, z1, n1, rz1⟩ := r1.get (i := j) (x := V.int ns[j]) (by rw [List.getElem?_map, List.getElem?_eq_getElem h1]; rfl)
  obtain ⟨w2, z2, n2, rz2⟩ := r2.get (i := j) (x := V.int ms[j]) (by rw [List.getElem?_map, List.getElem?_eq_getElem h2]; rfl)
  rw [z1, rz1, rz2] at z2
  injection z2 with z2
  injection z2
theorem ints_eq {ns ms : List Int} (hl : ns.length = ms.length) : ((List.range ns.length).all fun j => decide (ns.getD j 0 = ms.getD j 0)) = decide (ns = ms) := by
  rw [Bool.eq_iff_iff, List.all_eq_true, decide_eq_true_eq]
  constructor
  · intro h
    refine List.ext_getElem hl fun j h1 h2 => ?_
    have := of_decide_eq_true (h j (List.mem_range.mpr h1))
    rwa [getD_at h1, getD_at h2] at this
  · rintro rfl j _
    exact decide_eq_true rfl
theorem eqAt_ints {X : Cx} {pins : List (Addr × Obj)} {σ : St} {H : Hp} {s : Shared} (I : Inv X pins σ H s) {p q : Addr} {ns ms : List Int} (hp : SqT X.K H p (ns.map V.int)) (hq : SqT X.K H q (ms.map V.int)) (hl : ns.length = ms.length) {A : Around} (hu : A.units < cLine) :
    SeqAt.EqAt A s (.ref p) (.ref q) (decide (ns = ms)) := by
  obtain ⟨vs, r1, t1, _⟩ := I.tuple hp
  obtain ⟨ws, r2, t2, _⟩ := I.tuple hq
  by_cases e : p = q
  · subst e
    have : ns = ms := by
      obtain ⟨o, ho, _, n, hd⟩ := t1
      obtain ⟨o', ho', _, n', hd'⟩ := t2
      rw [ho] at ho'
      cases ho'
      rw [hd] at hd'
      injection hd' with hd'
      have ev : vs = ws := by simpa using hd'
      subst ev
      exact ints_one r1 r2 hl
    rw [decide_eq_true this]
    exact SeqAt.EqAt.same _
  · refine SeqAt.EqAt.of_refs e ?_
    have l1 := r1.length
    have l2 := r2.length
    rw [List.length_map] at l1 l2
    have hs : vs.length = ws.length := by omega
    have := SeqAt.RcAt.tuples (A := A) (s := s) (e := fun j => decide (ns.getD j 0 = ms.getD j 0)) t1 t2 hu (fun j h1 h2 => by
      simp only [List.size_toArray] at h1 h2
      obtain ⟨w1, z1, n1, rz1⟩ := r1.get (i := j) (x := V.int (ns[j]'(by omega))) (by rw [List.getElem?_map, List.getElem?_eq_getElem (by omega)]; rfl)
      obtain ⟨w2, z2, n2, rz2⟩ := r2.get (i := j) (x := V.int (ms[j]'(by omega))) (by rw [List.getElem?_map, List.getElem?_eq_getElem (by omega)]; rfl)
      have a1 : vs.toArray[j] = w1 := by
        have := (List.getElem?_eq_some_iff.mp z1).2
        simpa using this
      have a2 : ws.toArray[j] = w2 := by
        have := (List.getElem?_eq_some_iff.mp z2).2
        simpa using this
      rw [a1, a2, rz1, rz2, getD_at (show j < ns.length by omega), getD_at (show j < ms.length by omega)]
      have := SeqAt.EqAt.int_int (A := A.in1) (s := s) (ns[j]'(by omega)) n1 (ms[j]'(by omega)) n2
      rwa [show ((ns[j]'(by omega)) == (ms[j]'(by omega))) = decide ((ns[j]'(by omega)) = (ms[j]'(by omega))) from rfl] at this)
    rw [← ints_eq hl]
    simpa [hs, ← l1, ← l2, hl] using this
/-- what comes of (f, r, ns) < (f', r', ms) -/
def wayLt (f r : Int) (ns : List Int) (f' r' : Int) (ms : List Int) : Bool := if f = f' then if r = r' then HT.lexLt ns ms else decide (r < r') else decide (f < f')
def rLtW (K : PySem.W.Frag) : R2 := fun x y H Q => ∃ (a b p q : Addr) (f r f' r' : Int) (ns ms : List Int), x = .ref a ∧ y = .ref b ∧ SqT K H a [.int f, .int r, .ref p] ∧ SqT K H b [.int f', .int r', .ref q] ∧ SqT K H p (ns.map V.int) ∧ SqT K H q (ms.map V.int) ∧ (f = f' → ns.length = ms.length) ∧ Q (.bl (wayLt f r ns f' r' ms)) H
theorem lexLt_self : ∀ ns : List Int, HT.lexLt ns ns = false
  | [] => rfl
  | n :: ns => by rw [HT.lexLt_cons, if_pos rfl]; exact lexLt_self ns
section
variable {X : Cx}
theorem op_ltW (hu : X.A.units + 1 < cLine) : OpR X (compareOp .Lt) (rLtW X.K) := by
  rintro pins s σ H x y v u Q I rx ry ⟨a, b, p, q, f, r, f', r', ns, ms, rfl, rfl, ha, hb, hp, hq, hl, k⟩
  cases rx
  cases ry
  obtain ⟨vs, r1, t1, _⟩ := I.tuple ha
  obtain ⟨ws, r2, t2, _⟩ := I.tuple hb
  obtain ⟨ps, r3, t3, _⟩ := I.tuple hp
  obtain ⟨qs, r4, t4, _⟩ := I.tuple hq
  obtain ⟨v0, v1, v2, rfl, ⟨n0, rfl⟩, ⟨n1, rfl⟩, e2⟩ := valsT r1
  obtain ⟨w0, w1, w2, rfl, ⟨m0, rfl⟩, ⟨m1, rfl⟩, g2⟩ := valsT r2
  cases e2
  cases g2
  obtain ⟨⟨c1, d1, dt1, l1⟩, ho, hc, n, hd⟩ := id t1
  obtain ⟨⟨c2, d2, dt2, l2⟩, ho2, hc2, m, hd2⟩ := id t2
  simp only at hc hd hc2 hd2
  subst hc hd hc2 hd2
  have hu1 : X.A.in1.units < cLine := by rw [Around.in1_units]; exact hu
  have E3 : restLt (fun j => if j = 0 then decide (f = f') else if j = 1 then decide (r = r') else decide (ns = ms)) (fun j => if j = 0 then decide (f < f') else if j = 1 then decide (r < r') else HT.lexLt ns ms) 0 3 = wayLt f r ns f' r' ms := by
    unfold wayLt
    simp only [restLt]
    by_cases h0 : f = f'
    · by_cases h1 : r = r'
      · by_cases h2 : ns = ms
        · simp [h0, h1, h2, lexLt_self]
        · simp [h0, h1, h2]
      · simp [h0, h1]
    · simp [h0]
  refine richCompare_meets_room (op := .Lt) ⟨_, ho, rfl⟩ ⟨_, ho2, rfl⟩ PySem.F.slot_tuple_lt PySem.F.entry_tuple_lt (PySem.F.args_tuple_lt_2 _ _) (tupLt_meets a b #[Value.int f n0, Value.int r n1, Value.ref p] #[Value.int f' m0, Value.int r' m1, Value.ref q] n m d1 d2 l1 l2 (fun j => if j = 0 then decide (f = f') else if j = 1 then decide (r = r') else decide (ns = ms)) (fun j => if j = 0 then decide (f < f') else if j = 1 then decide (r < r') else HT.lexLt ns ms) rfl)
    ⟨ho, ho2, fun j h1 h2 hall => ?_, ?_⟩ (Nat.lt_of_succ_lt hu)
  · match j, h1 with
    | 0, _ => exact ⟨SeqAt.EqAt.int_int f n0 f' m0, fun _ prog w E Q hQ => HT.rcLt_int _ s f n0 f' m0 prog w E Q hQ⟩
    | 1, _ => exact ⟨SeqAt.EqAt.int_int r n1 r' m1, fun _ prog w E Q hQ => HT.rcLt_int _ s r n1 r' m1 prog w E Q hQ⟩
    | 2, _ =>
      have ef : f = f' := of_decide_eq_true (hall 0 (by omega))
      exact ⟨eqAt_ints I hp hq (hl ef) hu1, fun _ prog w E Q hQ => HT.lt_tupInts t3 t4 (intsAre_of r3) (intsAre_of r4) hu1 hQ⟩
    | j + 3, h1 => exact absurd (show j + 3 < 3 from h1) (by omega)
  · refine ⟨(fun z => nomatch z), ⟨.bl (wayLt f r ns f' r' ms), H, I, ?_, k⟩⟩
    show Value.bool (restLt _ _ 0 3) = _
    rw [E3]
end
end L2
end
section
set_option Elab.async false
set_option linter.all false
set_option maxRecDepth 100000
set_option maxHeartbeats 4000000
namespace L2
open PySem PySem.Spec PyProof.Rows LX
/-! ### t + u of tuples, of any lengths -/
def rCatA (K : PySem.W.Frag) : R2 := fun x y H Q => ∃ a b xs ys, x = .ref a ∧ y = .ref b ∧ SqT K H a xs ∧ SqT K H b ys ∧ xs.length + ys.length ≤ sizeLine ∧
  (xs = [] → Q (.ref b) H) ∧ (xs ≠ [] → (ys = [] → Q (.ref a) H) ∧ (ys ≠ [] → ∀ p, H p = none → Q (.ref p) (upd H p (.tup (xs ++ ys)))))
theorem op_catA {X : Cx} : OpR X (binaryOp .Add) (rCatA X.K) := by
  rintro pins s σ H x y v u Q I rx ry ⟨a, b, xs, ys, rfl, rfl, ha, hb, hz, q0, q1⟩
  by_cases hx : xs = []
  · cases rx
    cases ry
    obtain ⟨vs, r1, p1, _⟩ := I.tuple ha
    obtain ⟨ws, r2, p2, _⟩ := I.tuple hb
    obtain ⟨⟨c1, d1, dt1, l1⟩, ho, hc, n, hd⟩ := id p1
    obtain ⟨⟨c2, d2, dt2, l2⟩, ho2, hc2, m, hd2⟩ := id p2
    simp only at hc hd hc2 hd2
    subst hc hd hc2 hd2
    exact concat_meets ⟨_, ho, rfl⟩ ⟨_, ho2, rfl⟩ noFill_tuple_add seq_tuple_add PySem.F.slot_tuple_add PySem.F.entry_tuple_add (PySem.F.args_tuple_add_2 _ _)
      (tuple_addW0 a b vs.toArray ws.toArray n m d1 d2 l1 l2 (by simp [r1.nil_iff.mpr hx])) ⟨ho, ho2, ⟨.ref b, H, I, rfl, q0 hx⟩⟩
  · exact op_catT pins s σ H _ _ v u Q I rx ry ⟨a, b, xs, ys, rfl, rfl, ha, hb, hx, hz, (q1 hx).1, (q1 hx).2⟩
/-! ### tuple(reversed(l)) -/
section
variable {P : Program} {w : World} {A : Around} {E : Value → Shared → Prop}
end
section
variable {X : Cx}
end
end L2
end
section
set_option Elab.async false
set_option linter.all false
set_option maxRecDepth 100000
set_option maxHeartbeats 4000000
namespace L2
open PySem PySem.Spec PyProof.Rows LX
/-! ### keys (number, number, tuple of numbers) -/
abbrev WK := Int × Int × List Int
section
variable {P : Program} {w : World}
def IsWay (P : Program) (w : World) (h : Heap) (k : WK) (a : Addr) : Prop := ∃ (t u : Tok) (p : Addr), IsTup h a #[.int k.1 t, .int k.2.1 u, .ref p] ∧ IsTupleKey (intKind P w) h k.2.2 p
theorem IsWay.inj {h : Heap} {a : Addr} {x y : WK} (hx : IsWay P w h x a) (hy : IsWay P w h y a) : x = y := by
  obtain ⟨t, u, p, ⟨o, ho, _, n, hd⟩, hp⟩ := hx
  obtain ⟨t', u', p', ⟨o', ho', _, n', hd'⟩, hp'⟩ := hy
  rw [ho] at ho'
  cases ho'
  rw [hd] at hd'
  injection hd' with e
  simp only [Array.mk.injEq, List.cons.injEq, Value.int.injEq, Value.ref.injEq, and_true] at e
  obtain ⟨⟨e1, _⟩, ⟨e2, _⟩, e3⟩ := e
  subst e3
  exact Prod.ext e1 (Prod.ext e2 (hp.inj hp'))
theorem IsWay.keeps {h h' : Heap} {k : WK} {a d : Addr} {o : Obj} {es ep} (x : IsWay P w h k a) (ho : h.get? d = some o) (hd : o.data = .dict es ep) (hs : Heap.SameBut d h h') : IsWay P w h' k a := by
  obtain ⟨t, u, p, ⟨o', ho', hc, n, hd'⟩, hp⟩ := x
  have hne : a ≠ d := fun z => by
    rw [z, ho] at ho'
    cases ho'
    rw [hd] at hd'
    cases hd'
  exact ⟨t, u, p, ⟨o', (hs.2 a hne).trans ho', hc, n, hd'⟩, hp.keeps ho hd hs⟩
theorem IsWay.typeIs {s : Shared} {k : WK} {a : Addr} (x : IsWay P w s.heap k a) : s.TypeIs (.ref a) "tuple" := let ⟨_, _, _, ⟨o, ho, hc, _⟩, _⟩ := x; ⟨o, ho, hc⟩
def wayHash (P : Program) (w : World) (k : WK) : Int := reduceHash (Builtin.Tuple.tupleHashOf [hashInt k.1, hashInt k.2.1, tupleKeyHash (intKind P w) k.2.2])
variable {A : Around} {E : Value → Shared → Prop} {s : Shared}
theorem IsWay.pyHash {k : WK} {a : Addr} {Q : Int → Shared → Prop} (hu : A.units + 1 < cLine) (hk : IsWay P w s.heap k a) (h : Q (wayHash P w k) { s with toks := s.toks + (k.2.2.length + 4) }) : wpAny (model P w) A (PySem.pyHash (.ref a)) Q E s := by
  have hT := hk.typeIs
  obtain ⟨t, u, p, ⟨o, ho, _, n, hd⟩, hp⟩ := hk
  unfold PySem.pyHash
  first | unfold pyHashByItsType | skip
  refine wpAny_bind (wpAny_cRoomFor_or (.inr (Nat.lt_of_succ_lt hu)) (wpAny_bind (wpAny_specialOf hT PySem.F.slot_tuple_hash.lookup ?_)))
  show wpAny _ _ (if (some (Value.builtin "tuple.__hash__") == some Value.none) = true then _ else _) Q E s
  rw [if_neg (by rw [beq_builtin_none]; exact Bool.false_ne_true)]
  refine wpAny_bind (wpAny_specialOf hT PySem.F.slot_tuple_hash.lookup ?_)
  show wpAny _ _ (callSpecialIfBoundUnlessNone? (.ref a) "__hash__" _ >>= _) Q E s
  refine wpAny_bind (wpAny_callSpecialIfBoundUnlessNone?_slot hT PySem.F.slot_tuple_hash (wpAny_call_entry PySem.F.slot_tuple_hash hT PySem.F.entry_tuple_hash ?_ (PySem.F.args_tuple_hash_1 _)))
  show wpAny _ _ (Builtin.Tuple.tupleItemsOf (.ref a) >>= _) _ _ s
  refine wpAny_bind (wpAny_tupleItemsOf ho hd (wpAny_bind ?_))
  rw [← Array.forIn_toList]
  refine wpAny_forIn_list _ (fun rest (b : Array Int) s' => (rest = [.int k.1 t, .int k.2.1 u, .ref p] ∧ b = #[] ∧ s' = s) ∨ (rest = [.int k.2.1 u, .ref p] ∧ b = #[hashInt k.1] ∧ s' = { s with toks := s.toks + 1 }) ∨ (rest = [.ref p] ∧ b = #[hashInt k.1, hashInt k.2.1] ∧ s' = { s with toks := s.toks + 1 + 1 }) ∨ (rest = [] ∧ b = #[hashInt k.1, hashInt k.2.1, tupleKeyHash (intKind P w) k.2.2] ∧ s' = { s with toks := s.toks + 1 + 1 + (k.2.2.length + 1) })) _ ?_ ?_ _ _ (.inl ⟨rfl, rfl, rfl⟩)
  · rintro x rest b s' (⟨e, rfl, rfl⟩ | ⟨e, rfl, rfl⟩ | ⟨e, rfl, rfl⟩ | ⟨e, _⟩)
    · cases e
      refine wpAny_bind (wpAny_pyHash_int ?_)
      first
        | exact wpAny_pure (.inr (.inl ⟨rfl, rfl, rfl⟩))
        | exact wpAny_bind (wpAny_pure (wpAny_pure (.inr (.inl ⟨rfl, rfl, rfl⟩))))
    · cases e
      refine wpAny_bind (wpAny_pyHash_int ?_)
      first
        | exact wpAny_pure (.inr (.inr (.inl ⟨rfl, rfl, rfl⟩)))
        | exact wpAny_bind (wpAny_pure (wpAny_pure (.inr (.inr (.inl ⟨rfl, rfl, rfl⟩)))))
    · cases e
      refine wpAny_bind (wpAny_pyHash_tuple (knd := intKind P w) (ks := k.2.2) (by rw [Around.in1_units]; exact hu) hp ?_)
      first
        | exact wpAny_pure (.inr (.inr (.inr ⟨rfl, rfl, rfl⟩)))
        | exact wpAny_bind (wpAny_pure (wpAny_pure (.inr (.inr (.inr ⟨rfl, rfl, rfl⟩)))))
    · cases e
  · rintro b s' (⟨e, _⟩ | ⟨e, _⟩ | ⟨e, _⟩ | ⟨_, rfl, rfl⟩)
    · cases e
    · cases e
    · cases e
    · show wpAny _ _ (retInt (Builtin.Tuple.tupleHashOf [hashInt k.1, hashInt k.2.1, tupleKeyHash (intKind P w) k.2.2])) _ _ _
      unfold wayHash at h
      generalize Builtin.Tuple.tupleHashOf [hashInt k.1, hashInt k.2.1, tupleKeyHash (intKind P w) k.2.2] = z at h ⊢
      refine wpAny_ret_mkInt ?_
      show wpAny _ _ (if (decide (-(2 : Int) ^ 63 ≤ z) && decide (z < 2 ^ 63)) = true then _ else _) Q E _
      unfold reduceHash at h
      have et : s.toks + 1 + 1 + (k.2.2.length + 1) + 1 = s.toks + (k.2.2.length + 4) := by omega
      by_cases hr : (decide (-(2 : Int) ^ 63 ≤ z) && decide (z < 2 ^ 63)) = true
      · rw [if_pos hr] at h ⊢
        refine wpAny_pure ?_
        rw [← et] at h
        exact h
      · rw [if_neg hr] at h ⊢
        refine wpAny_bind (wpAny_rule (wpAny_pure ?_))
        rw [← et] at h
        exact h
theorem items_any {P' : Program} {w' : World} {ns : List Int} {vs : List Value} (h : ItemsAre (intKind P w) ns vs) : ItemsAre (intKind P' w') ns vs := by
  induction h with
  | nil => exact .nil
  | cons h _ ih => exact .cons h ih
theorem key_any {P' : Program} {w' : World} {h : Heap} {ns : List Int} {p : Addr} (x : IsTupleKey (intKind P w) h ns p) : IsTupleKey (intKind P' w') h ns p := by
  obtain ⟨o, its, n, h1, h2, h3, h4⟩ := x
  exact ⟨o, its, n, h1, h2, h3, items_any h4⟩
theorem IsWay.eqBool {x y : WK} {a b : Addr} {Q : Bool → Shared → Prop} (hu : A.units + 1 < cLine) (hx : IsWay P w s.heap x a) (hy : IsWay P w s.heap y b) (h : Q (decide (x = y)) s) : wpAny (model P w) A (PySem.eqBool (.ref a) (.ref b)) Q E s := by
  by_cases e : a = b
  · subst e
    have exy := hx.inj hy
    rw [decide_eq_true exy] at h
    exact SeqAt.EqAt.same _ P w E Q h
  · obtain ⟨t, u, p, t1, hp⟩ := hx
    obtain ⟨t', u', p', t2, hp'⟩ := hy
    have := SeqAt.EqAt.of_refs e (SeqAt.RcAt.tuples (A := A) (s := s) (e := fun j => if j = 0 then decide (x.1 = y.1) else if j = 1 then decide (x.2.1 = y.2.1) else decide (x.2.2 = y.2.2)) t1 t2 (Nat.lt_of_succ_lt hu) (fun j h1 h2 => by
      match j, h1 with
      | 0, _ => exact SeqAt.EqAt.int_int x.1 t y.1 t'
      | 1, _ => exact SeqAt.EqAt.int_int x.2.1 u y.2.1 u'
      | 2, _ => exact fun P' w' E' Q' hQ => wpAny_eqBool_tuple (knd := intKind P' w') (by rw [Around.in1_units]; exact hu) (key_any hp) (key_any hp') hQ
      | j + 3, h1 => exact absurd (show j + 3 < 3 from h1) (by omega)))
    refine this P w E Q ?_
    have eb : decide (x = y) = (decide (x.1 = y.1) && (decide (x.2.1 = y.2.1) && decide (x.2.2 = y.2.2))) := by
      rw [Bool.eq_iff_iff]
      simp only [decide_eq_true_eq, Bool.and_eq_true]
      exact ⟨fun z => by rw [z]; exact ⟨rfl, rfl, rfl⟩, fun z => Prod.ext z.1 (Prod.ext z.2.1 z.2.2)⟩
    rw [eb] at h
    simpa [List.range_succ] using h
/-- a tuple's items are quiet: so is it -/
theorem quiet_tup (n : Nat) {p : Addr} {items : Array Value} {Q : Bool → Shared → Prop} (ht : IsTup s.heap p items) (hv : ∀ v ∈ items.toList, ∀ Q' : Bool → Shared → Prop, Q' true s → wpAny (model P w) A (eqIsQuiet n v) Q' E s) (h : Q true s) : wpAny (model P w) A (eqIsQuiet (n + 1) (.ref p)) Q E s := by
  obtain ⟨o, ho, hc, m, hd⟩ := ht
  have hT : s.TypeIs (.ref p) "tuple" := ⟨o, ho, hc⟩
  unfold eqIsQuiet
  refine wpAny_bind (wpAny_specialOf hT PySem.F.slot_tuple_eq.lookup (?_ : wpAny _ _ (isInstance (.ref p) (.type "tuple") >>= _) _ _ s))
  refine wpAny_bind (wpAny_isInstance hT isSubtype_tuple_tuple ?_)
  rw [if_neg (by decide)]
  refine wpAny_bind (wpAny_seqItems ho hd (wpAny_bind (?_ : wpAny _ _ (forIn items _ _) _ _ s)))
  rw [← Array.forIn_toList]
  refine wpAny_forIn_list _ (fun l r s2 => r.1 = none ∧ s2 = s ∧ ∀ v ∈ l, v ∈ items.toList) _ (fun v l r s2 ⟨hr, e, hl⟩ => ?_) (fun r s2 ⟨hr, e, _⟩ => ?_) _ _ ⟨rfl, rfl, fun _ z => z⟩
  · subst e
    refine wpAny_bind (hv v (hl v List.mem_cons_self) _ ?_)
    rw [if_neg (by decide)]
    exact wpAny_pure ⟨rfl, rfl, fun z hz => hl z (List.mem_cons_of_mem _ hz)⟩
  · obtain ⟨r1, r2⟩ := r
    simp only at hr
    subst hr e
    exact wpAny_pure h
theorem quiet_val (n : Nat) {v : Value} (hv : carriedByValue v = true) {Q : Bool → Shared → Prop} (h : Q true s) : wpAny (model P w) A (eqIsQuiet n v) Q E s := by
  rw [eqIsQuiet_byValue n hv]
  exact wpAny_pure h
theorem IsWay.quiet {k : WK} {a : Addr} {Q : Bool → Shared → Prop} (hk : IsWay P w s.heap k a) (h : Q true s) : wpAny (model P w) A (eqIsQuiet 8 (.ref a)) Q E s := by
  obtain ⟨t, u, p, t1, o, its, n, ho, hc, hd, hi⟩ := hk
  refine quiet_tup 7 t1 (fun v hv Q' q => ?_) h
  have hv : v ∈ [Value.int k.1 t, Value.int k.2.1 u, Value.ref p] := hv
  simp only [List.mem_cons, List.not_mem_nil, or_false] at hv
  rcases hv with rfl | rfl | rfl
  · exact quiet_val 7 rfl q
  · exact quiet_val 7 rfl q
  · exact quiet_tup 6 ⟨o, ho, hc, n, hd⟩ (fun v hv Q' q => quiet_val 6 (hi.byValue v hv) q) q
end
/-- the kind of such keys -/
def wayKind (P : Program) (w : World) : HeapKind P w WK where
  is := IsWay P w
  hash := wayHash P w
  draws := fun k => k.2.2.length + 4
  room := fun A => A.units + 1 < cLine
  inj := fun hx hy => hx.inj hy
  keeps := fun x ho hd hs => x.keeps ho hd hs
  pyHash := fun hu hk h => hk.pyHash hu h
  eqBool := fun hu hx hy h => hx.eqBool hu hy h
  quiet := fun hk h => hk.quiet h
end L2
end
section
set_option Elab.async false
set_option linter.all false
set_option maxRecDepth 100000
set_option maxHeartbeats 4000000
namespace L2
open PySem PySem.Spec PyProof.Rows LX
/-! ### sort of a list that already rises -/
section
variable {cmp : Nat → Nat → (Bool → Shared → Prop) → Shared → Prop} {s : Shared}
theorem ranged {n i : Nat} (h : i < n) : (List.toArray (List.range n)).getD i 0 = i := by simp [Array.getD, h]
theorem asc_up {n : Nat} {Q : Nat → Shared → Prop} (h : ∀ i, 1 ≤ i → i < n → ∀ C : Bool → Shared → Prop, C false s → cmp i (i - 1) C s) (q : Q n s) : ∀ (f k : Nat), 1 ≤ k → k + f = n → (PySem.W.kas_asc (List.toArray (List.range n)) f k).kasWp cmp Q s
  | 0, k, _, e => by
    have : k = n := by omega
    subst this
    exact q
  | f + 1, k, h1, e => by
    unfold PySem.W.kas_asc
    show cmp ((List.toArray (List.range n)).getD k 0) ((List.toArray (List.range n)).getD (k - 1) 0) _ s
    rw [ranged (by omega), ranged (by omega)]
    refine h k h1 (by omega) _ ?_
    simp only [Bool.false_eq_true, if_false]
    exact asc_up h q f (k + 1) (by omega) (by omega)
theorem sort_up {n : Nat} {G : Array Nat → Shared → Prop} (h1 : 1 ≤ n) (h : ∀ i, 1 ≤ i → i < n → ∀ C : Bool → Shared → Prop, C false s → cmp i (i - 1) C s) (q : G (List.toArray (List.range n)) s) : (PySem.W.kas_sort n).kasWp cmp G s := by
  unfold PySem.W.kas_sort PySem.W.kas_count
  rw [PySem.W.KasT.kasWp_bind, PySem.W.KasT.kasWp_bind]
  refine asc_up h ?_ (n - 1) 1 (Nat.le_refl _) (by omega)
  rw [if_pos (by simp)]
  show (if n < n then _ else _ : PySem.W.KasT (Array Nat)).kasWp cmp G s
  rw [if_neg (Nat.lt_irrefl n)]
  exact q
end
theorem getD_range (vs : List Value) : (List.range vs.length).map (fun i => vs.getD i Value.none) = vs := by
  refine List.ext_getElem (by simp) fun i h1 h2 => ?_
  simp at h1
  simp [h1]
section
variable {P : Program} {w : World} {A : Around} {E : Value → Shared → Prop} {s : Shared}
/-- what sort() asks of a list that rises -/
def Rises (P : Program) (w : World) (A : Around) (vs : List Value) (s : Shared) : Prop := ∃ κ : SortKind, (∀ (Q : SortKind → Shared → Prop) (E : Value → Shared → Prop), Q κ s → wpAny (model P w) A (keyKind' vs.toArray) Q E s) ∧
  ∀ i, 1 ≤ i → i < vs.length → ∀ C : Bool → Shared → Prop, C false s → PySem.W.kas_ask P w A κ vs i (i - 1) C s
theorem sort_risen {a : Addr} {vs : List Value} {n : Nat} {F : Fin → Shared → Prop} (ho : s.heap.get? a = some (seqObj "list" vs.toArray n)) (h64 : vs.length < 64)
    (hr : 2 ≤ vs.length → ∀ h' : Heap, (∀ b o, b ≠ a → s.heap.get? b = some o → h'.get? b = some o) → Rises P w A vs { s with heap := h' }) (q : F (.done (.ret .none)) { s with heap := sortedHeap s.heap a vs vs.toArray }) :
    wpAny (model P w) A (Builtin.«list.sort» ⟨[.ref a], []⟩) F E s := by
  rw [list_sort_plain]
  have ha : a < s.heap.objs.size := Heap.lt_size ho
  refine wpAny_bind (listItems_at ho rfl (wpAny_bind (listUpdate_at ho rfl ?_ (by rw [List.size_toArray, sizeLine_eq]; omega) (Nat.zero_le _))))
  obtain ⟨e1, g1⟩ : ∃ e1, (s.heap.update a (Obj.mapSeq fun _ => #[])).get? a = some (seqObj "list" #[] e1) := ⟨_, get?_update_seq ho (fun _ => #[])⟩
  refine wpAny_bind (seqEpoch_at g1 rfl (wpAny_bind (wpAny_newTuple (wpAny_bind (wpAny_newList (wpAny_holding ?_) (Nat.zero_le _))) (by show vs.length ≤ _; rw [sizeLine_eq]; omega))))
  obtain ⟨h3, eh3⟩ : ∃ h3, ((s.heap.update a (Obj.mapSeq fun _ => #[])).push (seqObj "tuple" vs.toArray 0)).push (seqObj "list" #[] 0) = h3 := ⟨_, rfl⟩
  have g6 : h3.get? a = some (seqObj "list" #[] e1) := by
    rw [← eh3]
    exact Heap.get?_push_of_some _ (Heap.get?_push_of_some _ g1)
  have kp : ∀ b o, b ≠ a → s.heap.get? b = some o → h3.get? b = some o := fun b o hb e => by
    rw [← eh3]
    exact Heap.get?_push_of_some _ (Heap.get?_push_of_some _ ((Heap.get?_update_ne _ _ _ _ hb).trans e))
  have q' : F (.done (.ret .none)) { s with heap := h3.update a (Obj.mapSeq fun _ => vs.toArray) } := by
    rw [← eh3]
    exact q
  show wpAny (model P w) A _ F E { s with heap := ((s.heap.update a (Obj.mapSeq fun _ => #[])).push (seqObj "tuple" vs.toArray 0)).push (seqObj "list" #[] 0) }
  rw [eh3]
  dsimp only
  have zs : vs.toArray.size = vs.length := by simp
  have zz : ∀ xs : Array Value, xs = vs.toArray → xs.size ≤ sizeLine + 1 := fun xs e => by rw [e, zs, sizeLine_eq]; omega
  by_cases h2 : vs.toArray.size < 2
  · rw [if_pos h2, if_pos h2]
    refine wpAny_bind (wpAny_pure ?_)
    rw [StateT.run_pure]
    have em : (arrOf (SortSt.mk' general' (vs.toArray.zip vs.toArray) #[] 7 none)).map (·.2) = vs.toArray := by
      show (vs.toArray.zip vs.toArray).map (·.2) = vs.toArray
      apply Array.toList_inj.mp
      simp [List.map_snd_zip]
    refine wpAny_bind (wpAny_pure (wpAny_bind (seqEpoch_at g6 rfl (wpAny_bind (listUpdate_at g6 rfl ?_ (Nat.zero_le _) (zz _ em))))))
    rw [em]
    simp only [bne_self_eq_false, Bool.false_eq_true, if_false]
    exact wpAny_pure q'
  · rw [if_neg h2, if_neg h2]
    have l2 : 2 ≤ vs.length := by omega
    obtain ⟨κ, k1, k2⟩ := hr l2 h3 kp
    refine wpAny_bind (k1 _ _ ?_)
    refine wpAny_bind (wpAny_mono (PySem.W.kat_run (ks := vs) (vs := vs) (Q := fun st' s' => s' = { s with heap := h3 } ∧ failedOf st' = none ∧ (arrOf st').map (·.2) = vs.toArray) (G := fun p s' => s' = { s with heap := h3 } ∧ p = List.toArray (List.range vs.length)) rfl l2 h64
      (fun p st' s' _ a2 a3 ⟨a4, a5⟩ => ⟨a4, a3, by rw [PySem.W.kat_snds rfl a2, a5]; show List.toArray ((List.range vs.length).map fun i => vs.getD i Value.none) = _; rw [getD_range]⟩) (sort_up (by omega) k2 ⟨rfl, rfl⟩)) ?_ fun _ _ e => e)
    rintro ⟨⟨⟩, st'⟩ s' ⟨rfl, hf, em⟩
    dsimp only
    dsimp only at hf em
    refine wpAny_bind (seqEpoch_at g6 rfl (wpAny_bind (listUpdate_at g6 rfl ?_ (Nat.zero_le _) (zz _ em))))
    rw [hf, em]
    simp only [bne_self_eq_false, Bool.false_eq_true, if_false]
    exact wpAny_pure q'
end
end L2
end
section
set_option Elab.async false
set_option linter.all false
set_option maxRecDepth 100000
set_option maxHeartbeats 4000000
namespace L2
open PySem PySem.Spec PyProof.Rows LX
/-! ### a dict, whatever its keys, walked -/
def EntAt (h : Heap) (d : Addr) (es : Array DictEntry) (ep : Nat) : Prop := ∃ o, h.get? d = some o ∧ o.ExactDict ∧ o.data = .dict es ep
theorem EntAt.keep {h h' : Heap} {d : Addr} {es : Array DictEntry} {ep : Nat} (x : EntAt h d es ep) (k : ∀ o, h.get? d = some o → h'.get? d = some o) : EntAt h' d es ep := let ⟨o, e, r⟩ := x; ⟨o, k o e, r⟩
theorem EntAt.typeIs {s : Shared} {d : Addr} {es : Array DictEntry} {ep : Nat} (x : EntAt s.heap d es ep) : s.TypeIs (.ref d) "dict" := let ⟨o, e, c, _⟩ := x; ⟨o, e, c.1⟩
theorem EntAt.lt {h : Heap} {d : Addr} {es : Array DictEntry} {ep : Nat} (x : EntAt h d es ep) : d < h.objs.size := let ⟨_, e, _⟩ := x; Heap.lt_size e
section
variable {P : Program} {w : World} {A : Around} {E : Value → Shared → Prop} {s : Shared} {d it : Addr} {es : Array DictEntry} {ep : Nat}
theorem EntAt.pyIter {Q : Value → Shared → Prop} (x : EntAt s.heap d es ep) (hd : (d == sysModules) = false) (q : Q (.ref s.heap.objs.size) { s with heap := s.heap.push { cls := .type "dict_keyiterator", data := .fields #[.ref d, .int 0 0, .int es.size 0, .int ep 0] } }) :
    wpAny (model P w) A (PySem.pyIter (.ref d)) Q E s := by
  have T := x.typeIs
  obtain ⟨o, g, c, gd⟩ := x
  refine wpAny_pyIter_slot T PySem.F.slot_dict_iter (wpAny_call_entry PySem.F.slot_dict_iter T PySem.F.entry_dict_iter ?_ (PySem.F.args_dict_iter_1 _))
  unfold Builtin.«dict.__iter__»
  refine wpAny_bind (?_ : wpAny _ _ _ _ _ s)
  unfold Builtin.Dict.dictSlotNone
  refine wpAny_bind (wpAny_notOrdered_dict T (wpAny_pure (?_ : wpAny _ _ (Builtin.Dict.showsAll d >>= _) _ _ s)))
  unfold Builtin.Dict.showsAll
  rw [if_neg (by rw [hd]; decide)]
  refine wpAny_bind (wpAny_pure (wpAny_bind (wpAny_dictEntries g gd (wpAny_bind (wpAny_dictEpoch g gd (wpAny_bind (wpAny_newObj_type (wpAny_pure ⟨_, rfl, "dict_keyiterator", _, ⟨_, Heap.get?_push_size _ rfl, rfl⟩, PySem.F.slot_dict_keyiterator_next.lookup, ?_⟩)))))))) 
  simpa [rawInt] using q
theorem EntAt.item {i : Nat} {en : DictEntry} {Q : Option Value → Shared → Prop} (x : EntAt s.heap d es ep) (hit : s.heap.IsKeyIter it d i es.size ep) (hx : es[i]? = some en) (q : ∀ h', h'.IsKeyIter it d (i + 1) es.size ep → Heap.SameBut it s.heap h' → Q (some en.key) { s with heap := h' }) :
    wpAny (model P w) A (pyNext (.ref it)) Q E s := by
  obtain ⟨o, g, c, gd⟩ := id hit
  obtain ⟨od, g2, c2, gd2⟩ := x
  unfold pyNext
  refine wpAny_bind (wpAny_attempt (wpAny_callSpecial?_slot (name := Str.ofString "__next__") hit.typeIs PySem.F.slot_dict_keyiterator_next (wpAny_call_entry PySem.F.slot_dict_keyiterator_next hit.typeIs PySem.F.entry_dict_keyiterator_next (wpAny_bind (wpAny_pure (wpAny_bind (wpAny_bind ?_)))) (PySem.F.args_dict_keyiterator_next_1 _))))
  first | refine wpAny_bind (wpAny_typeNameOfWhole_keyiter hit.typeIs (wpAny_pure (wpAny_bind (wpAny_fieldsOf g gd ?_)))) | refine wpAny_bind (wpAny_typeNameOf_keyiter hit.typeIs (wpAny_pure (wpAny_bind (wpAny_fieldsOf g gd ?_))))
  simp only [show Builtin.Dict_items.ownsTuple "dict_keyiterator" = false by decide, Bool.false_eq_true, if_false]
  show wpAny _ _ (if (Value.ref d == Value.none) = true then _ else _) _ _ s
  rw [if_neg (show ¬ (Value.ref d == Value.none) = true from Bool.false_ne_true)]
  refine wpAny_bind (wpAny_pure (wpAny_bind (wpAny_dictEntries g2 gd2 ?_)))
  rw [if_neg (by simp)]
  refine wpAny_bind (wpAny_pure (wpAny_bind (wpAny_dictEpoch g2 gd2 ?_)))
  rw [if_neg (by simp)]
  refine wpAny_pure ?_
  simp only [show ¬ (i : Int) < 0 by omega, if_false, Int.toNat_natCast, hx]
  refine wpAny_bind ?_
  first | refine wpAny_bind (wpAny_typeNameOfWhole_keyiter hit.typeIs (wpAny_pure (wpAny_bind (wpAny_isOneOf_keyiter hit.typeIs ?_)))) | refine wpAny_bind (wpAny_typeNameOf_keyiter hit.typeIs (wpAny_pure (wpAny_bind (wpAny_isOneOf_keyiter hit.typeIs ?_))))
  show wpAny _ _ (setField (.ref it) 1 (rawInt ((i : Int) + 1)) >>= _) _ _ s
  refine wpAny_bind (wpAny_setField g gd (by simp) ?_)
  obtain ⟨h', eh⟩ : ∃ h', s.heap.update it (Obj.mapFields (·.setIfInBounds 1 (rawInt ((i : Int) + 1)))) = h' := ⟨_, rfl⟩
  have sb : Heap.SameBut it s.heap h' := by rw [← eh]; exact Heap.SameBut.update ..
  have hit2 : h'.IsKeyIter it d (i + 1) es.size ep := by
    rw [← eh]
    exact ⟨_, Heap.get?_update_self _ g (Obj.isFreed_of_fields (Obj.data_mapFields gd _)), (Obj.cls_mapFields ..).trans c, by rw [Obj.data_mapFields gd]; simp [rawInt]⟩
  rw [eh]
  refine wpAny_bind (wpAny_holding (wpAny_bind (wpAny_isOneOf_keyiter (s := { s with heap := h' }) hit2.typeIs ?_)))
  show wpAny _ _ (pure en.key) _ _ _
  exact wpAny_pure (wpAny_pure ⟨_, rfl, wpAny_pure (q _ hit2 sb)⟩)
theorem EntAt.stop {Q : Option Value → Shared → Prop} (hh : A.handled = none) (x : EntAt s.heap d es ep) (hit : s.heap.IsKeyIter it d es.size es.size ep) (q : ∀ h', Heap.ExtBut it s.heap h' → Q none { s with heap := h' }) : wpAny (model P w) A (pyNext (.ref it)) Q E s := by
  obtain ⟨o, g, c, gd⟩ := id hit
  obtain ⟨od, g2, c2, gd2⟩ := x
  unfold pyNext
  refine wpAny_bind (wpAny_attempt (wpAny_callSpecial?_slot (name := Str.ofString "__next__") hit.typeIs PySem.F.slot_dict_keyiterator_next (wpAny_call_entry PySem.F.slot_dict_keyiterator_next hit.typeIs PySem.F.entry_dict_keyiterator_next (wpAny_bind (wpAny_pure (wpAny_bind (wpAny_bind ?_)))) (PySem.F.args_dict_keyiterator_next_1 _))))
  first | refine wpAny_bind (wpAny_typeNameOfWhole_keyiter hit.typeIs (wpAny_pure (wpAny_bind (wpAny_fieldsOf g gd ?_)))) | refine wpAny_bind (wpAny_typeNameOf_keyiter hit.typeIs (wpAny_pure (wpAny_bind (wpAny_fieldsOf g gd ?_))))
  simp only [show Builtin.Dict_items.ownsTuple "dict_keyiterator" = false by decide, Bool.false_eq_true, if_false]
  show wpAny _ _ (if (Value.ref d == Value.none) = true then _ else _) _ _ s
  rw [if_neg (show ¬ (Value.ref d == Value.none) = true from Bool.false_ne_true)]
  refine wpAny_bind (wpAny_pure (wpAny_bind (wpAny_dictEntries g2 gd2 ?_)))
  rw [if_neg (by simp)]
  refine wpAny_bind (wpAny_pure (wpAny_bind (wpAny_dictEpoch g2 gd2 ?_)))
  rw [if_neg (by simp)]
  refine wpAny_pure ?_
  simp only [show ¬ (es.size : Int) < 0 by omega, if_false, Int.toNat_natCast, Array.getElem?_eq_none (Nat.le_refl es.size)]
  refine wpAny_bind ?_
  first | refine wpAny_bind (wpAny_typeNameOfWhole_keyiter hit.typeIs (wpAny_pure (?_ : wpAny _ _ (setField (.ref it) 0 .none >>= _) _ _ s))) | refine wpAny_bind (wpAny_typeNameOf_keyiter hit.typeIs (wpAny_pure (?_ : wpAny _ _ (setField (.ref it) 0 .none >>= _) _ _ s)))
  refine wpAny_bind (wpAny_setField g gd (by simp) (?_ : wpAny _ _ (newExc (.type "StopIteration") [] >>= fun e => raiseNew e) _ _ _))
  refine stop_flies hh fun h' e k ⟨oe, ge, ce⟩ => ?_
  refine wpAny_bind (wpAny_isInstance (T := "StopIteration") (b := true) ⟨_, ge, ce⟩ isSubtype_stop ?_)
  exact wpAny_pure (q _ fun b ob hb z => k b ob ((Heap.SameBut.update ..).extBut b ob hb z))
theorem walks_ent (hh : A.handled = none) (I : Addr) (hne : d ≠ I) : Walks P w A I [I, d] [I] es.size (fun i v => ∃ en, es[i]? = some en ∧ v = en.key) (fun i h => h.IsKeyIter I d i es.size ep ∧ EntAt h d es ep) where
  sub := fun b hb => List.mem_cons.mpr (.inl (List.mem_singleton.mp hb))
  frame := fun _ _ _ st hk => ⟨st.1.at fun o e => hk I List.mem_cons_self o e, st.2.keep fun o e => hk d (List.mem_cons_of_mem _ (List.mem_singleton.mpr rfl)) o e⟩
  item := fun i s Q E hi st hQ => st.2.item st.1 (Array.getElem?_eq_getElem hi) fun h' it' sb => hQ _ h' s.toks ⟨_, Array.getElem?_eq_getElem hi, rfl⟩ ⟨it', st.2.keep fun o e => sb.extBut d o hne e⟩ fun b o hb e => sb.extBut b o (fun z => hb (List.mem_singleton.mpr z)) e
  done := fun s Q E st hQ => st.2.stop hh st.1 fun h' he => hQ h' s.toks fun b o hb e => he b o (fun z => hb (List.mem_singleton.mpr z)) e
  self := fun _ _ _ _ st hQ => wpAny_pyIter_keyiter st.1 hQ
theorem src_ent (lo : (d == sysModules) = false) : PySem.W.KdlSrc P w "dict" d d es.size (fun i v => ∃ en, es[i]? = some en ∧ v = en.key) (fun h => EntAt h d es ep) where
  type := fun _ x => x.typeIs
  there := fun _ x => ⟨x.lt, x.lt⟩
  keep := fun _ _ x k => x.keep fun o e => k d (.inl rfl) o e
  notList := by decide
  notTuple := by decide
  hint := fun _ _ _ _ x hq => PySem.W.kdl_hint_dict x.typeIs hq
  iter := fun _ _ hh x => ⟨_, _, (fun _ _ hq => x.pyIter lo hq), walks_ent hh _ (Nat.ne_of_lt x.lt), ⟨⟨_, Heap.get?_push_size _ rfl, rfl, rfl⟩, x.keep fun o e => Heap.get?_push_of_some _ e⟩⟩
end
end L2
end
section
set_option Elab.async false
set_option linter.all false
set_option maxRecDepth 100000
set_option maxHeartbeats 4000000
namespace L2
open PySem PySem.Spec PyProof.Rows LX
/-! ### a dict whose keys are ways -/
def WayAt (K : PySem.W.Frag) (H : Hp) (a : Addr) (k : WK) : Prop := ∃ p, SqT K H a [.int k.1, .int k.2.1, .ref p] ∧ SqT K H p (k.2.2.map V.int)
abbrev WE := WK × Addr × V
abbrev WRel : List WE → List (WK × Addr × Value) → Prop := Paired fun p q => p.1 = q.1 ∧ p.2.1 = q.2.1 ∧ RelV p.2.2 q.2.2
def WFact (P : Program) (w : World) (a : Addr) (kvs : List WE) (h : Heap) : Prop := kvs.length ≤ 1000 ∧ (a == sysModules) = false ∧ ∃ xs, WRel kvs xs ∧ (∃ o es ep, h.get? a = some o ∧ o.ExactDict ∧ o.data = .dict es ep ∧ es.toList = xs.map (entryOfKey (wayKind P w))) ∧ (xs.map (·.1)).Nodup
def WDO (P : Program) (w : World) (a : Addr) (kvs : List WE) : HO := .ext (WFact P w a kvs)
theorem WFact.keep {P : Program} {w : World} {a : Addr} {kvs : List WE} (h1 h2 : Heap) (x : WFact P w a kvs h1) (k : ∀ o, h1.get? a = some o → h2.get? a = some o) : WFact P w a kvs h2 := by
  obtain ⟨z, d, xs, r, ⟨o, es, ep, g, t⟩, n⟩ := x
  exact ⟨z, d, xs, r, ⟨o, es, ep, k o g, t⟩, n⟩
theorem WFact.obj {P : Program} {w : World} {a : Addr} {kvs : List WE} {h : Heap} {H : Hp} (x : WFact P w a kvs h) : ObjOk P w H h a (WDO P w a kvs) :=
  ⟨x, let ⟨_, _, _, _, ⟨o, _, _, g, _⟩, _⟩ := x; ⟨o, g⟩, fun _ _ => WFact.keep _ _⟩
section
variable {X : Cx} {pins : List (Addr × Obj)} {σ : St} {H : Hp} {s : Shared} {a b : Addr} {kvs : List WE} {k : WK} {A : Around} {E : Value → Shared → Prop}
theorem WayAt.is (I : Inv X pins σ H s) (x : WayAt X.K H a k) : IsWay X.prog X.w s.heap k a := by
  obtain ⟨p, h1, h2⟩ := x
  obtain ⟨vs, r1, t1, _⟩ := I.tuple h1
  obtain ⟨ws, r2, ⟨o, go, gc, n, gd⟩, _⟩ := I.tuple h2
  obtain ⟨u0, u1, u2, rfl, ⟨n0, rfl⟩, ⟨n1, rfl⟩, e2⟩ := valsT r1
  cases e2
  refine ⟨n0, n1, p, t1, o, ws.toArray, n, go, gc, gd, ?_⟩
  have : ∀ {ns : List Int} {us : List Value}, Vals (ns.map V.int) us → ItemsAre (intKind X.prog X.w) ns us := fun {ns} => by
    induction ns with
    | nil =>
      intro us r
      rw [List.map_nil] at r
      cases r
      exact .nil
    | cons m ns ih =>
      intro us r
      rw [List.map_cons] at r
      cases r with
      | cons r1 r2 =>
        obtain ⟨t, rfl⟩ := r1
        exact .cons (intKind_is _ _ _ _) (ih r2)
  exact this r2
theorem WRel.mem {xs : List (WK × Addr × Value)} (r : WRel kvs xs) : ∀ x ∈ xs, ∃ e ∈ kvs, e.1 = x.1 ∧ e.2.1 = x.2.1 := by
  induction r with
  | nil => exact fun x hx => nomatch hx
  | @cons p q ps qs h t ih =>
    intro x hx
    rcases List.mem_cons.mp hx with rfl | hx
    · exact ⟨p, List.mem_cons_self, h.1, h.2.1⟩
    · obtain ⟨e, he, z⟩ := ih x hx
      exact ⟨e, List.mem_cons_of_mem _ he, z⟩
theorem WRel.keys {xs : List (WK × Addr × Value)} (r : WRel kvs xs) : kvs.map (·.1) = xs.map (·.1) := by
  induction r with
  | nil => rfl
  | @cons p q ps qs h t ih => rw [List.map_cons, List.map_cons, ih, h.1]
theorem WRel.none {xs : List (WK × Addr × Value)} (r : WRel kvs xs) (h : k ∉ kvs.map (·.1)) : atKey xs k = none := by
  unfold atKey
  rw [Option.map_eq_none_iff, List.find?_eq_none]
  intro x hx z
  refine h ?_
  rw [r.keys]
  exact List.mem_map.mpr ⟨x, hx, of_decide_eq_true z⟩
theorem WRel.some {xs : List (WK × Addr × Value)} (r : WRel kvs xs) (nd : (kvs.map (·.1)).Nodup) {v : V} (h : (k, b, v) ∈ kvs) : ∃ u, atKey xs k = some (b, u) ∧ RelV v u := by
  induction r with
  | nil => exact nomatch h
  | @cons p q ps qs hq t ih =>
    rw [List.map_cons, List.nodup_cons] at nd
    rcases List.mem_cons.mp h with e | e
    · rw [← e] at hq
      obtain ⟨q1, q2, q3⟩ := q
      obtain ⟨e1, e2, e3⟩ := hq
      simp only at e1 e2 e3
      refine ⟨q3, ?_, e3⟩
      simp [atKey, List.find?_cons, ← e1, ← e2]
    · obtain ⟨u, h1, h2⟩ := ih nd.2 e
      refine ⟨u, ?_, h2⟩
      have ne : ¬ q.1 = k := fun z => nd.1 (by rw [hq.1, z]; exact List.mem_map.mpr ⟨_, e, rfl⟩)
      have : atKey (q :: qs) k = atKey qs k := by simp [atKey, List.find?_cons, ne]
      rw [this]
      exact h1
theorem wd_of (I : Inv X pins σ H s) (e : H a = some (WDO X.prog X.w a kvs)) (hw : ∀ e ∈ kvs, WayAt X.K H e.2.1 e.1) : kvs.length ≤ 1000 ∧ (a == sysModules) = false ∧ ∃ xs, WRel kvs xs ∧ s.heap.DictOfH (wayKind X.prog X.w) a xs := by
  obtain ⟨⟨z, d, xs, r, ⟨o, es, ep, g, c, gd, ge⟩, n⟩, _⟩ := (show ObjOk X.prog X.w H s.heap a (WDO X.prog X.w a kvs) from I.hok a _ e)
  refine ⟨z, d, xs, r, o, es, ep, g, c, gd, ge, fun x hx => ?_, n⟩
  obtain ⟨e', he, e1, e2⟩ := r.mem x hx
  rw [← e1, ← e2]
  exact (hw e' he).is I
theorem room_way (hu : A.units + 2 < cLine) : (wayKind X.prog X.w).room A.in1 := by
  show A.in1.units + 1 < cLine
  rw [Around.in1_units]
  exact hu
end
/-- {}, to be a dict with ways as keys -/
def tDNewW (P : Program) (w : World) : TE := fun _ H Q => ∀ p, H p = none → Q (.ref p) (upd H p (WDO P w p []))
def sWPut (P : Program) (w : World) (K : PySem.W.Frag) (td ty tv : TE) : TS := fun D σ H => tv σ H fun v H1 => td σ H1 fun x H2 => ty σ H2 fun y H3 => ∃ (a b : Addr) (kvs : List WE) (k : WK), x = .ref a ∧ y = .ref b ∧ H3 a = some (WDO P w a kvs) ∧ (∀ e ∈ kvs, WayAt K H3 e.2.1 e.1) ∧ WayAt K H3 b k ∧ k ∉ kvs.map (·.1) ∧ kvs.length < 1000 ∧
  D.nx σ (upd H3 a (WDO P w a (kvs ++ [(k, b, v)])))
def tWGet (P : Program) (w : World) (K : PySem.W.Frag) (td ty : TE) : TE := fun σ H Q => td σ H fun x H1 => ty σ H1 fun y H2 => ∃ (a b c : Addr) (kvs : List WE) (k : WK) (v : V), x = .ref a ∧ y = .ref b ∧ H2 a = some (WDO P w a kvs) ∧ (∀ e ∈ kvs, WayAt K H2 e.2.1 e.1) ∧ WayAt K H2 b k ∧ (k, c, v) ∈ kvs ∧ Q v H2
section
variable {X : Cx} {pos pos' : Pos} {o i value : Expr} {td ty tv : TE}
theorem pe_dnewW : PE X (.Dict [] [] pos) (tDNewW X.prog X.w) := fun pins s σ H Q I h =>
  wpAny_Dict_empty ⟨.ref s.heap.objs.size, _, I.laid (a := s.heap.objs.size) (o := WDO X.prog X.w s.heap.objs.size []) (t' := s.toks) (fun _ _ q => Heap.get?_push_of_some _ q) (Nat.le_refl _) (WFact.obj ⟨Nat.zero_le _, beq_eq_false_iff_ne.mpr (Ne.symm (Nat.ne_of_lt I.big)), [], .nil, ⟨_, #[], 0, Heap.get?_push_size _ rfl, ⟨rfl, rfl, rfl⟩, rfl, rfl⟩, List.nodup_nil⟩), rfl, h _ (I.hok.fresh (Nat.le_refl _))⟩
theorem ps_wput (hu : X.A.units + 2 < cLine) (ho : PE X o td) (hi : PE X i ty) (hv : PE X value tv) (hs : swapsWith value (some (.Subscript o i pos')) pos.line X.env = pure false) : PS X (.Assign [.Subscript o i pos'] value pos) (sWPut X.prog X.w X.K td ty tv) := by
  intro pins s σ H D I h
  refine wpAny_Assign_Subscript (thn (hv pins s σ H _ I h) fun r s1 ⟨v, H1, I1, rv, q1⟩ => thn (ho pins s1 σ H1 _ I1 q1) fun u s2 ⟨x, H2, I2, rx, q2⟩ => thn (hi pins s2 σ H2 _ I2 q2) fun iv s3 ⟨y, H3, I3, ry, a, b, kvs, k, ex, ey, e, hw, wk, nk, hl, q3⟩ => ?_) hs
  subst ex ey
  obtain rfl : u = Value.ref a := rx
  obtain rfl : iv = Value.ref b := ry
  obtain ⟨z, hd, xs, rel, dd⟩ := wd_of I3 e hw
  have lx : xs.length = kvs.length := (Paired.length rel).symm
  refine wpAny_setItem_heap (hsz := Nat.le_trans (show xs.length ≤ 1000 by omega) (by decide)) (room_way hu) (wk.is I3) dd fun h' dd' hs' => ⟨σ, _, ?_, q3⟩
  rw [storedH_new (rel.none nk)] at dd'
  obtain ⟨q, es, ep, hq, h2, h3, h4, _, h5⟩ := dd'
  exact d_write I3 (by rw [e]; exact True.intro) hs' ⟨q, hq⟩ (WFact.obj ⟨by rw [List.length_append]; exact hl, hd, _, Paired.snoc rel ⟨rfl, rfl, rv⟩, ⟨q, es, ep, hq, h2, h3, h4⟩, h5⟩)
theorem pe_wget (hu : X.A.units + 2 < cLine) (ho : PE X o td) (hi : PE X i ty) (hs : NoSl i) : PE X (.Subscript o i pos) (tWGet X.prog X.w X.K td ty) := by
  intro pins s σ H Q I h
  refine subD_of PySem.F.slot_dict_getitem.lookup hs (thn (ho pins s σ H _ I h) fun u s1 ⟨x, H1, I1, rx, q1⟩ => thn (hi pins s1 σ H1 _ I1 q1) fun iv s2 ⟨y, H2, I2, ry, a, b, c, kvs, k, v, ex, ey, e, hw, wk, hm, q2⟩ => ?_)
  subst ex ey
  obtain rfl : u = Value.ref a := rx
  obtain rfl : iv = Value.ref b := ry
  obtain ⟨z, hd, xs, rel, dd⟩ := wd_of I2 e hw
  obtain ⟨_, _, _, _, _, _, _, _, nd⟩ := id dd
  obtain ⟨u, hu1, hu2⟩ := rel.some (by rw [rel.keys]; exact nd) hm
  exact ⟨dd.typeIs, wpAny_getItem_heap (room_way hu) (wk.is I2) dd hu1 ⟨v, H2, I2.tok _, hu2, q2⟩⟩
end
/-! ### sorted() of it -/
section
variable {X : Cx} {pins : List (Addr × Obj)} {σ : St} {H : Hp} {s : Shared} {A : Around} {E : Value → Shared → Prop}
abbrev kLt (x y : WK) : Bool := wayLt x.1 x.2.1 x.2.2 y.1 y.2.1 y.2.2
theorem way_lt (I : Inv X pins σ H s) {a b : Addr} {x y : WK} (hx : WayAt X.K H a x) (hy : WayAt X.K H b y) (hl : x.1 = y.1 → x.2.2.length = y.2.2.length) (hu : A.units < cLine) {Q : Bool → Shared → Prop} (q : Q (kLt x y) s) : wpAny (model X.prog X.w) A (keyLt' (tuples' true) (.ref a) (.ref b)) Q E s := by
  obtain ⟨p, ha, hp⟩ := hx
  obtain ⟨p', hb, hp'⟩ := hy
  obtain ⟨vs, r1, t1, _⟩ := I.tuple ha
  obtain ⟨ws, r2, t2, _⟩ := I.tuple hb
  obtain ⟨ps, r3, t3, _⟩ := I.tuple hp
  obtain ⟨qs, r4, t4, _⟩ := I.tuple hp'
  obtain ⟨v0, v1, v2, rfl, ⟨n0, rfl⟩, ⟨n1, rfl⟩, e2⟩ := valsT r1
  obtain ⟨w0, w1, w2, rfl, ⟨m0, rfl⟩, ⟨m1, rfl⟩, g2⟩ := valsT r2
  cases e2
  cases g2
  obtain ⟨o1, ho1, _, n, hd1⟩ := t1
  obtain ⟨o2, ho2, _, m, hd2⟩ := t2
  refine PySem.W.kat_lt ho1 hd1 ho2 hd2 (PySem.W.kat_cons (wpAny_eqBool_int ?_))
  unfold kLt wayLt at q
  by_cases h0 : x.1 = y.1
  · rw [if_pos h0] at q
    rw [show (x.1 == y.1) = true from beq_iff_eq.mpr h0]
    refine PySem.W.kat_yes (PySem.W.kat_cons (wpAny_eqBool_int ?_))
    by_cases h1 : x.2.1 = y.2.1
    · rw [if_pos h1] at q
      rw [show (x.2.1 == y.2.1) = true from beq_iff_eq.mpr h1]
      refine PySem.W.kat_yes (PySem.W.kat_cons (eqAt_ints I hp hp' (hl h0) hu _ _ _ _ ?_))
      by_cases h2 : x.2.2 = y.2.2
      · rw [decide_eq_true h2]
        refine PySem.W.kat_yes (PySem.W.kat_nil ?_)
        rw [h2, lexLt_self] at q
        exact q
      · rw [decide_eq_false h2]
        refine PySem.W.kat_no (PySem.W.kat_one _ _ (HT.lt_tupInts t3 t4 (intsAre_of r3) (intsAre_of r4) hu q))
    · rw [if_neg h1] at q
      rw [show (x.2.1 == y.2.1) = false from beq_eq_false_iff_ne.mpr h1]
      exact PySem.W.kat_no (PySem.W.kat_one _ _ (PyProof.Rows.lt_int q))
  · rw [if_neg h0] at q
    rw [show (x.1 == y.1) = false from beq_eq_false_iff_ne.mpr h0]
    exact PySem.W.kat_no (oneLt_int q)
abbrev refs (kvs : List WE) : List Value := kvs.map fun e => Value.ref e.2.1
theorem refs_at (kvs : List WE) {i : Nat} (h : i < kvs.length) : (refs kvs).getD i Value.none = .ref kvs[i].2.1 := by simp [List.getD, h]
theorem ways_tups (I : Inv X pins σ H s) : ∀ kvs : List WE, (∀ e ∈ kvs, WayAt X.K H e.2.1 e.1) → ∃ fs : List Value, fs.length = kvs.length ∧ (∀ v ∈ fs, ∃ n t, v = Value.int n t) ∧ PySem.W.KatTups s.heap (refs kvs) fs
  | [], _ => ⟨[], rfl, (fun v h => nomatch h), .nil⟩
  | e :: kvs, hw => by
    obtain ⟨fs, h1, h2, h3⟩ := ways_tups I kvs fun z hz => hw z (List.mem_cons_of_mem _ hz)
    obtain ⟨p, ha, _⟩ := hw e List.mem_cons_self
    obtain ⟨vs, r1, ⟨o, go, gc, n, gd⟩, _⟩ := I.tuple ha
    obtain ⟨v0, v1, v2, rfl, ⟨n0, rfl⟩, ⟨n1, rfl⟩, e2⟩ := valsT r1
    refine ⟨.int e.1.1 n0 :: fs, by rw [List.length_cons, List.length_cons, h1], fun v hv => ?_, .cons go gc gd rfl h3⟩
    rcases List.mem_cons.mp hv with rfl | hv
    · exact ⟨_, _, rfl⟩
    · exact h2 v hv
theorem ways_rise (I : Inv X pins σ H s) {kvs : List WE} (hw : ∀ e ∈ kvs, WayAt X.K H e.2.1 e.1) (hl : ∀ e ∈ kvs, e.1.1 = (e.1.2.2.length : Int)) (hp : kvs.Pairwise fun x y => kLt y.1 x.1 = false) (h2 : 2 ≤ kvs.length) (hu : A.units < cLine) : Rises X.prog X.w A (refs kvs) s := by
  refine ⟨tuples' true, fun Q E q => ?_, fun i h1 hi C c => ?_⟩
  · obtain ⟨fs, e1, e2, e3⟩ := ways_tups I kvs hw
    refine PySem.W.kat_kind (T := Value.type "int") e3 (by omega) (fun v hv => ?_) (by rfl) q
    obtain ⟨n, t, rfl⟩ := e2 v hv
    exact PySem.W.Looks.of_pure rfl
  · have hi' : i < kvs.length := by rwa [List.length_map] at hi
    unfold PySem.W.kas_ask
    rw [refs_at kvs hi', refs_at kvs (show i - 1 < kvs.length by omega)]
    have hm1 := List.getElem_mem hi'
    have hm2 := List.getElem_mem (show i - 1 < kvs.length by omega)
    refine way_lt I (hw _ hm1) (hw _ hm2) (fun e => ?_) hu ?_
    · have := hl _ hm1
      have := hl _ hm2
      omega
    · rw [List.pairwise_iff_getElem.mp hp (i - 1) i (by omega) hi' (by omega)]
      exact c
def rSortW (P : Program) (w : World) (K : PySem.W.Frag) : List V → Hp → VK → Prop := fun vs H Q => ∃ (a : Addr) (kvs : List WE), vs = [.ref a] ∧ H a = some (WDO P w a kvs) ∧ (∀ e ∈ kvs, WayAt K H e.2.1 e.1) ∧ (∀ e ∈ kvs, e.1.1 = (e.1.2.2.length : Int)) ∧ (kvs.Pairwise fun x y => kLt y.1 x.1 = false) ∧ kvs.length < 64 ∧
  ∀ l : Addr, H l = none → Q (.ref l) (upd H l (.lst (kvs.map fun e => V.ref e.2.1)))
theorem pair_at {α β : Type} {F : α → β → Prop} {l : List α} {m : List β} (r : Paired F l m) : ∀ j (h1 : j < l.length) (h2 : j < m.length), F l[j] m[j] := by
  induction r with
  | nil => exact fun j h => absurd h (Nat.not_lt_zero _)
  | cons h t ih =>
    intro j h1 h2
    cases j with
    | zero => exact h
    | succ j => exact ih j (Nat.lt_of_succ_lt_succ h1) (Nat.lt_of_succ_lt_succ h2)
theorem refs_vals : ∀ kvs : List WE, Vals (kvs.map fun e => V.ref e.2.1) (refs kvs)
  | [] => .nil
  | e :: kvs => .cons rfl (refs_vals kvs)
theorem call_sortedW (hc : X.calm = true) (hu : X.A.units + 2 < cLine) : CallR X (.builtin "sorted") (rSortW X.prog X.w X.K) := by
  rintro pins s σ H xs us Q I r ⟨a, kvs, rfl, ha, hw, hl, hp, h64, q⟩
  obtain ⟨u, rfl, ru⟩ := r.one
  cases (show u = Value.ref a from ru)
  obtain ⟨z, hd, xs, rel, ob, es, ep, g, c, gd, ge, _, _⟩ := wd_of I ha hw
  have hh := I.ok.hd hc
  have sz : es.size = kvs.length := by
    have := congrArg List.length ge
    rw [List.length_map, Array.length_toList] at this
    rw [this, Paired.length rel]
  have hk : ∀ j (h1 : j < es.size) (h2 : j < kvs.length), es[j].key = .ref kvs[j].2.1 := fun j h1 h2 => by
    have lx : xs.length = kvs.length := (Paired.length rel).symm
    have e1 : es[j]? = some (entryOfKey (wayKind X.prog X.w) (xs[j]'(by omega))) := by
      rw [← Array.getElem?_toList, ge, List.getElem?_map, List.getElem?_eq_getElem (by omega)]
      rfl
    rw [Array.getElem?_eq_getElem h1] at e1
    have e2 := Option.some.inj e1
    rw [e2]
    have e3 : kvs[j].2.1 = (xs[j]'(by omega)).2.1 := (pair_at rel j h2 (by omega)).2.1
    rw [e3]
    rfl
  refine Calls.call_function_entry kind_sorted plain_sorted entry_sorted (args_sorted1 _) ?_
  unfold Builtin.«sorted»
  refine wpAny_bind (m := checkCount "sorted" 1 1 _) (wpAny_pure (wpAny_bind (PySem.W.kdu_collect (A := X.A.in1) (src_ent (es := es) (ep := ep) hd) hh ⟨ob, g, c, gd⟩ (Nat.le_trans (show es.size ≤ 1000 by omega) (by decide)) fun h' tk acc hkp hacc => ?_)))
  have ea : acc.toList = refs kvs := by
    refine List.ext_getElem (by rw [Array.length_toList, List.length_map, hacc.1, sz]) fun j h1 h2 => ?_
    rw [Array.length_toList] at h1
    obtain ⟨en, e1, e2⟩ := hacc.2 j acc[j] (Array.getElem?_eq_getElem h1)
    have h3 : j < es.size := by rw [← hacc.1]; exact h1
    have h4 : j < kvs.length := by omega
    rw [Array.getElem?_eq_getElem h3] at e1
    rw [Array.getElem_toList, e2, ← Option.some.inj e1, hk j h3 h4, List.getElem_map]
  have I1 : Inv X pins σ H { s with heap := h', toks := tk } := I.kept (t' := tk) hkp
  rw [ea]
  refine wpAny_bind (wpAny_newList ?_ (by rw [List.length_map]; exact Nat.le_trans (show kvs.length ≤ 1000 by omega) (by decide)))
  have hoL : (h'.push (seqObj "list" (refs kvs).toArray 0)).get? h'.objs.size = some (seqObj "list" (refs kvs).toArray 0) := Heap.get?_push_size _ rfl
  show wpAny _ _ _ _ _ { s with heap := h'.push (seqObj "list" (refs kvs).toArray 0), toks := tk }
  refine wpAny_bind (wpAny_holding (wpAny_call_entry slot_list_sort ⟨_, hoL, rfl⟩ entry_list_sort (sort_risen hoL (by rw [List.length_map]; exact h64) (fun h2 h3 k3 => ?_) ⟨_, rfl, ?_⟩) (args_list_sort _)))
  · have I3 : Inv X pins σ H { s with heap := h3, toks := tk } := I1.kept (t' := tk) fun b o e => k3 b o (Nat.ne_of_lt (Heap.lt_size e)) (Heap.get?_push_of_some _ e)
    exact ways_rise I3 hw hl hp (by rwa [List.length_map] at h2) (by rw [Around.in1_units, Around.in1_units]; exact hu)
  · refine wpAny_pure ⟨_, rfl, ?_⟩
    obtain ⟨e, he⟩ := sortedHeap_at (out := (refs kvs).toArray) hoL
    refine ⟨.ref h'.objs.size, _, I1.laid (a := h'.objs.size) (o := .lst (kvs.map fun e => V.ref e.2.1)) (t' := tk) (fun b o hb => ?_) (Nat.le_refl _) ?_, rfl, q _ (I1.hok.fresh (Nat.le_refl _))⟩
    · have hlt := Heap.lt_size hb
      rw [sortedHeap_old (Nat.ne_of_lt hlt) (by rw [size_push']; exact Nat.lt_succ_of_lt hlt), Heap.get?_push_ne _ _ _ (Nat.ne_of_lt hlt)]
      exact hb
    · exact ⟨by rw [List.length_map]; exact Nat.le_trans (show kvs.length ≤ 1000 by omega) (by decide), refs kvs, e, refs_vals kvs, he⟩
end
end L2
end
section
set_option Elab.async false
set_option linter.all false
set_option maxRecDepth 100000
set_option maxHeartbeats 4000000
set_option exponentiation.threshold 4000
namespace K17
open PySem L2 LX
def top (i : Nat) : Stmt := PySem.Challenge.pw_stillheap_k17_reach_papers_told.main.body.getD i (.Pass ⟨0, 0, 0, 0⟩)
abbrev sLook : Stmt := top 5
abbrev sLTold : Stmt := top 6
abbrev sSteps : Stmt := top 7
abbrev sReach : Stmt := top 9
abbrev sJudged : Stmt := top 10
abbrev sIn : Stmt := top 11
abbrev sWithin : Stmt := top 12
abbrev sStep : Stmt := top 13
abbrev sTells : Stmt := top 14
abbrev sCell : Stmt := top 16
abbrev sWhole : Stmt := top 17
abbrev sDigits : Stmt := top 18
abbrev sStream : Stmt := top 19
abbrev sView : Stmt := top 20
abbrev sCopy : Stmt := top 21
abbrev sWays : Stmt := top 22
abbrev sDue : Stmt := top 23
abbrev sLaw : Stmt := top 24
section
variable {P : Program} {w : World} {K : PySem.W.Frag} {mg : Str → Option Value} {base : Heap}
/-- _law_cell -/
def spCell (K : PySem.W.Frag) : Sp := fun vs H Q _ => ∃ (a : Addr) (ns : List Int) (j : Nat), vs = [.ref a, .int j] ∧ SqL K H a (ns.map V.int) ∧ ∀ n : Int, Q (.int n) H
theorem ok_cell {f : Addr} {fd : FuncData} (F : Fun K "_law_cell" "_law_cell" sCell f fd) (zl : mg "len" = none) : FnOk P w K mg base (CXE P w) 1 f fd ["script", "k"] (spCell K) := by
  refine F.okE (N := ["script", "k"]) ⟨rfl, rfl, rfl, by decide +kernel, rfl, by decide +kernel, by decide +kernel⟩ (fun vs H Q E h => ?_) (fun cdv A outer s H vs Q E hr h => ?_)
  · obtain ⟨a, ns, j, rfl, _⟩ := h
    rfl
  · obtain ⟨a, ns, j, rfl, hS, k⟩ := h
    refine ⟨_, pss_cons (ps_if (pt_cmpR op_lt (pv 1) (pe_callB call_len_seq rfl zl PyProof.Rows.Boot.«len» (pa_cons (pv 0) pa_nil)) (nomark _)) (pss_one (ps_ret (pe_ix ix_list (pv 0) (pv 1) (fun _ _ => rfl)))) pss_nil) (pss_one (ps_ret pe_int)), ?_⟩
    refine ⟨_, rfl, _, rfl, a, _, rfl, .inl hS, _, _, rfl, rfl, _, rfl, ite2 (fun h => ?_) (fun _ => k 0)⟩
    simp only [List.length_map, decide_eq_true_eq] at h
    have hj : j < ns.length := by omega
    exact ⟨_, rfl, _, rfl, a, _, _, .int (ns[j]'hj), rfl, rfl, hS, atI_nat (by rw [List.getElem?_map, List.getElem?_eq_getElem hj]; rfl), k _⟩
/-- _law_digits -/
def spDigits : Sp := fun vs H Q _ => ∃ c : Int, vs = [.int c] ∧ ∀ (p : Addr) (ds : List Int) (H' : Hp), Same H H' → H' p = some (.lst (ds.map V.int)) → H p = none → ds.length = 6 → Q (.ref p) H'
theorem scD : FnScope ["cell", "rest", "told", "k", "near"] ["cell"] (defScope sDigits) := ⟨rfl, rfl, rfl, by decide +kernel, rfl, by decide +kernel, by decide +kernel⟩
theorem ok_digits {f : Addr} {fd : FuncData} (F : Fun K "_law_digits" "_law_digits" sDigits f fd) (zr : mg "range" = none) : FnOk P w K mg base (CXE P w) 1 f fd ["cell"] spDigits := by
  refine F.okE scD (fun vs H Q E h => ?_) (fun cdv A outer s H vs Q E hr h => ?_)
  · obtain ⟨c, rfl, _⟩ := h
    rfl
  · obtain ⟨c, rfl, k⟩ := h
    refine ⟨_, PSs.nox (pss_cons (ps_set (i := 1) scD.nd rfl (Or.inl rfl) (pe_op op_fdiv (pv 0) pe_int)) (pss_cons (ps_set (i := 2) scD.nd rfl (Or.inl rfl) (pe_lst pa_nil))
      (pss_cons (ps_for PassesOwn.never rfl (pi_range1 rfl zr (pa_cons pe_int pa_nil)) (pg_name (i := 3) scD.nd rfl (Or.inl rfl))
        (pss_one (ps_if (pt_cmpR op_eq (pe_op op_mod (pv 0) pe_int) pe_int (nomark _))
          (pss_cons (ps_expr (pe_bm PySem.F.plainAttrs_list PySem.F.slot_list_append PySem.F.type_list_append mt_append (pv 2) (pa_cons (pe_op op_mod (pv 1) pe_int) pa_nil))) (pss_one (ps_set (i := 1) scD.nd rfl (Or.inl rfl) (pe_op op_fdiv (pv 1) pe_int))))
          (pss_cons (ps_set (i := 4) scD.nd rfl (Or.inl rfl) (pe_op op_mod (pe_op op_add (pe_op op_add (pv 1) (pe_op op_mul pe_int (pv 3))) pe_int) pe_int))
          (pss_cons (ps_set (i := 4) scD.nd rfl (Or.inl rfl) (pe_op op_add (pe_op op_mod (pe_op op_mul (pv 4) (pv 4)) pe_int) (pe_op op_mul pe_int (pv 3))))
          (pss_one (ps_expr (pe_bm PySem.F.plainAttrs_list PySem.F.slot_list_append PySem.F.type_list_append mt_append (pv 2) (pa_cons (pe_op op_mod (pe_op op_fdiv (pe_op op_mod (pe_op op_mul (pv 4) (pv 4)) pe_int) pe_int) pe_int) pa_nil)))))))))
      (pss_one (ps_ret (pv 2)))))), ?_⟩
    refine ⟨_, rfl, c, 2, rfl, rfl, ⟨by decide, by decide⟩, by show 0 ≤ sizeLine; exact Nat.zero_le _, fun p hp => ?_⟩
    refine ⟨6, rfl, by decide, by decide, for_range (lo := 0) (n := 6) (fun i σ H2 => ∃ (r : Int) (v3 v4 : Option V) (ds : List Int), σ = [some (.int c), some (.int r), some (.ref p), v3, v4] ∧ Same H H2 ∧ H2 p = some (.lst (ds.map V.int)) ∧ ds.length = i)
      ⟨_, none, none, [], rfl, Same.upd hp, upd_same, rfl⟩ ?_ ?_⟩
    · rintro i σ H2 hi ⟨r, v3, v4, ds, rfl, s2, z, hl⟩
      have fin : ∀ d : Int, Same H (upd H2 p (.lst (ds.map V.int ++ [V.int d]))) ∧ upd H2 p (.lst (ds.map V.int ++ [V.int d])) p = some (.lst ((ds ++ [d]).map V.int)) ∧ (ds ++ [d]).length = i + 1 := fun d =>
        ⟨fun b u q => by rw [upd_ne (ne_of_none q hp)]; exact s2 b u q, by rw [upd_same, List.map_append]; rfl, by rw [List.length_append, hl]; rfl⟩
      have hz : (ds.map V.int).length < sizeLine := by rw [List.length_map, hl]; exact Nat.lt_trans hi (by decide)
      refine ⟨_, rfl, c, 2, rfl, rfl, (by show (0 : Int) < 2; decide), rfl, _, rfl, ite2 (fun _ => ?_) (fun _ => ?_)⟩
      · refine ⟨_, rfl, .inl ⟨rfl, _, SqL.of z⟩, _, rfl, r, 60, rfl, rfl, (by show (0 : Int) < 60; decide), p, _, _, rfl, rfl, z, hz, ?_⟩
        refine ⟨_, rfl, r, 60, rfl, rfl, ⟨by decide, by decide⟩, ?_⟩
        exact ⟨_, _, _, _, rfl, fin _⟩
      · refine ⟨_, rfl, _, rfl, 7919, _, rfl, rfl, .inl ⟨by decide, by decide⟩, r, _, rfl, rfl, _, 11, rfl, rfl, _, 2305843009213693951, rfl, rfl, (by show (0 : Int) < 2305843009213693951; decide), ?_⟩
        have b0 := Int.emod_nonneg (r + 7919 * (0 + (i : Int)) + 11) (show (2305843009213693951 : Int) ≠ 0 by decide)
        have b1 := Int.emod_lt_of_pos (r + 7919 * (0 + (i : Int)) + 11) (show (0 : Int) < 2305843009213693951 by decide)
        obtain ⟨n1, e1⟩ : ∃ n1, (r + 7919 * (0 + (i : Int)) + 11) % 2305843009213693951 = n1 := ⟨_, rfl⟩
        rw [e1] at b0 b1
        have c0 := Int.emod_nonneg (n1 * n1) (show (1000000007 : Int) ≠ 0 by decide)
        have c1 := Int.emod_lt_of_pos (n1 * n1) (show (0 : Int) < 1000000007 by decide)
        refine ⟨_, rfl, _, rfl, _, _, rfl, rfl, .inl ?_, _, 1000000007, rfl, rfl, (by show (0 : Int) < 1000000007; decide), _, rfl, 31, _, rfl, rfl, .inl ⟨by decide, by decide⟩, _, _, rfl, rfl, ?_⟩
        · show _ < (r + 7919 * (0 + (i : Int)) + 11) % 2305843009213693951 ∧ (r + 7919 * (0 + (i : Int)) + 11) % 2305843009213693951 < _
          rw [e1]
          omega
        · refine ⟨_, rfl, .inl ⟨rfl, _, SqL.of z⟩, _, rfl, _, rfl, _, _, rfl, rfl, .inl ?_, _, 998244353, rfl, rfl, (by show (0 : Int) < 998244353; decide), _, 8, rfl, rfl, ⟨by decide, by decide⟩, _, 60, rfl, rfl, (by show (0 : Int) < 60; decide), p, _, _, rfl, rfl, z, hz, ?_⟩
          · show _ < (r + 7919 * (0 + (i : Int)) + 11) % 2305843009213693951 * ((r + 7919 * (0 + (i : Int)) + 11) % 2305843009213693951) % 1000000007 + 31 * (0 + (i : Int)) ∧ (r + 7919 * (0 + (i : Int)) + 11) % 2305843009213693951 * ((r + 7919 * (0 + (i : Int)) + 11) % 2305843009213693951) % 1000000007 + 31 * (0 + (i : Int)) < _
            rw [e1]
            omega
          · exact ⟨_, _, _, _, rfl, fin _⟩
    · rintro σ H2 ⟨r, v3, v4, ds, rfl, s2, z, hl⟩
      exact ⟨_, rfl, k p ds H2 s2 z hp hl⟩
theorem sq_same {H H' : Hp} {a : Addr} {xs : List V} (h : SqL K H a xs) (s : Same H H') : SqL K H' a xs := Or.imp (fun r => Or.elim r (fun e => .inl (s _ _ e)) fun ⟨o, e⟩ => .inr ⟨o, s _ _ e⟩) id h
def cmp? : Stmt → Option Expr
  | .Assign _ e _ => some e
  | _ => none
def scopeOf : Option Expr → Scope
  | some (.ListComp _ _ sc _) => sc
  | _ => default
abbrev scpS : Scope := scopeOf (cmp? ((defBody sStream).head!))
theorem cS : CompP (defScope sStream) scpS "k" [] ["script", "many", "told", "k", "cell", "place", "digit", "at"] [] := by decide +kernel
/-- _law_stream -/
def spStream (K : PySem.W.Frag) : Sp := fun vs H Q _ => ∃ (a : Addr) (ns : List Int), vs = [.ref a, .int 100] ∧ SqL K H a (ns.map V.int) ∧ ns.length ≤ 1000 ∧ ∀ (p : Addr) (ds : List Int) (H' : Hp), Same H H' → H' p = some (.lst (ds.map V.int)) → H p = none → ds.length = 100 → Q (.ref p) H'
theorem scS : FnScope ["script", "many", "told", "k", "cell", "place", "digit", "at"] ["script", "many"] (defScope sStream) := ⟨rfl, rfl, rfl, by decide +kernel, rfl, by decide +kernel, by decide +kernel⟩
theorem ok_stream {f fD : Addr} {fd fdD : FuncData} (F : Fun K "_law_stream" "_law_stream" sStream f fd) (zr : mg "range" = none) (ze : mg "enumerate" = none) (GD : FnOk P w K mg base (CXE P w) 1 fD fdD ["cell"] spDigits) (mD : mg "_law_digits" = some (.ref fD)) (kD : PySem.W.keepIn K (.ref fD) = true) (bD : Binds K fdD ["cell"] []) :
    FnOk P w K mg base (CXE P w) 2 f fd ["script", "many"] (spStream K) := by
  refine F.okE scS (fun vs H Q E h => ?_) (fun cdv A outer s H vs Q E hr h => ?_)
  · obtain ⟨a, ns, rfl, _⟩ := h
    rfl
  · obtain ⟨a, ns, rfl, hS, hz, k⟩ := h
    have co : CompOk (cxE P w K mg base ["script", "many", "told", "k", "cell", "place", "digit", "at"] "_law_stream" (defScope sStream) f cdv A outer s H E).nox scpS [] "k" [] ["k"] :=
      comp_ok rfl rfl rfl cS rfl rfl (by intro q hq; cases hq)
    refine ⟨_, PSs.nox (pss_cons (ps_comp (i := 2) scS.nd rfl rfl co rfl (pi_range1 rfl zr (pa_cons (pv 1) pa_nil))
          (fun C fp s₀ H₀ => pe_op op_mod (pe_op op_add (pe_op op_add (pe_op op_mul (pe_op op_mul (pv 0) (pv 0)) pe_int) (pe_op op_mul pe_int (pv 0))) pe_int) pe_int))
      (pss_cons (ps_for PassesOwn.never rfl (pi_enum rfl ze (pa_cons (pv 0) pa_nil)) (pg_tup rfl (pgs_cons (pg_name (i := 3) scS.nd rfl (Or.inl rfl)) (pgs_cons (pg_name (i := 4) scS.nd rfl (Or.inl rfl)) pgs_nil)))
        (pss_one (ps_for PassesOwn.never rfl (pi_enum rfl ze (pa_cons (xe_call GD hr rfl mD kD bD .nil passN (pa_cons (pv 4) pa_nil)) pa_nil)) (pg_tup rfl (pgs_cons (pg_name (i := 5) scS.nd rfl (Or.inl rfl)) (pgs_cons (pg_name (i := 6) scS.nd rfl (Or.inl rfl)) pgs_nil)))
          (pss_cons (ps_set (i := 7) scS.nd rfl (Or.inl rfl) (pe_op op_mod (pe_op op_add (pe_op op_mul pe_int (pv 3)) (pv 5)) (pv 1)))
          (pss_one (ps_asg (pe_op op_mod (pe_op op_add (pe_op op_mul (pe_ix ix_list (pv 2) (pv 7) (fun _ _ => rfl)) pe_int) (pv 6)) pe_int) (pg_sub (pv 2) (pv 7) set_list)))))))
      (pss_one (ps_ret (pv 2))))), ?_⟩
    refine ⟨_, rfl, 100, rfl, by decide, by decide, fun D hD => ?_⟩
    refine comp_range (lo := 0) (n := 100) (fun i zs H2 => ∃ ds : List Int, zs = ds.map V.int ∧ ds.length = i ∧ Same H H2 ∧ H2 D = some (.lst zs)) ⟨[], rfl, rfl, Same.upd hD, upd_same⟩ (fun i zs H2 hi ⟨ds, e, l, _, z⟩ => ⟨z, by rw [e, List.length_map]; exact l⟩)
      (by decide) (fun i zs H2 hi ⟨ds, e, l, s2, z⟩ => ?_) (fun zs H2 ⟨ds, e, l, s2, z⟩ => ?_)
    · refine ⟨_, rfl, _, rfl, 0 + (i : Int), 0 + (i : Int), rfl, rfl, .inl ⟨by omega, by omega⟩, _, 7, rfl, rfl, .inr ⟨by decide, by decide⟩, _, rfl, 13, _, rfl, rfl, .inl ⟨by decide, by decide⟩, _, _, rfl, rfl, _, 5, rfl, rfl, _, 61, rfl, rfl, (by show (0 : Int) < 61; decide), z, ds ++ [((0 + (i : Int)) * (0 + (i : Int)) * 7 + 13 * (0 + (i : Int)) + 5) % 61], ?_, ?_, ?_, upd_same⟩
      · rw [List.map_append, e]; rfl
      · rw [List.length_append, l]; rfl
      · exact fun b u q => by rw [upd_ne (ne_of_none q hD)]; exact s2 b u q
    · have fin : ∀ {H3 : Hp} {zs : List V}, Same H H3 → Same H (upd H3 D (.lst zs)) := fun s3 b u q => by rw [upd_ne (ne_of_none q hD)]; exact s3 b u q
      refine ⟨_, rfl, a, rfl, ⟨_, sq_same hS s2⟩, for_enum (K := K) (a := a) (xs := ns.map V.int) (fun i σ H3 => ∃ (v3 v4 v5 v6 v7 : Option V) (ds : List Int), σ = [some (.ref a), some (.int 100), some (.ref D), v3, v4, v5, v6, v7] ∧ Same H H3 ∧ H3 D = some (.lst (ds.map V.int)) ∧ ds.length = 100)
        ⟨none, none, none, none, none, ds, rfl, s2, by rw [← e]; exact z, l⟩ (fun i σ H3 _ ⟨_, _, _, _, _, _, _, s3, _⟩ => sq_same hS s3) ?_ ?_⟩
      · rintro i x σ H3 t hi ⟨v3, v4, v5, v6, v7, ds3, rfl, s3, z3, l3⟩ ht
        have hlt : i < ns.length := by have := (List.getElem?_eq_some_iff.mp hi).1; rwa [List.length_map] at this
        rw [List.getElem?_map] at hi
        obtain ⟨n, hn, rfl⟩ := Option.map_eq_some_iff.mp hi
        have s4 : Same H (upd H3 t (.tup [.int (i : Int), .int n])) := s3.trans (Same.upd ht)
        have z4 : upd H3 t (.tup [.int (i : Int), .int n]) D = some (.lst (ds3.map V.int)) := by rw [upd_ne (ne_of_none z3 ht)]; exact z3
        refine ⟨t, _, rfl, SqT.of upd_same, rfl, _, _, rfl, _, _, rfl, rfl, ?_⟩
        refine ⟨_, rfl, n, rfl, fun p2 ds2 H5 s5 z5 hp2 l2 => ?_⟩
        have nD : D ≠ p2 := ne_of_none z4 hp2
        refine ⟨p2, rfl, ⟨_, SqL.of z5⟩, for_enum (K := K) (a := p2) (xs := ds2.map V.int) (fun j σ H6 => ∃ (v5 v6 v7 : Option V) (ds : List Int), σ = [some (.ref a), some (.int 100), some (.ref D), some (.int (i : Int)), some (.int n), v5, v6, v7] ∧ Same H H6 ∧ H6 D = some (.lst (ds.map V.int)) ∧ ds.length = 100 ∧ H6 p2 = some (.lst (ds2.map V.int)))
          ⟨_, _, _, ds3, rfl, s4.trans s5, s5 _ _ z4, l3, z5⟩ (fun j σ H6 _ ⟨_, _, _, _, _, _, _, _, q⟩ => SqL.of q) ?_ ?_⟩
        · rintro j y σ H6 t2 hj ⟨v5, v6, v7, ds6, rfl, s6, z6, l6, q6⟩ ht2
          have hjt : j < ds2.length := by have := (List.getElem?_eq_some_iff.mp hj).1; rwa [List.length_map] at this
          rw [List.getElem?_map] at hj
          obtain ⟨d, hd, rfl⟩ := Option.map_eq_some_iff.mp hj
          have s7 : Same H (upd H6 t2 (.tup [.int (j : Int), .int d])) := s6.trans (Same.upd ht2)
          have z7 : upd H6 t2 (.tup [.int (j : Int), .int d]) D = some (.lst (ds6.map V.int)) := by rw [upd_ne (ne_of_none z6 ht2)]; exact z6
          have q7 : upd H6 t2 (.tup [.int (j : Int), .int d]) p2 = some (.lst (ds2.map V.int)) := by rw [upd_ne (ne_of_none q6 ht2)]; exact q6
          refine ⟨t2, _, rfl, SqT.of upd_same, rfl, _, _, rfl, _, _, rfl, rfl, ?_⟩
          refine ⟨_, rfl, 6, _, rfl, rfl, .inl ⟨by decide, by decide⟩, _, rfl, _, _, rfl, rfl, _, rfl, _, 100, rfl, rfl, (by show (0 : Int) < 100; decide), ?_⟩
          have b0 := Int.emod_nonneg (6 * (i : Int) + (j : Int)) (show (100 : Int) ≠ 0 by decide)
          have b1 := Int.emod_lt_of_pos (6 * (i : Int) + (j : Int)) (show (0 : Int) < 100 by decide)
          obtain ⟨m, em⟩ : ∃ m : Nat, (6 * (i : Int) + (j : Int)) % 100 = (m : Int) := ⟨((6 * (i : Int) + (j : Int)) % 100).toNat, by omega⟩
          have hm : m < ds6.length := by omega
          have hat : atI (ds6.map V.int) ((6 * (i : Int) + (j : Int)) % 100) = some (.int (ds6[m]'hm)) := by
            rw [em]
            exact atI_nat (by rw [List.getElem?_map, List.getElem?_eq_getElem hm]; rfl)
          have hix : ixN (ds6.map V.int).length ((6 * (i : Int) + (j : Int)) % 100) = some m := by
            rw [em]
            unfold ixN
            rw [if_pos (by omega), if_pos (by rw [List.length_map]; omega)]
            rfl
          refine ⟨_, rfl, _, rfl, D, _, _, .int (ds6[m]'hm), rfl, rfl, SqL.of z7, hat, _, 7, rfl, rfl, .inr ⟨by decide, by decide⟩, _, rfl, _, _, rfl, rfl, _, 100003, rfl, rfl, (by show (0 : Int) < 100003; decide), ?_⟩
          refine ⟨_, rfl, _, rfl, D, _, _, m, rfl, rfl, z7, hix, ?_⟩
          refine ⟨_, _, _, ds6.set m ((ds6[m]'hm * 7 + d) % 100003), rfl, fin s7, ?_, by rw [List.length_set]; exact l6, ?_⟩
          · rw [upd_same, List.map_set]
          · rw [upd_ne (Ne.symm nD)]
            exact q7
        · rintro σ H6 ⟨v5, v6, v7, ds6, rfl, s6, z6, l6, _⟩
          exact ⟨_, _, _, _, _, ds6, rfl, s6, z6, l6⟩
      · rintro σ H3 ⟨v3, v4, v5, v6, v7, ds3, rfl, s3, z3, l3⟩
        exact ⟨_, rfl, k D ds3 H3 s3 z3 hD l3⟩
def oV : Option Int → V
  | none => .non
  | some n => .int n
def ret? : Stmt → Option Expr
  | .Return e _ => e
  | _ => none
abbrev Fs := List (Int × List (Option Int))
def kvl (ad : Int → Addr) (ks : Fs) : List (Key × V) := ks.map fun p => (Sum.inl p.1, V.ref (ad p.1))
/-- a view in the store -/
structure Vw (H : Hp) (r d : Addr) (o : Obj) (ad : Int → Addr) (rs : List (Option Int)) (ks : Fs) : Prop where
  hr : H r = some (.lst (rs.map oV))
  hd : H d = some (.frz o (.dK (kvl ad ks)))
  hl : ∀ p ∈ ks, H (ad p.1) = some (.lst (p.2.map oV))
theorem Vw.same {H H' : Hp} {r d : Addr} {o : Obj} {ad : Int → Addr} {rs : List (Option Int)} {ks : Fs} (v : Vw H r d o ad rs ks) (s : Same H H') : Vw H' r d o ad rs ks := ⟨s _ _ v.hr, s _ _ v.hd, fun p hp => s _ _ (v.hl p hp)⟩
/-- a view that tells what it has -/
structure Rt (rs : List (Option Int)) (ks : Fs) : Prop where
  nd : (ks.map (·.1)).Nodup
  pos : ∀ p ∈ ks, 0 ≤ p.1
  kl : ks.length ≤ 11
  rl : rs.length ≤ 20
  fl : ∀ p ∈ ks, p.2.length ≤ 6
  ri : ∀ n, some n ∈ rs → n ∈ ks.map (·.1)
  fi : ∀ p ∈ ks, ∀ n, some n ∈ p.2 → n ∈ ks.map (·.1)
  top : ∀ p ∈ ks, p.1 ≤ 1000
theorem val_kvl (ad : Int → Addr) (t : Int) : ∀ ks : Fs, valV (kvl ad ks) (Sum.inl t) = if t ∈ ks.map (·.1) then some (V.ref (ad t)) else none
  | [] => rfl
  | (k, fs) :: r => by
    have ih := val_kvl ad t r
    by_cases e : k = t
    · subst e
      rw [show kvl ad ((k, fs) :: r) = (Sum.inl k, V.ref (ad k)) :: kvl ad r from rfl, valV_pos rfl, if_pos (by simp)]
    · rw [show kvl ad ((k, fs) :: r) = (Sum.inl k, V.ref (ad k)) :: kvl ad r from rfl, valV_neg (fun z => e (by injection z)), ih]
      have : (t ∈ ((k, fs) :: r).map (·.1)) ↔ t ∈ r.map (·.1) := by
        rw [List.map_cons, List.mem_cons]
        exact ⟨fun z => z.resolve_left fun y => e y.symm, .inr⟩
      simp only [this]
def inFor : Stmt → Nat → Stmt
  | .For _ _ b _ _, i => b.getD i (.Pass ⟨0, 0, 0, 0⟩)
  | s, _ => s
abbrev NV : List Str := ["script", "cell", "stream", "things", "named", "fields", "at", "thing", "many", "roots"]
abbrev scpV1 : Scope := scopeOf (cmp? ((defBody sView).getD 2 (.Pass ⟨0, 0, 0, 0⟩)))
abbrev scpV2 : Scope := scopeOf (cmp? (inFor ((defBody sView).getD 6 (.Pass ⟨0, 0, 0, 0⟩)) 1))
abbrev scpV3 : Scope := scopeOf (cmp? ((defBody sView).getD 8 (.Pass ⟨0, 0, 0, 0⟩)))
theorem cV1 : CompP (defScope sView) scpV1 "k" ["cell"] NV [1] := by decide +kernel
theorem cV2 : CompP (defScope sView) scpV2 "number" ["named"] NV [4] := by decide +kernel
theorem cV3 : CompP (defScope sView) scpV3 "number" ["named"] NV [4] := by decide +kernel
theorem scV : FnScope NV ["script"] (defScope sView) := ⟨rfl, rfl, rfl, by decide +kernel, rfl, by decide +kernel, by decide +kernel⟩
def spView (K : PySem.W.Frag) : Sp := fun vs H Q _ => ∃ (a : Addr) (ns : List Int), vs = [.ref a] ∧ SqL K H a (ns.map V.int) ∧ ns.length ≤ 1000 ∧
  ∀ (v r d : Addr) (o : Obj) (ad : Int → Addr) (rs : List (Option Int)) (ks : Fs) (H' : Hp), Same H H' → H' v = some (.tup [.ref r, .ref d]) → Vw H' r d o ad rs ks → Rt rs ks → Q (.ref v) H'
theorem cut_ints (ns : List Int) (lo hi : Option Int) : ∃ cs : List Int, cutV (ns.map V.int) lo hi = cs.map V.int ∧ cs.length ≤ ns.length := by
  refine ⟨(ns.drop (HT.sIx (ns.map V.int).length 0 lo)).take (HT.sIx (ns.map V.int).length (ns.map V.int).length hi - HT.sIx (ns.map V.int).length 0 lo), ?_, ?_⟩
  · unfold cutV
    rw [List.map_take, List.map_drop]
  · rw [List.length_take, List.length_drop]
    omega
theorem cut_len (ns : List Int) (lo hi : Option Int) {cs : List Int} (e : cutV (ns.map V.int) lo hi = cs.map V.int) : cs.length ≤ HT.sIx ns.length ns.length hi - HT.sIx ns.length 0 lo := by
  have := congrArg List.length e
  rw [List.length_map] at this
  rw [← this]
  unfold cutV
  rw [List.length_take, List.length_map]
  omega
/-- the thing at a place -/
def thg (b st : Int) (k : Nat) : Int := b + (0 + (k : Int)) * st
theorem thg_inj {b st : Int} (h : 0 < st) {i j : Nat} (e : thg b st i = thg b st j) : i = j := by
  unfold thg at e
  have e1 : (0 + (i : Int)) * st = (0 + (j : Int)) * st := by omega
  have := Int.eq_of_mul_eq_mul_right (by omega) e1
  omega
theorem thgs_nodup {b st : Int} (h : 0 < st) (n : Nat) : ((List.range n).map (thg b st)).Nodup :=
  List.Pairwise.map _ (fun i j q e => q (thg_inj h e)) List.nodup_range
def nmd (ts : List Int) : List (Option Int) := [none] ++ ts.map some ++ ts.map some
theorem nmd_map (ts : List Int) : (nmd ts).map oV = [V.non] ++ ts.map V.int ++ ts.map V.int := by
  unfold nmd
  rw [List.map_append, List.map_append, List.map_map]
  rfl
theorem nmd_len (ts : List Int) : (nmd ts).length = 1 + ts.length + ts.length := by
  unfold nmd
  simp
  omega
theorem nmd_mem {ts : List Int} {n : Int} (h : some n ∈ nmd ts) : n ∈ ts := by
  unfold nmd at h
  simp at h
  exact h
theorem at_named (ts : List Int) (q : Int) (i : Int) (h0 : 0 ≤ i) (h1 : i < (1 + ts.length + ts.length : Nat)) : ∃ x : Option Int, atI ([V.non] ++ ts.map V.int ++ ts.map V.int) i = some (oV x) ∧ ∀ n, x = some n → n ∈ ts := by
  obtain ⟨m, rfl⟩ : ∃ m : Nat, i = (m : Int) := ⟨i.toNat, by omega⟩
  have hm : m < (nmd ts).length := by rw [nmd_len]; omega
  refine ⟨(nmd ts)[m], ?_, fun n e => nmd_mem (by rw [← e]; exact List.getElem_mem hm)⟩
  rw [← nmd_map]
  exact atI_nat (by rw [List.getElem?_map, List.getElem?_eq_getElem hm]; rfl)
abbrev rLen (K : PySem.W.Frag) : List V → Hp → VK → Prop := fun xs H Q => ∃ p ys, xs = [.ref p] ∧ (SqL K H p ys ∨ SqT K H p ys) ∧ Q (.int ys.length) H
theorem at_cnt (c : Int) : ∃ cnt : Int, atI [V.int 3, V.int 1, V.int 6, V.int 9, V.int 11, V.int 0] (c % 6) = some (.int cnt) ∧ 0 ≤ cnt ∧ cnt ≤ 11 := by
  have b0 := Int.emod_nonneg c (show (6 : Int) ≠ 0 by decide)
  have b1 := Int.emod_lt_of_pos c (show (0 : Int) < 6 by decide)
  obtain e | e | e | e | e | e : c % 6 = ((0 : Nat) : Int) ∨ c % 6 = ((1 : Nat) : Int) ∨ c % 6 = ((2 : Nat) : Int) ∨ c % 6 = ((3 : Nat) : Int) ∨ c % 6 = ((4 : Nat) : Int) ∨ c % 6 = ((5 : Nat) : Int) := by omega
  all_goals rw [e]
  · exact ⟨3, atI_nat rfl, by decide, by decide⟩
  · exact ⟨1, atI_nat rfl, by decide, by decide⟩
  · exact ⟨6, atI_nat rfl, by decide, by decide⟩
  · exact ⟨9, atI_nat rfl, by decide, by decide⟩
  · exact ⟨11, atI_nat rfl, by decide, by decide⟩
  · exact ⟨0, atI_nat rfl, by decide, by decide⟩
theorem cut_six (ns : List Int) (at' m : Int) (h0 : 0 ≤ at') (h1 : 0 ≤ m) {cs : List Int} (e : cutV (ns.map V.int) (some (at' + 1)) (some (at' + 1 + m)) = cs.map V.int) : (cs.length : Int) ≤ m := by
  have h := cut_len ns _ _ e
  simp only [HT.sIx] at h
  rw [if_neg (by omega), if_neg (by omega)] at h
  omega
theorem cut_pre (ns : List Int) (m : Int) (h1 : 0 ≤ m) {cs : List Int} (e : cutV (ns.map V.int) none (some m) = cs.map V.int) : (cs.length : Int) ≤ m := by
  have h := cut_len ns _ _ e
  simp only [HT.sIx] at h
  rw [if_neg (by omega)] at h
  omega
theorem ok_view {f fC fS : Addr} {fd fdC fdS : FuncData} (F : Fun K "_law_view" "_law_view" sView f fd) (zr : mg "range" = none) (zl : mg "len" = none)
    (GC : FnOk P w K mg base (CXE P w) 1 fC fdC ["script", "k"] (spCell K)) (mC : mg "_law_cell" = some (.ref fC)) (kC : PySem.W.keepIn K (.ref fC) = true) (bC : Binds K fdC ["script", "k"] [])
    (GS : FnOk P w K mg base (CXE P w) 2 fS fdS ["script", "many"] (spStream K)) (mS : mg "_law_stream" = some (.ref fS)) (kS : PySem.W.keepIn K (.ref fS) = true) (bS : Binds K fdS ["script", "many"] []) :
    FnOk P w K mg base (CXE P w) 3 f fd ["script"] (spView K) := by
  refine F.okE scV (fun vs H Q E h => ?_) (fun cdv A outer s H vs Q E hr h => ?_)
  · obtain ⟨a, ns, rfl, _⟩ := h
    rfl
  · obtain ⟨a, ns, rfl, hS, hz, k⟩ := h
    have co1 : CompOk (cxE P w K mg base NV "_law_view" (defScope sView) f cdv A outer s H E).nox scpV1 [("cell", s.heap.objs.size + 1)] "k" [1] ["k", "cell"] :=
      comp_ok rfl rfl rfl cV1 rfl rfl (by intro q hq; rw [List.mem_singleton.mp hq]; rfl)
    have co2 : CompOk (cxE P w K mg base NV "_law_view" (defScope sView) f cdv A outer s H E).nox scpV2 [("named", s.heap.objs.size + 2)] "number" [4] ["number", "named"] :=
      comp_ok rfl rfl rfl cV2 rfl rfl (by intro q hq; rw [List.mem_singleton.mp hq]; rfl)
    have co3 : CompOk (cxE P w K mg base NV "_law_view" (defScope sView) f cdv A outer s H E).nox scpV3 [("named", s.heap.objs.size + 2)] "number" [4] ["number", "named"] :=
      comp_ok rfl rfl rfl cV3 rfl rfl (by intro q hq; rw [List.mem_singleton.mp hq]; rfl)
    have hu := hu_of hr
    refine ⟨_, PSs.nox (pss_cons (ps_set (i := 1) scV.nd rfl (Or.inr rfl) (xe_call GC (hr.mono (by decide)) rfl mC kC bC .nil passN (pa_cons (pv 0) (pa_cons pe_int pa_nil))))
      (pss_cons (ps_set (i := 2) scV.nd rfl (Or.inl rfl) (xe_call GS hr rfl mS kS bS .nil passN (pa_cons (pe_slice sl_list (pv 0) (po_some pe_int) po_none) (pa_cons pe_int pa_nil))))
      (pss_cons (ps_comp (i := 3) scV.nd rfl rfl co1 rfl (pi_range1 rfl zr (pa_cons (pe_ix ix_list (pe_lst (pa_cons pe_int (pa_cons pe_int (pa_cons pe_int (pa_cons pe_int (pa_cons pe_int (pa_cons pe_int pa_nil))))))) (pe_op op_mod (pv 1) pe_int) (fun _ _ => rfl)) pa_nil))
          (fun C fp s₀ H₀ => pe_op op_add (pe_op op_mod (pe_op op_fdiv (pv 1) pe_int) pe_int) (pe_op op_mul (pv 0) (pe_op op_add pe_int (pe_op op_mod (pe_op op_fdiv (pv 1) pe_int) pe_int)))))
      (pss_cons (ps_set (i := 4) scV.nd rfl (Or.inr rfl) (pe_op op_cat (pe_op op_cat (pe_lst (pa_cons pe_non pa_nil)) (pv 3)) (pv 3)))
      (pss_cons (ps_set (i := 5) scV.nd rfl (Or.inl rfl) pe_dnewK)
      (pss_cons (ps_set (i := 6) scV.nd rfl (Or.inl rfl) pe_int)
      (pss_cons (ps_for PassesOwn.never rfl (pi_list (pv 3)) (pg_name (i := 7) scV.nd rfl (Or.inl rfl))
          (pss_cons (ps_set (i := 8) scV.nd rfl (Or.inl rfl) (pe_op op_mod (pe_ix ix_list (pv 2) (pv 6) (fun _ _ => rfl)) pe_int))
          (pss_cons (ps_dput hu (pv 5) (pv 7) (pe_comp co2 rfl (pi_list (pe_slice sl_list (pv 2) (po_some (pe_op op_add (pv 6) pe_int)) (po_some (pe_op op_add (pe_op op_add (pv 6) pe_int) (pv 8)))))
              (fun C fp s₀ H₀ => pe_ix (r := rIxL K) ix_list (pv 1) (pe_op op_mod (pe_op op_fdiv (pv 0) pe_int) (pe_callB (r := rLen K) call_len_seq rfl zl PyProof.Rows.Boot.«len» (pa_cons (pv 1) pa_nil))) (fun _ _ => rfl))) rfl)
          (pss_one (ps_set (i := 6) scV.nd rfl (Or.inl rfl) (pe_op op_add (pe_op op_add (pv 6) pe_int) (pv 8)))))))
      (pss_cons (ps_set (i := 8) scV.nd rfl (Or.inl rfl) (pe_op op_mod (pe_op op_add (pe_op op_fdiv (pv 1) pe_int) pe_int) pe_int))
      (pss_cons (ps_comp (i := 9) scV.nd rfl rfl co3 rfl (pi_list (pe_slice sl_list (pv 2) po_none (po_some (pv 8))))
          (fun C fp s₀ H₀ => pe_ix (r := rIxL K) ix_list (pv 1) (pe_op op_mod (pe_op op_fdiv (pv 0) pe_int) (pe_callB (r := rLen K) call_len_seq rfl zl PyProof.Rows.Boot.«len» (pa_cons (pv 1) pa_nil))) (fun _ _ => rfl)))
      (pss_one (ps_ret (pe_frz (pe_tup (pa_cons (pv 9) (pa_cons (pv 5) pa_nil))))))))))))))), ?_⟩
    refine ⟨_, rfl, a, ns, 0, rfl, hS, fun cell => ?_⟩
    refine ⟨_, rfl, _, rfl, a, _, rfl, hS, fun p1 hp1 => ?_⟩
    obtain ⟨c1, ec1, lc1⟩ := cut_ints ns (some 1) none
    rw [ec1]
    refine ⟨p1, c1, rfl, SqL.of upd_same, by omega, fun st ds H1 s1 z1 hst lds => ?_⟩
    have s1' : Same H H1 := (Same.upd hp1).trans s1
    have z2 : (0 : Int) ≤ cell / 6 % 4 := Int.emod_nonneg _ (by decide)
    obtain ⟨b, eb⟩ : ∃ b : Int, cell / 6 % 4 = b := ⟨_, rfl⟩
    have z3 : (0 : Int) ≤ cell / 24 % 3 := Int.emod_nonneg _ (by decide)
    obtain ⟨sp, es⟩ : ∃ sp : Int, 1 + cell / 24 % 3 = sp := ⟨_, rfl⟩
    have hsp : 0 < sp := by omega
    have z2u : cell / 6 % 4 < 4 := Int.emod_lt_of_pos _ (by decide)
    have z3u : cell / 24 % 3 < 3 := Int.emod_lt_of_pos _ (by decide)
    rw [eb] at z2 z2u
    obtain ⟨cnt, hat, cn0, cn1⟩ := at_cnt cell
    refine ⟨by show 6 ≤ sizeLine; decide, fun p2 hp2 => ?_⟩
    refine ⟨_, rfl, cell, 6, rfl, rfl, (by show (0 : Int) < 6; decide), p2, _, _, .int cnt, rfl, rfl, SqL.of upd_same, hat, cnt, rfl, by omega, by omega, fun D hD => ?_⟩
    have sc : Same H1 (upd (upd H1 p2 (.lst [V.int 3, V.int 1, V.int 6, V.int 9, V.int 11, V.int 0])) D (.lst [])) := (Same.upd hp2).trans (Same.upd hD)
    have hD1 : H1 D = none := (Same.upd hp2).free hD
    refine comp_range (lo := 0) (n := cnt.toNat) (fun i zs H2 => zs = ((List.range i).map (thg b sp)).map V.int ∧ Same H1 H2 ∧ H2 D = some (.lst zs)) ⟨rfl, sc, upd_same⟩ (fun i zs H2 hi ⟨e, _, z⟩ => ⟨z, by rw [e, List.length_map, List.length_map, List.length_range]⟩)
      (Nat.le_trans (show cnt.toNat ≤ 11 by omega) (by decide)) (fun i zs H2 hi ⟨e, s2, z⟩ => ?_) (fun zs H2 ⟨e, s2, z⟩ => ?_)
    · refine ⟨_, rfl, cell, 6, rfl, rfl, ⟨by decide, by decide⟩, _, 4, rfl, rfl, (by show (0 : Int) < 4; decide), _, rfl, _, rfl, cell, 24, rfl, rfl, ⟨by decide, by decide⟩, _, 3, rfl, rfl, (by show (0 : Int) < 3; decide), 1, _, rfl, rfl, _, _, rfl, rfl, .inl ⟨by omega, by omega⟩, _, _, rfl, rfl, z, ?_, ?_, upd_same⟩
      · rw [e, List.range_succ, List.map_append, List.map_append, eb, es]
        rfl
      · exact fun c u q => by rw [upd_ne (ne_of_none q hD1)]; exact s2 c u q
    · obtain ⟨ts, ets⟩ : ∃ ts : List Int, (List.range cnt.toNat).map (thg b sp) = ts := ⟨_, rfl⟩
      have tl : ts.length = cnt.toNat := by rw [← ets, List.length_map, List.length_range]
      have tl11 : ts.length ≤ 11 := by omega
      have tnd : ts.Nodup := by rw [← ets]; exact thgs_nodup hsp _
      have tpos : ∀ t ∈ ts, 0 ≤ t := fun t ht => by
        rw [← ets] at ht
        obtain ⟨j, _, rfl⟩ := List.mem_map.mp ht
        have := Int.mul_nonneg (show (0 : Int) ≤ 0 + (j : Int) by omega) (show 0 ≤ sp by omega)
        unfold thg
        omega
      have ttop : ∀ t ∈ ts, t ≤ 1000 := fun t ht => by
        rw [← ets] at ht
        obtain ⟨j, hj, rfl⟩ := List.mem_map.mp ht
        have hj := List.mem_range.mp hj
        have h3 : sp = 1 ∨ sp = 2 ∨ sp = 3 := by omega
        unfold thg
        rcases h3 with h | h | h
        · rw [h]; omega
        · rw [h]; omega
        · rw [h]; omega
      rw [ets] at e
      subst e
      refine ⟨by show 1 ≤ sizeLine; decide, fun p3 hp3 => ⟨_, rfl, p3, D, _, _, rfl, rfl, upd_same, Same.upd hp3 _ _ z, Nat.le_trans (show [V.non].length + (ts.map V.int).length ≤ 12 by rw [List.length_map]; simp; omega) (by decide), fun p4 hp4 => ?_⟩⟩
      have z4 := Same.upd (o := .lst ([V.non] ++ ts.map V.int)) hp4 _ _ (Same.upd (o := .lst [V.non]) hp3 _ _ z)
      refine ⟨_, rfl, p4, D, _, _, rfl, rfl, upd_same, z4, Nat.le_trans (show ([V.non] ++ ts.map V.int).length + (ts.map V.int).length ≤ 23 by rw [List.length_append, List.length_map]; simp; omega) (by decide), fun p5 hp5 => ?_⟩
      obtain ⟨H5, e5⟩ : ∃ H5, upd (upd (upd H2 p3 (.lst [V.non])) p4 (.lst ([V.non] ++ ts.map V.int))) p5 (.lst ([V.non] ++ ts.map V.int ++ ts.map V.int)) = H5 := ⟨_, rfl⟩
      have s5 : Same H1 H5 := by rw [← e5]; exact ((s2.trans (Same.upd hp3)).trans (Same.upd hp4)).trans (Same.upd hp5)
      have d5 : H5 D = some (.lst (ts.map V.int)) := by rw [← e5]; exact Same.upd hp5 _ _ z4
      have n5 : H5 p5 = some (.lst ([V.non] ++ ts.map V.int ++ ts.map V.int)) := by rw [← e5]; exact upd_same
      have st5 : H5 st = some (.lst (ds.map V.int)) := s5 _ _ z1
      rw [e5]
      refine fun p6 hp6 => ?_
      have nl : (([V.non] ++ ts.map V.int ++ ts.map V.int).length : Int) = ((1 + ts.length + ts.length : Nat) : Int) := by
        rw [List.length_append, List.length_append, List.length_map]; rfl
      have np6 : ∀ {Hx : Hp} {kvs : List (Key × V)} {c : Addr} {xs : List V}, Hx p6 = some (.dK kvs) → Hx c = some (.lst xs) → c ≠ p6 := fun g1 g2 => ne_of g2 g1 (by intro z; cases z)
      refine ⟨_, rfl, D, rfl, ⟨_, SqL.of (Same.upd hp6 _ _ d5)⟩, for_list (K := K) (a := D) (xs := ts.map V.int) (fun i σ Hx => ∃ (at' : Nat) (v7 v8 : Option V) (ad : Int → Addr) (ks : Fs),
          σ = [some (.ref a), some (.int cell), some (.ref st), some (.ref D), some (.ref p5), some (.ref p6), some (.int (at' : Int)), v7, v8, none] ∧ Same H5 Hx ∧ Hx p6 = some (.dK (kvl ad ks)) ∧ ks.map (·.1) = ts.take i ∧
          (∀ p ∈ ks, Hx (ad p.1) = some (.lst (p.2.map oV)) ∧ p.2.length ≤ 6 ∧ ∀ n, some n ∈ p.2 → n ∈ ts) ∧ at' ≤ 10 + 7 * i)
        ⟨10, none, none, fun _ => 0, [], rfl, Same.upd hp6, upd_same, rfl, (fun p hp => nomatch hp), Nat.le_refl _⟩ (fun i σ Hx _ ⟨_, _, _, _, _, _, sx, _⟩ => SqL.of (sx _ _ d5)) ?_ ?_⟩
      · rintro i x σ Hx hi ⟨at', v7, v8, ad, ks, rfl, sx, g6, gk, gl, ga⟩
        have hlt : i < ts.length := by have := (List.getElem?_eq_some_iff.mp hi).1; rwa [List.length_map] at this
        have hxe : x = .int ts[i] := by
          rw [List.getElem?_map, List.getElem?_eq_getElem hlt] at hi
          exact (Option.some.inj hi).symm
        subst hxe
        have ha : at' < ds.length := by omega
        have hat2 : atI (ds.map V.int) (at' : Int) = some (.int (ds[at']'ha)) := atI_nat (by rw [List.getElem?_map, List.getElem?_eq_getElem ha]; rfl)
        refine ⟨_, rfl, _, rfl, st, _, _, .int (ds[at']'ha), rfl, rfl, SqL.of (sx _ _ st5), hat2, _, 7, rfl, rfl, (by show (0 : Int) < 7; decide), ?_⟩
        have m0 := Int.emod_nonneg (ds[at']'ha) (show (7 : Int) ≠ 0 by decide)
        have m1 := Int.emod_lt_of_pos (ds[at']'ha) (show (0 : Int) < 7 by decide)
        obtain ⟨m, em⟩ : ∃ m : Int, (ds[at']'ha) % 7 = m := ⟨_, rfl⟩
        rw [em] at m0 m1
        refine ⟨_, rfl, _, rfl, _, 1, rfl, rfl, _, rfl, _, rfl, _, 1, rfl, rfl, _, rfl, _, _, rfl, rfl, _, rfl, st, ds.map V.int, rfl, SqL.of (sx _ _ st5), fun q hq => ?_⟩
        obtain ⟨cs, ecs, lcs⟩ := cut_ints ds (some ((at' : Int) + 1)) (some ((at' : Int) + 1 + m))
        have l6 := cut_six ds (at' : Int) m (by omega) m0 ecs
        show ∃ a, _ ∧ _
        rw [em, ecs]
        refine ⟨q, rfl, ⟨_, SqL.of upd_same⟩, fun E' hE' => ?_⟩
        have sE : Same Hx (upd (upd Hx q (.lst (cs.map V.int))) E' (.lst [])) := (Same.upd hq).trans (Same.upd hE')
        have hE1 : Hx E' = none := (Same.upd hq).free hE'
        refine comp_list (K := K) (a := q) (xs := cs.map V.int) (fun j zs H7 => ∃ fs : List (Option Int), zs = fs.map oV ∧ fs.length = j ∧ (∀ n, some n ∈ fs → n ∈ ts) ∧ Same Hx H7 ∧ H7 E' = some (.lst zs) ∧ H7 q = some (.lst (cs.map V.int)))
          ⟨[], rfl, rfl, (fun n hn => nomatch hn), sE, upd_same, Same.upd hE' _ _ upd_same⟩ (fun j zs H7 _ ⟨fs, e1, e2, _, _, e3, _⟩ => ⟨e3, by rw [e1, List.length_map]; exact e2⟩) (fun j zs H7 _ ⟨fs, _, _, _, _, _, e4⟩ => SqL.of e4)
          (Nat.le_trans (show (cs.map V.int).length ≤ 6 by rw [List.length_map]; omega) (by decide)) (fun j x zs H7 hx ⟨fs, e1, e2, e3, s7, g7, q7⟩ => ?_) (fun zs H7 ⟨fs, e1, e2, e3, s7, g7, q7⟩ => ?_)
        · rw [List.getElem?_map] at hx
          obtain ⟨n, hn, rfl⟩ := Option.map_eq_some_iff.mp hx
          have n7 := s7 _ _ (sx _ _ n5)
          have i0 := Int.emod_nonneg (n / 3) (show ((1 + ts.length + ts.length : Nat) : Int) ≠ 0 by omega)
          have i1 := Int.emod_lt_of_pos (n / 3) (show (0 : Int) < ((1 + ts.length + ts.length : Nat) : Int) by omega)
          obtain ⟨y, hy, my⟩ := at_named ts 0 _ i0 i1
          refine ⟨_, rfl, _, rfl, n, 3, rfl, rfl, ⟨by decide, by decide⟩, _, rfl, p5, _, rfl, .inl (SqL.of n7), _, _, rfl, rfl, (by show (0 : Int) < _; rw [nl]; omega), p5, _, _, oV y, rfl, rfl, SqL.of n7, (by rw [nl]; exact hy), g7, fs ++ [y], ?_, ?_, ?_, ?_, upd_same, ?_⟩
          · rw [e1, List.map_append]; rfl
          · rw [List.length_append, e2]; rfl
          · intro n' hn'
            rcases List.mem_append.mp hn' with h | h
            · exact e3 n' h
            · exact my n' (List.mem_singleton.mp h).symm
          · exact fun c u g => by rw [upd_ne (ne_of_none g hE1)]; exact s7 c u g
          · rw [upd_ne (ne_of_none upd_same hE')]; exact q7
        · rw [List.length_map] at e2
          have g67 := s7 _ _ g6
          have tk : ts.take (i + 1) = ts.take i ++ [ts[i]] := List.take_succ_eq_append_getElem hlt
          have tnk : ts[i] ∉ ts.take i := fun hm => by
            have h1 : (ts.take i ++ [ts[i]]).Nodup := by rw [← tk]; exact (List.take_sublist _ _).nodup tnd
            have := (List.nodup_append.mp h1).2.2 _ hm _ (List.mem_singleton.mpr rfl)
            exact this rfl
          have vn : valV (kvl ad ks) (Sum.inl ts[i]) = none := by rw [val_kvl, gk, if_neg tnk]
          have kl : (kvl ad ks).length < sizeLine := by
            unfold kvl
            have := congrArg List.length gk
            rw [List.length_map] at this
            rw [List.length_map, this, List.length_take]
            exact Nat.lt_of_le_of_lt (show min i ts.length ≤ 11 by omega) (by decide)
          refine ⟨_, rfl, _, rfl, p6, _, rfl, DPut.k (k := Sum.inl ts[i]) g67 kl, ?_⟩
          rw [putK_new _ vn]
          refine ⟨_, rfl, _, 1, rfl, rfl, _, rfl, _, _, rfl, rfl, ?_⟩
          have nE : E' ≠ p6 := np6 g67 g7
          have cg : kvl ad ks ++ [(Sum.inl ts[i], V.ref E')] = kvl (fun k => if k = ts[i] then E' else ad k) (ks ++ [(ts[i], fs)]) := by
            unfold kvl
            rw [List.map_append]
            congr 1
            · refine List.map_congr_left fun p hp => ?_
              have e9 : (if p.1 = ts[i] then E' else ad p.1) = ad p.1 := if_neg fun z => tnk (by rw [← z, ← gk]; exact List.mem_map_of_mem hp)
              show _ = (Sum.inl p.1, V.ref (if p.1 = ts[i] then E' else ad p.1))
              rw [e9]
            · simp
          refine ⟨(at' + 1 + m.toNat), some (.int ts[i]), some (.int ((ds[at']'ha) % 7)), fun k => if k = ts[i] then E' else ad k, ks ++ [(ts[i], fs)], ?_, ?_, ?_, ?_, ?_, ?_⟩
          · have : ((at' + 1 + m.toNat : Nat) : Int) = (at' : Int) + 1 + m := by omega
            rw [this, ← em]
            rfl
          · exact fun c u g => by rw [upd_ne (ne_of_none g hp6)]; exact s7 c u (sx c u g)
          · rw [upd_same, cg]
          · rw [List.map_append, gk, tk]; rfl
          · intro p hp
            rcases List.mem_append.mp hp with h | h
            · obtain ⟨g1, g2, g3⟩ := gl p h
              refine ⟨?_, g2, g3⟩
              show upd H7 p6 _ (if p.1 = ts[i] then E' else ad p.1) = _
              rw [if_neg fun z => tnk (by rw [← z, ← gk]; exact List.mem_map_of_mem h)]
              have g1' := s7 _ _ g1
              rw [upd_ne (np6 g67 g1')]
              exact g1'
            · rw [List.mem_singleton.mp h]
              refine ⟨?_, by show fs.length ≤ 6; omega, e3⟩
              show upd H7 p6 _ (if ts[i] = ts[i] then E' else _) = _
              rw [if_pos rfl, upd_ne nE, g7, e1]
          · omega
      · rintro σ Hx ⟨at', v7, v8, ad, ks, rfl, sx, g6, gk, gl, ga⟩
        rw [List.length_map, List.take_of_length_le (Nat.le_refl _)] at gk
        refine ⟨_, rfl, cell, 72, rfl, rfl, ⟨by decide, by decide⟩, _, 4, rfl, rfl, _, 10, rfl, rfl, (by show (0 : Int) < 10; decide), ?_⟩
        have m0 := Int.emod_nonneg (cell / 72 + 4) (show (10 : Int) ≠ 0 by decide)
        have m1 := Int.emod_lt_of_pos (cell / 72 + 4) (show (0 : Int) < 10 by decide)
        obtain ⟨m, em⟩ : ∃ m : Int, (cell / 72 + 4) % 10 = m := ⟨_, rfl⟩
        rw [em] at m0 m1
        refine ⟨_, rfl, _, rfl, _, rfl, st, ds.map V.int, rfl, SqL.of (sx _ _ st5), fun q hq => ?_⟩
        obtain ⟨cs, ecs, lcs⟩ := cut_ints ds none (some m)
        have l9 := cut_pre ds m m0 ecs
        show ∃ a, _ ∧ _
        rw [em, ecs]
        refine ⟨q, rfl, ⟨_, SqL.of upd_same⟩, fun E' hE' => ?_⟩
        have sE : Same Hx (upd (upd Hx q (.lst (cs.map V.int))) E' (.lst [])) := (Same.upd hq).trans (Same.upd hE')
        have hE1 : Hx E' = none := (Same.upd hq).free hE'
        refine comp_list (K := K) (a := q) (xs := cs.map V.int) (fun j zs H7 => ∃ fs : List (Option Int), zs = fs.map oV ∧ fs.length = j ∧ (∀ n, some n ∈ fs → n ∈ ts) ∧ Same Hx H7 ∧ H7 E' = some (.lst zs) ∧ H7 q = some (.lst (cs.map V.int)))
          ⟨[], rfl, rfl, (fun n hn => nomatch hn), sE, upd_same, Same.upd hE' _ _ upd_same⟩ (fun j zs H7 _ ⟨fs, e1, e2, _, _, e3, _⟩ => ⟨e3, by rw [e1, List.length_map]; exact e2⟩) (fun j zs H7 _ ⟨fs, _, _, _, _, _, e4⟩ => SqL.of e4)
          (Nat.le_trans (show (cs.map V.int).length ≤ 9 by rw [List.length_map]; omega) (by decide)) (fun j x zs H7 hx ⟨fs, e1, e2, e3, s7, g7, q7⟩ => ?_) (fun zs H7 ⟨fs, e1, e2, e3, s7, g7, q7⟩ => ?_)
        · rw [List.getElem?_map] at hx
          obtain ⟨n, hn, rfl⟩ := Option.map_eq_some_iff.mp hx
          have n7 := s7 _ _ (sx _ _ n5)
          have i0 := Int.emod_nonneg (n / 5) (show ((1 + ts.length + ts.length : Nat) : Int) ≠ 0 by omega)
          have i1 := Int.emod_lt_of_pos (n / 5) (show (0 : Int) < ((1 + ts.length + ts.length : Nat) : Int) by omega)
          obtain ⟨y, hy, my⟩ := at_named ts 0 _ i0 i1
          refine ⟨_, rfl, _, rfl, n, 5, rfl, rfl, ⟨by decide, by decide⟩, _, rfl, p5, _, rfl, .inl (SqL.of n7), _, _, rfl, rfl, (by show (0 : Int) < _; rw [nl]; omega), p5, _, _, oV y, rfl, rfl, SqL.of n7, (by rw [nl]; exact hy), g7, fs ++ [y], ?_, ?_, ?_, ?_, upd_same, ?_⟩
          · rw [e1, List.map_append]; rfl
          · rw [List.length_append, e2]; rfl
          · intro n' hn'
            rcases List.mem_append.mp hn' with h | h
            · exact e3 n' h
            · exact my n' (List.mem_singleton.mp h).symm
          · exact fun c u g => by rw [upd_ne (ne_of_none g hE1)]; exact s7 c u g
          · rw [upd_ne (ne_of_none upd_same hE')]; exact q7
        · rw [List.length_map] at e2
          have g67 := s7 _ _ g6
          refine ⟨_, rfl, _, rfl, by show 2 ≤ sizeLine; decide, fun v hv => ⟨p6, kvl ad ks, Same.upd hv _ _ g67, fun o => ?_⟩⟩
          have nv : v ≠ p6 := fun z => by rw [z, g67] at hv; cases hv
          have up : ∀ {c : Addr} {xs : List V}, H7 c = some (.lst xs) → upd (upd H7 v (.tup [V.ref E', V.ref p6])) p6 (.frz o (.dK (kvl ad ks))) c = some (.lst xs) := fun g => by
            rw [upd_ne (np6 g67 g)]
            exact Same.upd hv _ _ g
          have hp0 : H p6 = none := (s1'.trans s5).free hp6
          refine k v E' p6 o ad fs ks _ (fun c u g => ?_) ?_ ⟨up (by rw [g7, e1]), upd_same, fun p hp => up (s7 _ _ (gl p hp).1)⟩ ⟨?_, ?_, ?_, ?_, ?_, ?_, ?_, fun p hp => ttop _ (by rw [← gk]; exact List.mem_map_of_mem hp)⟩
          · rw [upd_ne (ne_of_none g hp0)]
            exact Same.upd hv _ _ (s7 _ _ (sx _ _ (s5 _ _ (s1' _ _ g))))
          · rw [upd_ne nv, upd_same]
          · rw [gk]; exact tnd
          · exact fun p hp => tpos _ (by rw [← gk]; exact List.mem_map_of_mem hp)
          · have := congrArg List.length gk
            rw [List.length_map] at this
            omega
          · omega
          · exact fun p hp => (gl p hp).2.1
          · rw [gk]; exact e3
          · rw [gk]; exact fun p hp => (gl p hp).2.2
theorem ps_dead {X : Cx} {st : Stmt} : PS X st (fun _ _ _ => False) := fun _ _ _ _ _ _ h => h.elim
abbrev keys (ks : Fs) : List Int := ks.map (·.1)
theorem rd_vw {H : Hp} {r d : Addr} {o : Obj} {ad : Int → Addr} {rs : List (Option Int)} {ks : Fs} (v : Vw H r d o ad rs ks) : Rd H d (.dK (kvl ad ks)) := .inr ⟨o, v.hd⟩
theorem dget_f {H : Hp} {d : Addr} {o : Obj} {ad : Int → Addr} {ks : Fs} (h : H d = some (.frz o (.dK (kvl ad ks)))) (t : Int) : DGet H d (.int t) (if t ∈ keys ks then some (V.ref (ad t)) else none) := .inl ⟨_, Sum.inl t, .inr ⟨o, h⟩, rfl, by rw [val_kvl]⟩
theorem dget_in {H : Hp} {d : Addr} {o : Obj} {ad : Int → Addr} {ks : Fs} (h : H d = some (.frz o (.dK (kvl ad ks)))) {t : Int} (ht : t ∈ keys ks) : DGet H d (.int t) (some (V.ref (ad t))) := by
  have := dget_f h t
  rwa [if_pos ht] at this
/-- look_at_told -/
def spLTold : Sp := fun vs H Q _ => ∃ (l d : Addr) (o : Obj) (ad : Int → Addr) (fs : List (Option Int)) (ks : Fs), vs = [.ref l, .ref d] ∧ H l = some (.lst (fs.map oV)) ∧ H d = some (.frz o (.dK (kvl ad ks))) ∧ (∀ n, some n ∈ fs → n ∈ keys ks) ∧ Q .non H
theorem scLT : FnScope ["told", "fields", "t"] ["told", "fields"] (defScope sLTold) := ⟨rfl, rfl, rfl, by decide +kernel, rfl, by decide +kernel, by decide +kernel⟩
theorem ok_ltold {f : Addr} {fd : FuncData} (F : Fun K "look_at_told" "look_at_told" sLTold f fd) : FnOk P w K mg base (CXE P w) 1 f fd ["told", "fields"] spLTold := by
  refine F.okE scLT (fun vs H Q E h => ?_) (fun cdv A outer s H vs Q E hr h => ?_)
  · obtain ⟨l, d, o, ad, fs, ks, rfl, _⟩ := h
    rfl
  · obtain ⟨l, d, o, ad, fs, ks, rfl, hl, hd, hin, k⟩ := h
    have hu := hu_of hr
    refine ⟨_, PSs.nox (pss_one (ps_for PassesOwn.never rfl (pi_list (pv 0)) (pg_name (i := 2) scLT.nd rfl (Or.inl rfl))
      (pss_one (ps_if (PW.pt (pw_and (pt_cmpR op_notN (pv 2) pe_non (nomark _)) (pw_and1 (pt_cmp (pc_dnotin hu (pv 2) (pv 1)) (by with_unfolding_all rfl))))) (pss_one ps_dead) pss_nil)))), ?_⟩
    refine ⟨_, rfl, l, rfl, ⟨_, SqL.of hl⟩, for_list (K := K) (a := l) (xs := fs.map oV) (fun i σ H2 => H2 = H ∧ ∃ v2, σ = [some (.ref l), some (.ref d), v2]) ⟨rfl, none, rfl⟩ (fun i σ H2 _ ⟨e, _⟩ => by rw [e]; exact SqL.of hl) ?_ ?_⟩
    · rintro i x σ H2 hx ⟨rfl, v2, rfl⟩
      rw [List.getElem?_map] at hx
      obtain ⟨y, hy, rfl⟩ := Option.map_eq_some_iff.mp hx
      cases y with
      | none => exact ⟨_, rfl, rfl, _, rfl, iteF (iteF ⟨rfl, _, rfl⟩)⟩
      | some n =>
        have hn : n ∈ keys ks := hin n (List.mem_of_getElem? hy)
        exact ⟨_, rfl, rfl, _, rfl, iteT ⟨_, rfl, _, rfl, d, _, rfl, dget_in hd hn, _, rfl, iteF ⟨rfl, _, rfl⟩⟩⟩
    · rintro σ H2 ⟨rfl, v2, rfl⟩
      exact k
/-- look_at_view -/
def spLook (K : PySem.W.Frag) : Sp := fun vs H Q _ => ∃ (v r d : Addr) (o : Obj) (ad : Int → Addr) (rs : List (Option Int)) (ks : Fs), vs = [.ref v] ∧ SqT K H v [.ref r, .ref d] ∧ Vw H r d o ad rs ks ∧ Rt rs ks ∧ Q .non H
theorem scLV : FnScope ["view", "fields", "t"] ["view"] (defScope sLook) := ⟨rfl, rfl, rfl, by decide +kernel, rfl, by decide +kernel, by decide +kernel⟩
theorem key_at {ad : Int → Addr} {ks : Fs} {i : Nat} {p : Key × V} (h : (kvl ad ks)[i]? = some p) : ∃ q ∈ ks, ks[i]? = some q ∧ p = (Sum.inl q.1, V.ref (ad q.1)) := by
  unfold kvl at h
  rw [List.getElem?_map] at h
  obtain ⟨q, hq, rfl⟩ := Option.map_eq_some_iff.mp h
  exact ⟨q, List.mem_of_getElem? hq, hq, rfl⟩
theorem ok_look {f fT : Addr} {fd fdT : FuncData} (F : Fun K "look_at_view" "look_at_view" sLook f fd) (GT : FnOk P w K mg base (CXE P w) 1 fT fdT ["told", "fields"] spLTold) (mT : mg "look_at_told" = some (.ref fT)) (kT : PySem.W.keepIn K (.ref fT) = true) (bT : Binds K fdT ["told", "fields"] []) :
    FnOk P w K mg base (CXE P w) 2 f fd ["view"] (spLook K) := by
  refine F.okE scLV (fun vs H Q E h => ?_) (fun cdv A outer s H vs Q E hr h => ?_)
  · obtain ⟨v, r, d, o, ad, rs, ks, rfl, _⟩ := h
    rfl
  · obtain ⟨v, r, d, o, ad, rs, ks, rfl, ht, hv, rt, k⟩ := h
    have hu := hu_of hr
    refine ⟨_, PSs.nox (pss_cons (ps_set (i := 1) scLV.nd rfl (Or.inl rfl) (pe_ix ix_tup (pv 0) pe_int (fun _ _ => rfl)))
      (pss_cons (ps_expr (xe_call GT hr rfl mT kT bT .nil passN (pa_cons (pe_ix ix_tup (pv 0) pe_int (fun _ _ => rfl)) (pa_cons (pv 1) pa_nil))))
      (pss_one (ps_for PassesOwn.never rfl (pi_dict (pv 1)) (pg_name (i := 2) scLV.nd rfl (Or.inl rfl))
        (pss_cons (ps_if (pt_cmpR op_lt (pv 2) pe_int (nomark _)) (pss_one ps_dead) pss_nil)
        (pss_one (ps_expr (xe_call GT hr rfl mT kT bT .nil passN (pa_cons (pe_dget hu (pv 1) (pv 2) (fun _ _ => rfl)) (pa_cons (pv 1) pa_nil)))))))))), ?_⟩
    refine ⟨_, rfl, v, _, 1, .ref d, rfl, rfl, ht, rfl, ?_⟩
    refine ⟨_, rfl, v, _, 0, .ref r, rfl, rfl, ht, rfl, _, rfl, r, d, o, ad, rs, ks, rfl, hv.hr, hv.hd, rt.ri, ?_⟩
    refine ⟨_, rfl, d, o, _, rfl, hv.hd, for_dict (d := d) (o := o) (kvs := kvl ad ks) (fun i σ H2 => H2 = H ∧ ∃ v2, σ = [some (.ref v), some (.ref d), v2]) ⟨rfl, none, rfl⟩ (fun i σ H2 _ ⟨e, _⟩ => by rw [e]; exact hv.hd) ?_ ?_⟩
    · rintro i p σ H2 hx ⟨rfl, v2, rfl⟩
      obtain ⟨q, hq, _, rfl⟩ := key_at hx
      have h0 := rt.pos q hq
      refine ⟨_, rfl, _, 0, rfl, rfl, _, rfl, ite2 (fun h => ?_) (fun _ => ?_)⟩
      · have h1 : q.1 < 0 := by simpa using h
        omega
      · exact ⟨_, rfl, _, rfl, d, _, rfl, dget_in hv.hd (List.mem_map_of_mem hq), _, rfl, ad q.1, d, o, ad, q.2, ks, rfl, hv.hl q hq, hv.hd, rt.fi q hq, rfl, _, rfl⟩
    · rintro σ H2 ⟨rfl, v2, rfl⟩
      exact k
def fsOf (ks : Fs) (t : Int) : List (Option Int) := match ks.find? (fun p => decide (p.1 = t)) with
  | some p => p.2
  | none => []
theorem fsOf_mem : ∀ {ks : Fs}, (keys ks).Nodup → ∀ {p : Int × List (Option Int)}, p ∈ ks → fsOf ks p.1 = p.2
  | [], _, _, h => nomatch h
  | q :: r, nd, p, h => by
    obtain ⟨n1, n2⟩ := List.nodup_cons.mp (show (q.1 :: keys r).Nodup from nd)
    unfold fsOf
    rcases List.mem_cons.mp h with e | h
    · subst e
      rw [List.find?_cons_of_pos (by simp)]
    · have ne : ¬ q.1 = p.1 := fun z => n1 (by rw [z]; exact List.mem_map_of_mem h)
      rw [List.find?_cons_of_neg (by simpa using ne)]
      exact fsOf_mem n2 h
theorem fs_at {H : Hp} {r d : Addr} {o : Obj} {ad : Int → Addr} {rs : List (Option Int)} {ks : Fs} (v : Vw H r d o ad rs ks) (rt : Rt rs ks) {t : Int} (ht : t ∈ keys ks) : H (ad t) = some (.lst ((fsOf ks t).map oV)) ∧ (fsOf ks t).length ≤ 6 ∧ ∀ n, some n ∈ fsOf ks t → n ∈ keys ks := by
  obtain ⟨p, hp, rfl⟩ := List.mem_map.mp ht
  rw [fsOf_mem rt.nd hp]
  exact ⟨v.hl p hp, rt.fl p hp, rt.fi p hp⟩
theorem sqT_same {H H' : Hp} {a : Addr} {xs : List V} (h : SqT K H a xs) (s : Same H H') : SqT K H' a xs := Or.imp (fun r => Or.elim r (fun e => .inl (s _ _ e)) fun ⟨o, e⟩ => .inr ⟨o, s _ _ e⟩) id h
/-- _law_copy -/
def spCopy (K : PySem.W.Frag) : Sp := fun vs H Q _ => ∃ (v r d : Addr) (o : Obj) (ad : Int → Addr) (rs : List (Option Int)) (ks : Fs), vs = [.ref v] ∧ SqT K H v [.ref r, .ref d] ∧ Vw H r d o ad rs ks ∧ Rt rs ks ∧
  ∀ (v' r' d' : Addr) (o' : Obj) (ad' : Int → Addr) (H' : Hp), Same H H' → H' v' = some (.tup [.ref r', .ref d']) → Vw H' r' d' o' ad' rs ks → Q (.ref v') H'
theorem scY : FnScope ["view", "fields", "thing"] ["view"] (defScope sCopy) := ⟨rfl, rfl, rfl, by decide +kernel, rfl, by decide +kernel, by decide +kernel⟩
theorem ok_copy {f : Addr} {fd : FuncData} (F : Fun K "_law_copy" "_law_copy" sCopy f fd) (zl : mg "list" = none) : FnOk P w K mg base (CXE P w) 1 f fd ["view"] (spCopy K) := by
  refine F.okE scY (fun vs H Q E h => ?_) (fun cdv A outer s H vs Q E hr h => ?_)
  · obtain ⟨v, r, d, o, ad, rs, ks, rfl, _⟩ := h
    rfl
  · obtain ⟨v, r, d, o, ad, rs, ks, rfl, ht, hv, rt, k⟩ := h
    have hu := hu_of hr
    refine ⟨_, PSs.nox (pss_cons (ps_set (i := 1) scY.nd rfl (Or.inl rfl) pe_dnewK)
      (pss_cons (ps_for PassesOwn.never rfl (pi_dict (pe_ix ix_tup (pv 0) pe_int (fun _ _ => rfl))) (pg_name (i := 2) scY.nd rfl (Or.inl rfl))
        (pss_one (ps_dput hu (pv 1) (pv 2) (pe_callTy call_list_of rfl zl PyProof.Rows.Boot.«list» (pa_cons (pe_dget hu (pe_ix ix_tup (pv 0) pe_int (fun _ _ => rfl)) (pv 2) (fun _ _ => rfl)) pa_nil)) rfl)))
      (pss_one (ps_ret (pe_frz (pe_tup (pa_cons (pe_callTy call_list_of rfl zl PyProof.Rows.Boot.«list» (pa_cons (pe_ix ix_tup (pv 0) pe_int (fun _ _ => rfl)) pa_nil)) (pa_cons (pv 1) pa_nil)))))))), ?_⟩
    refine fun p6 hp6 => ?_
    have np6 : ∀ {Hx : Hp} {kvs : List (Key × V)} {c : Addr} {xs : List V}, Hx p6 = some (.dK kvs) → Hx c = some (.lst xs) → c ≠ p6 := fun g1 g2 => ne_of g2 g1 (by intro z; cases z)
    have s6 : Same H (upd H p6 (.dK [])) := Same.upd hp6
    refine ⟨_, rfl, v, _, 1, .ref d, rfl, rfl, sqT_same ht s6, rfl, d, o, _, rfl, s6 _ _ hv.hd, for_dict (d := d) (o := o) (kvs := kvl ad ks) (fun i σ H2 => ∃ (v2 : Option V) (ad' : Int → Addr), σ = [some (.ref v), some (.ref p6), v2] ∧ Same H H2 ∧ H2 p6 = some (.dK (kvl ad' (ks.take i))) ∧ ∀ p ∈ ks.take i, H2 (ad' p.1) = some (.lst (p.2.map oV)))
      ⟨none, fun _ => 0, rfl, s6, upd_same, (fun p hp => nomatch hp)⟩ (fun i σ H2 _ ⟨_, _, _, s2, _⟩ => s2 _ _ hv.hd) ?_ ?_⟩
    · rintro i p σ H2 hx ⟨v2, ad', rfl, s2, g6, gl⟩
      obtain ⟨q, hq, hqi, rfl⟩ := key_at hx
      obtain ⟨hlt, eq⟩ := List.getElem?_eq_some_iff.mp hqi
      have tk : ks.take (i + 1) = ks.take i ++ [q] := by rw [List.take_succ_eq_append_getElem hlt, eq]
      have v2' := hv.same s2
      have hin : q.1 ∈ keys ks := List.mem_map_of_mem hq
      refine ⟨_, rfl, v, _, 1, .ref d, rfl, rfl, sqT_same ht s2, rfl, _, rfl, d, _, rfl, dget_in v2'.hd hin, ad q.1, _, rfl, .inl (SqL.of (v2'.hl q hq)), fun l hl => ?_⟩
      have nk : q.1 ∉ keys (ks.take i) := fun g => by
        have h1 : (keys (ks.take i) ++ [q.1]).Nodup := by
          have e9 : keys (ks.take (i + 1)) = keys (ks.take i) ++ [q.1] := by
            show (ks.take (i + 1)).map (·.1) = _
            rw [tk, List.map_append]; rfl
          rw [← e9]
          exact ((List.take_sublist _ _).map _).nodup rt.nd
        exact (List.nodup_append.mp h1).2.2 _ g _ (List.mem_singleton.mpr rfl) rfl
      have g63 := Same.upd (o := .lst (q.2.map oV)) hl _ _ g6
      have kl : (kvl ad' (ks.take i)).length < sizeLine := by
        unfold kvl
        have := rt.kl
        rw [List.length_map, List.length_take]
        exact Nat.lt_of_le_of_lt (show min i ks.length ≤ 11 by omega) (by decide)
      refine ⟨_, rfl, _, rfl, p6, _, rfl, DPut.k (k := Sum.inl q.1) g63 kl, ?_⟩
      rw [putK_new _ (by rw [val_kvl, if_neg nk])]
      have nl : l ≠ p6 := fun z => by rw [z, g6] at hl; cases hl
      have cg : kvl ad' (ks.take i) ++ [(Sum.inl q.1, V.ref l)] = kvl (fun k => if k = q.1 then l else ad' k) (ks.take (i + 1)) := by
        rw [tk]
        unfold kvl
        rw [List.map_append]
        congr 1
        · refine List.map_congr_left fun p hp => ?_
          have e9 : (if p.1 = q.1 then l else ad' p.1) = ad' p.1 := if_neg fun z => nk (by rw [← z]; exact List.mem_map_of_mem hp)
          show _ = (Sum.inl p.1, V.ref (if p.1 = q.1 then l else ad' p.1))
          rw [e9]
        · simp
      refine ⟨some (.int q.1), fun k => if k = q.1 then l else ad' k, rfl, fun c u g => ?_, ?_, ?_⟩
      · rw [upd_ne (ne_of_none g hp6)]
        exact Same.upd hl _ _ (s2 _ _ g)
      · rw [upd_same, cg]
      · intro p hp
        rw [tk] at hp
        rcases List.mem_append.mp hp with h | h
        · show upd (upd H2 l _) p6 _ (if p.1 = q.1 then l else ad' p.1) = _
          have g1 := gl p h
          rw [if_neg fun z => nk (by rw [← z]; exact List.mem_map_of_mem h), upd_ne (np6 g6 g1)]
          exact Same.upd hl _ _ g1
        · rw [List.mem_singleton.mp h]
          show upd (upd H2 l _) p6 _ (if q.1 = q.1 then l else _) = _
          rw [if_pos rfl, upd_ne nl, upd_same]
    · rintro σ H2 ⟨v2, ad', rfl, s2, g6, gl⟩
      have el : (kvl ad ks).length = ks.length := by unfold kvl; rw [List.length_map]
      rw [el, List.take_of_length_le (Nat.le_refl _)] at g6 gl
      have v2' := hv.same s2
      refine ⟨_, rfl, v, _, 0, .ref r, rfl, rfl, sqT_same ht s2, rfl, r, _, rfl, .inl (SqL.of v2'.hr), fun l hl => ⟨_, rfl, by show 2 ≤ sizeLine; decide, fun t htt => ?_⟩⟩
      have g64 := Same.upd (o := .lst (rs.map oV)) hl _ _ g6
      refine ⟨p6, kvl ad' ks, Same.upd htt _ _ g64, fun o' => ?_⟩
      have nv : t ≠ p6 := fun z => by rw [z, g64] at htt; cases htt
      have up : ∀ {c : Addr} {xs : List V}, upd H2 l (.lst (rs.map oV)) c = some (.lst xs) → upd (upd (upd H2 l (.lst (rs.map oV))) t (.tup [V.ref l, V.ref p6])) p6 (.frz o' (.dK (kvl ad' ks))) c = some (.lst xs) := fun g => by
        rw [upd_ne (np6 g64 g)]
        exact Same.upd htt _ _ g
      refine k t l p6 o' ad' _ (fun c u g => ?_) ?_ ⟨up upd_same, upd_same, fun p hp => up (Same.upd hl _ _ (gl p hp))⟩
      · rw [upd_ne (ne_of_none g hp6)]
        exact Same.upd htt _ _ (Same.upd hl _ _ (s2 _ _ g))
      · rw [upd_ne nv, upd_same]
theorem oV_flat (x : Option Int) : flatV (oV x) = true := by cases x <;> rfl
theorem deep_list {H : Hp} {a b : Addr} {fs : List (Option Int)} (ha : H a = some (.lst (fs.map oV))) (hb : H b = some (.lst (fs.map oV))) : Deep K H 1 (.ref a) (.ref b) :=
  .lst (SqL.of ha) (SqL.of hb) rfl fun j h1 h2 => .flat (by rw [List.getElem_map]; exact oV_flat _)
theorem kvl_int {ad : Int → Addr} {ks : Fs} : ∀ p ∈ kvl ad ks, ∃ i, p.1 = Sum.inl i := fun p hp => by
  obtain ⟨q, _, rfl⟩ := List.mem_map.mp hp
  exact ⟨_, rfl⟩
theorem kvl_eq {H : Hp} {r d r' d' : Addr} {o o' : Obj} {ad ad' : Int → Addr} {rs : List (Option Int)} {ks : Fs} (v : Vw H r d o ad rs ks) (v' : Vw H r' d' o' ad' rs ks) : ∀ p ∈ kvl ad' ks, ∃ y, valV (kvl ad ks) p.1 = some y ∧ Deep K H 1 p.2 y := fun p hp => by
  obtain ⟨q, hq, rfl⟩ := List.mem_map.mp hp
  exact ⟨.ref (ad q.1), by rw [val_kvl, if_pos (List.mem_map_of_mem hq)], deep_list (v'.hl q hq) (v.hl q hq)⟩
def Shut (ks : Fs) (ts : List Int) : Prop := ∀ t ∈ ts, ∀ n, some n ∈ fsOf ks t → n ∈ ts
end
end K17
end
section
set_option Elab.async false
set_option linter.all false
set_option maxRecDepth 100000
set_option maxHeartbeats 4000000
namespace K17
open PySem L2 LX HT
/-! ### the order of ways -/
theorem lex_trans : ∀ {a b c : List Int}, lexLt a b = true → lexLt b c = true → lexLt a c = true
  | [], [], _, h, _ => absurd h Bool.false_ne_true
  | [], _ :: _, [], _, h => absurd h Bool.false_ne_true
  | [], _ :: _, _ :: _, _, _ => rfl
  | _ :: _, [], _, h, _ => absurd h Bool.false_ne_true
  | _ :: _, _ :: _, [], _, h => absurd h Bool.false_ne_true
  | x :: a, y :: b, z :: c, h1, h2 => by
    rw [lexLt_cons] at h1 h2 ⊢
    by_cases e1 : x = y
    · rw [if_pos e1] at h1
      subst e1
      by_cases e2 : x = z
      · rw [if_pos e2] at h2 ⊢
        exact lex_trans h1 h2
      · rw [if_neg e2] at h2 ⊢
        exact h2
    · rw [if_neg e1] at h1
      have g1 := of_decide_eq_true h1
      by_cases e2 : y = z
      · subst e2
        rw [if_neg e1]
        exact h1
      · rw [if_neg e2] at h2
        have g2 := of_decide_eq_true h2
        rw [if_neg (by omega)]
        exact decide_eq_true (by omega)
theorem lex_tri : ∀ {a b : List Int}, lexLt a b = false → lexLt b a = false → a = b
  | [], [], _, _ => rfl
  | [], _ :: _, h, _ => absurd h.symm Bool.false_ne_true
  | _ :: _, [], _, h => absurd h.symm Bool.false_ne_true
  | x :: a, y :: b, h1, h2 => by
    rw [lexLt_cons] at h1 h2
    by_cases e1 : x = y
    · rw [if_pos e1] at h1
      rw [if_pos e1.symm] at h2
      rw [e1, lex_tri h1 h2]
    · rw [if_neg e1] at h1
      rw [if_neg (Ne.symm e1)] at h2
      have g1 := of_decide_eq_false h1
      have g2 := of_decide_eq_false h2
      omega
theorem lex_app : ∀ {a b : List Int}, a.length = b.length → lexLt a b = true → ∀ x y, lexLt (a ++ x) (b ++ y) = true
  | [], [], _, h, _, _ => absurd h Bool.false_ne_true
  | [], _ :: _, h, _, _, _ => by cases h
  | _ :: _, [], h, _, _, _ => by cases h
  | u :: a, v :: b, hl, h, x, y => by
    show lexLt (u :: (a ++ x)) (v :: (b ++ y)) = true
    rw [lexLt_cons] at h ⊢
    by_cases e : u = v
    · rw [if_pos e] at h ⊢
      exact lex_app (by simpa using hl) h x y
    · rw [if_neg e] at h ⊢
      exact h
theorem lex_same : ∀ (a : List Int) (x y : List Int), lexLt (a ++ x) (a ++ y) = lexLt x y
  | [], _, _ => rfl
  | u :: a, x, y => by
    show lexLt (u :: (a ++ x)) (u :: (a ++ y)) = _
    rw [lexLt_cons, if_pos rfl]
    exact lex_same a x y
/-- a way: the root's place and the fields' places -/
abbrev Wy := Int × List Int
def key (w : Wy) : List Int := (w.2.length : Int) :: w.1 :: w.2
def Lt (a b : Wy) : Prop := lexLt (key a) (key b) = true
def on (w : Wy) (q : Int) : Wy := (w.1, w.2 ++ [q])
theorem on_len (w : Wy) (q : Int) : (on w q).2.length = w.2.length + 1 := by
  show (w.2 ++ [q]).length = _
  rw [List.length_append, List.length_singleton]
theorem key_inj {a b : Wy} (h : key a = key b) : a = b := by
  injection h with _ h
  injection h with h1 h2
  exact Prod.ext h1 h2
theorem Lt.irr (a : Wy) : ¬ Lt a a := fun h => by
  have := lexLt_self (key a)
  rw [h] at this
  cases this
theorem Lt.trans {a b c : Wy} (h1 : Lt a b) (h2 : Lt b c) : Lt a c := lex_trans h1 h2
theorem Lt.tri (a b : Wy) : Lt a b ∨ a = b ∨ Lt b a := by
  cases h1 : lexLt (key a) (key b) with
  | true => exact .inl h1
  | false =>
    cases h2 : lexLt (key b) (key a) with
    | true => exact .inr (.inr h2)
    | false => exact .inr (.inl (key_inj (lex_tri h1 h2)))
theorem Lt.of_len {a b : Wy} (h : a.2.length < b.2.length) : Lt a b := by
  show lexLt ((a.2.length : Int) :: _) ((b.2.length : Int) :: _) = true
  rw [lexLt_cons, if_neg (by omega)]
  exact decide_eq_true (by omega)
theorem Lt.len {a b : Wy} (h : Lt a b) : a.2.length ≤ b.2.length := by
  rcases Nat.lt_or_ge b.2.length a.2.length with z | z
  · exact absurd (Lt.trans h (Lt.of_len z)) (Lt.irr _)
  · exact z
theorem Lt.on {a b : Wy} (h : Lt a b) (p q : Int) : Lt (on a p) (on b q) := by
  rcases Nat.lt_or_ge a.2.length b.2.length with z | z
  · exact Lt.of_len (by rw [on_len, on_len]; omega)
  · have el : a.2.length = b.2.length := Nat.le_antisymm h.len z
    have h' : lexLt (a.1 :: a.2) (b.1 :: b.2) = true := by
      have h : lexLt ((a.2.length : Int) :: a.1 :: a.2) ((b.2.length : Int) :: b.1 :: b.2) = true := h
      rwa [lexLt_cons, if_pos (by omega)] at h
    show lexLt (((a.2 ++ [p]).length : Int) :: ((a.1 :: a.2) ++ [p])) (((b.2 ++ [q]).length : Int) :: ((b.1 :: b.2) ++ [q])) = true
    rw [lexLt_cons, if_pos (by rw [List.length_append, List.length_append, el]; rfl)]
    exact lex_app (by rw [List.length_cons, List.length_cons, el]) h' _ _
theorem Lt.on_same (a : Wy) {p q : Int} (h : p < q) : Lt (K17.on a p) (K17.on a q) := by
  show lexLt (((a.2 ++ [p]).length : Int) :: ((a.1 :: a.2) ++ [p])) (((a.2 ++ [q]).length : Int) :: ((a.1 :: a.2) ++ [q])) = true
  rw [lexLt_cons, if_pos (by rw [List.length_append, List.length_append]; rfl), lex_same, lexLt_cons, if_neg (by omega)]
  exact decide_eq_true h
theorem Lt.root {i j : Int} (h : i < j) : Lt (i, []) (j, []) := by
  show lexLt [0, i] [0, j] = true
  rw [lexLt_cons, if_pos rfl, lexLt_cons, if_neg (by omega)]
  exact decide_eq_true h
/-! ### what a way leads to -/
inductive Led (rs : List (Option Int)) (ks : Fs) : Wy → Int → Prop
  | root {i : Nat} {t : Int} : rs[i]? = some (some t) → Led rs ks ((i : Int), []) t
  | step {w : Wy} {p : Int × List (Option Int)} {q : Nat} {t : Int} : Led rs ks w p.1 → p ∈ ks → p.2[q]? = some (some t) → Led rs ks (on w q) t
/-- the least way -/
def Mn (rs : List (Option Int)) (ks : Fs) (t : Int) (w : Wy) : Prop := Led rs ks w t ∧ ∀ w', Led rs ks w' t → ¬ Lt w' w
theorem Mn.one {rs : List (Option Int)} {ks : Fs} {t : Int} {a b : Wy} (h1 : Mn rs ks t a) (h2 : Mn rs ks t b) : a = b := by
  rcases Lt.tri a b with h | h | h
  · exact absurd h (h2.2 _ h1.1)
  · exact h
  · exact absurd h (h1.2 _ h2.1)
theorem led_on {rs : List (Option Int)} {ks : Fs} {w : Wy} {q : Int} {t : Int} (h : Led rs ks (on w q) t) : ∃ (p : Int × List (Option Int)) (j : Nat), p ∈ ks ∧ Led rs ks w p.1 ∧ q = (j : Int) ∧ p.2[j]? = some (some t) := by
  generalize e : on w q = w' at h
  cases h with
  | root h =>
    have := congrArg (fun z => z.2.length) e
    simp only [on_len, List.length_nil] at this
    omega
  | @step w2 p j _ h1 h2 h3 =>
    have e1 := congrArg Prod.fst e
    have e2 : w.2 ++ [q] = w2.2 ++ [(j : Int)] := congrArg Prod.snd e
    obtain ⟨e3, e4⟩ := List.append_inj' e2 rfl
    have ew : w = w2 := Prod.ext e1 e3
    subst ew
    exact ⟨p, j, h2, h1, by injection e4, h3⟩
/-- ways that are real, and none of a root's or of a thing's ones is less -/
structure Cls (rs : List (Option Int)) (ks : Fs) (ms : List Int) (wy : Int → Wy) : Prop where
  snd : ∀ t ∈ ms, Led rs ks (wy t) t
  rt : ∀ (i : Nat) t, rs[i]? = some (some t) → t ∈ ms ∧ ¬ Lt ((i : Int), []) (wy t)
  st : ∀ p ∈ ks, p.1 ∈ ms → ∀ (q : Nat) t, p.2[q]? = some (some t) → t ∈ ms ∧ ¬ Lt (on (wy p.1) q) (wy t)
theorem Cls.all {rs : List (Option Int)} {ks : Fs} {ms : List Int} {wy : Int → Wy} (c : Cls rs ks ms wy) : ∀ {w : Wy} {t : Int}, Led rs ks w t → t ∈ ms ∧ ¬ Lt w (wy t) := fun {w t} h => by
  induction h with
  | root h => exact c.rt _ _ h
  | @step w p q t h1 h2 h3 ih =>
    obtain ⟨g1, g2⟩ := c.st p h2 ih.1 q t h3
    refine ⟨g1, fun hl => g2 ?_⟩
    rcases Lt.tri w (wy p.1) with z | z | z
    · exact absurd z ih.2
    · rw [← z]; exact hl
    · exact Lt.trans (z.on _ _) hl
theorem Cls.mn {rs : List (Option Int)} {ks : Fs} {ms : List Int} {wy : Int → Wy} (c : Cls rs ks ms wy) {t : Int} (h : t ∈ ms) : Mn rs ks t (wy t) := ⟨c.snd t h, fun w' hw => (c.all hw).2⟩
end K17
end
section
set_option Elab.async false
set_option linter.all false
set_option maxRecDepth 100000
set_option maxHeartbeats 4000000
set_option exponentiation.threshold 4000
namespace K17
open PySem L2 LX
section
variable {P : Program} {w : World} {K : PySem.W.Frag} {mg : Str → Option Value} {base : Heap}
/-! ### last_steps -/
theorem val_some {kvs : List (Key × V)} {ms : List Int} (h : kvs.map (·.1) = ms.map Sum.inl) (n : Int) : (valV kvs (Sum.inl n)).isSome = decide (n ∈ ms) := by
  rw [← valV_any, Bool.eq_iff_iff, List.any_eq_true, decide_eq_true_eq]
  constructor
  · rintro ⟨kv, h1, h2⟩
    have h3 : kv.1 = Sum.inl n := by simpa using h2
    have h4 : (Sum.inl n : Key) ∈ ms.map Sum.inl := by rw [← h, ← h3]; exact List.mem_map_of_mem h1
    obtain ⟨m, hm, e⟩ := List.mem_map.mp h4
    injection e with e
    rw [← e]
    exact hm
  · intro hn
    have h4 : (Sum.inl n : Key) ∈ kvs.map (·.1) := by rw [h]; exact List.mem_map_of_mem hn
    obtain ⟨kv, h1, h2⟩ := List.mem_map.mp h4
    exact ⟨kv, h1, by simpa using h2⟩
/-- g, but c at n -/
def ext {α : Type} (g : Int → α) (n : Int) (c : α) : Int → α := fun k => if k = n then c else g k
theorem ext_self {α : Type} (g : Int → α) (n : Int) (c : α) : ext g n c n = c := if_pos rfl
theorem ext_ne {α : Type} (g : Int → α) {n k : Int} (c : α) (h : k ≠ n) : ext g n c k = g k := if_neg h
/-- where a step comes from -/
def Fr (ms : List Int) (wy : Int → Wy) (c : Wy) : Option Int × Int → Prop
  | (none, q) => c = (q, [])
  | (some s, q) => s ∈ ms ∧ c = on (wy s) q
/-- the things met, rising by their ways -/
structure Bf (rs : List (Option Int)) (ks : Fs) (ms : List Int) (wy : Int → Wy) (fr : Int → Option Int × Int) : Prop where
  asc : ms.Pairwise fun a b => Lt (wy a) (wy b)
  snd : ∀ t ∈ ms, Led rs ks (wy t) t
  dep : ∀ i (h : i < ms.length), (wy ms[i]).2.length ≤ i
  fro : ∀ t ∈ ms, Fr ms wy (wy t) (fr t)
theorem Bf.put {rs : List (Option Int)} {ks : Fs} {ms : List Int} {wy : Int → Wy} {fr : Int → Option Int × Int} (b : Bf rs ks ms wy fr) {n : Int} {c : Wy} {f : Option Int × Int} (hn : n ∉ ms) (lt : ∀ t ∈ ms, Lt (wy t) c) (hl : Led rs ks c n) (hd : c.2.length ≤ ms.length) (hf : Fr ms wy c f) :
    Bf rs ks (ms ++ [n]) (ext wy n c) (ext fr n f) := by
  have ne : ∀ {t}, t ∈ ms → t ≠ n := fun h z => hn (by rw [← z]; exact h)
  have frm : ∀ {c : Wy} {f : Option Int × Int}, Fr ms wy c f → Fr (ms ++ [n]) (ext wy n c) c f ∧ ∀ c', Fr (ms ++ [n]) (ext wy n c') c f := fun {c f} h => by
    have g : ∀ c', Fr (ms ++ [n]) (ext wy n c') c f := fun c' => by
      match f, h with
      | (none, q), h => exact h
      | (some s, q), h => exact ⟨List.mem_append_left _ h.1, by rw [ext_ne _ _ (ne h.1)]; exact h.2⟩
    exact ⟨g c, g⟩
  refine ⟨?_, fun t ht => ?_, fun i h => ?_, fun t ht => ?_⟩
  · rw [List.pairwise_append]
    refine ⟨b.asc.imp_of_mem fun {x y} hx hy h => ?_, List.pairwise_singleton _ _, fun x hx y hy => ?_⟩
    · rw [ext_ne _ _ (ne hx), ext_ne _ _ (ne hy)]
      exact h
    · rw [List.mem_singleton.mp hy, ext_self, ext_ne _ _ (ne hx)]
      exact lt x hx
  · rcases List.mem_append.mp ht with g | g
    · rw [ext_ne _ _ (ne g)]
      exact b.snd t g
    · rw [List.mem_singleton.mp g, ext_self]
      exact hl
  · by_cases hi : i < ms.length
    · rw [List.getElem_append_left hi, ext_ne _ _ (ne (List.getElem_mem hi))]
      exact b.dep i hi
    · rw [List.length_append, List.length_singleton] at h
      have ei : i = ms.length := by omega
      subst ei
      rw [List.getElem_append_right (Nat.le_refl _)]
      simp only [Nat.sub_self, List.getElem_cons_zero]
      rw [ext_self]
      exact hd
  · rcases List.mem_append.mp ht with g | g
    · rw [ext_ne _ _ (ne g), ext_ne _ _ (ne g)]
      exact (frm (b.fro t g)).2 c
    · rw [List.mem_singleton.mp g, ext_self, ext_self]
      exact (frm hf).1
/-- the dict of steps -/
structure Sd (H : Hp) (st : Addr) (ms : List Int) (ea : Int → Addr) (fr : Int → Option Int × Int) : Prop where
  hs : H st = some (.dK (ms.map fun t => (Sum.inl t, V.ref (ea t))))
  nd : ms.Nodup
  he : ∀ t ∈ ms, H (ea t) = some (.tup [oV (fr t).1, .int (fr t).2])
theorem Sd.val {ea : Int → Addr} {ms : List Int} (n : Int) : valV (ms.map fun t => ((Sum.inl t : Key), V.ref (ea t))) (Sum.inl n) = if n ∈ ms then some (V.ref (ea n)) else none := by
  have := val_kvl ea n (ms.map fun t => (t, []))
  unfold kvl at this
  rw [List.map_map, List.map_map] at this
  have e : List.map ((fun (x : Int × List (Option Int)) => x.1) ∘ fun t => (t, [])) ms = ms := by
    show List.map (fun t => t) ms = ms
    exact List.map_id _
  rw [e] at this
  exact this
theorem Sd.same {H H' : Hp} {st : Addr} {ms : List Int} {ea : Int → Addr} {fr : Int → Option Int × Int} (m : Sd H st ms ea fr) (s : Same H H') : Sd H' st ms ea fr := ⟨s _ _ m.hs, m.nd, fun t h => s _ _ (m.he t h)⟩
theorem Sd.but {H : Hp} {st mt : Addr} {ms : List Int} {ea : Int → Addr} {fr : Int → Option Int × Int} {xs ys : List V} (m : Sd H st ms ea fr) (h : H mt = some (.lst xs)) : Sd (upd H mt (.lst ys)) st ms ea fr :=
  ⟨(upd_ne (ne_of m.hs h (by intro z; cases z))).trans m.hs, m.nd, fun t ht => (upd_ne (ne_of (m.he t ht) h (by intro z; cases z))).trans (m.he t ht)⟩
theorem Sd.put {H : Hp} {st : Addr} {ms : List Int} {ea : Int → Addr} {fr : Int → Option Int × Int} (m : Sd H st ms ea fr) {n : Int} (hn : n ∉ ms) {u : Addr} {f : Option Int × Int} (hu : H u = some (.tup [oV f.1, .int f.2])) (hl : ms.length ≤ 1000) :
    ∃ H', DPut H st (.int n) (.ref u) H' ∧ Sd H' st (ms ++ [n]) (ext ea n u) (ext fr n f) ∧ ∀ c v, c ≠ st → H c = some v → H' c = some v := by
  have ne : ∀ {t}, t ∈ ms → t ≠ n := fun h z => hn (by rw [← z]; exact h)
  have e : valV (ms.map fun t => ((Sum.inl t : Key), V.ref (ea t))) (Sum.inl n) = none := by rw [Sd.val, if_neg hn]
  have ek : (ms ++ [n]).map (fun t => ((Sum.inl t : Key), V.ref (ext ea n u t))) = (ms.map fun t => ((Sum.inl t : Key), V.ref (ea t))) ++ [(Sum.inl n, V.ref u)] := by
    have e1 : ms.map (fun t => ((Sum.inl t : Key), V.ref (ext ea n u t))) = ms.map fun t => ((Sum.inl t : Key), V.ref (ea t)) := List.map_congr_left fun t ht => by rw [ext_ne _ _ (ne ht)]
    rw [List.map_append, e1]
    show _ ++ [((Sum.inl n : Key), V.ref (ext ea n u n))] = _
    rw [ext_self]
  have oth : ∀ c v, c ≠ st → H c = some v → upd H st (.dK ((ms ++ [n]).map fun t => (Sum.inl t, V.ref (ext ea n u t)))) c = some v := fun c v h1 h2 => (upd_ne h1).trans h2
  refine ⟨upd H st (.dK ((ms ++ [n]).map fun t => (Sum.inl t, V.ref (ext ea n u t)))), ?_, ⟨upd_same, ?_, fun t ht => ?_⟩, oth⟩
  · rw [ek, ← putK_new (V.ref u) e]
    exact DPut.k (k := Sum.inl n) m.hs (Nat.lt_of_le_of_lt (show (ms.map fun t => ((Sum.inl t : Key), V.ref (ea t))).length ≤ 1000 by rw [List.length_map]; exact hl) (by decide))
  · rw [List.nodup_append]
    refine ⟨m.nd, by simp, fun a ha b hb => ?_⟩
    rw [List.mem_singleton.mp hb]
    exact ne ha
  · rcases List.mem_append.mp ht with g | g
    · rw [ext_ne _ _ (ne g), ext_ne _ _ (ne g)]
      exact oth _ _ (ne_of (m.he t g) m.hs (by intro z; cases z)) (m.he t g)
    · rw [List.mem_singleton.mp g, ext_self, ext_self]
      exact oth _ _ (ne_of hu m.hs (by intro z; cases z)) hu
end
end K17
end
section
set_option Elab.async false
set_option linter.all false
set_option maxRecDepth 100000
set_option maxHeartbeats 4000000
namespace K17
open PySem L2 LX HT
/-- t is met, and not by a way that a is less than -/
def In (ms : List Int) (wy : Int → Wy) (a : Wy) (t : Int) : Prop := t ∈ ms ∧ ¬ Lt a (wy t)
theorem In.put {ms : List Int} {wy : Int → Wy} {a : Wy} {t n : Int} (h : In ms wy a t) (hn : n ∉ ms) (c : Wy) : In (ms ++ [n]) (ext wy n c) a t := ⟨List.mem_append_left _ h.1, by rw [ext_ne _ _ (fun z => hn (by rw [← z]; exact h.1))]; exact h.2⟩
theorem In.new (ms : List Int) (wy : Int → Wy) (n : Int) (c : Wy) : In (ms ++ [n]) (ext wy n c) c n := ⟨List.mem_append_right _ (List.mem_singleton.mpr rfl), by rw [ext_self]; exact Lt.irr _⟩
theorem In.of_lt {ms : List Int} {wy : Int → Wy} {a : Wy} {t : Int} (h : t ∈ ms) (l : Lt (wy t) a) : In ms wy a t := ⟨h, fun z => Lt.irr _ (Lt.trans z l)⟩
theorem all_ext {ms : List Int} {wy : Int → Wy} {n : Int} {c : Wy} {p : Wy → Prop} (hn : n ∉ ms) (h : ∀ t ∈ ms, p (wy t)) (hc : p c) : ∀ t ∈ ms ++ [n], p (ext wy n c t) := fun t ht => by
  rcases List.mem_append.mp ht with g | g
  · rw [ext_ne _ _ (fun z => hn (by rw [← z]; exact g))]
    exact h t g
  · rw [List.mem_singleton.mp g, ext_self]
    exact hc
structure Wq (rs : List (Option Int)) (ks : Fs) (ms : List Int) (wy : Int → Wy) (fr : Int → Option Int × Int) (pre : List Int) : Prop where
  bf : Bf rs ks ms wy fr
  rts : ∀ (i : Nat) t, rs[i]? = some (some t) → In ms wy ((i : Int), []) t
  ins : ∀ t ∈ ms, t ∈ keys ks
  psb : ∀ t ∈ pre, t ∈ ms
  don : ∀ t ∈ pre, ∀ (q : Nat) n, (fsOf ks t)[q]? = some (some n) → In ms wy (on (wy t) q) n
theorem Wq.put {rs : List (Option Int)} {ks : Fs} {ms : List Int} {wy : Int → Wy} {fr : Int → Option Int × Int} {pre : List Int} (b : Wq rs ks ms wy fr pre) {n : Int} {c : Wy} {f : Option Int × Int} (hn : n ∉ ms) (lt : ∀ t ∈ ms, Lt (wy t) c) (hl : Led rs ks c n) (hd : c.2.length ≤ ms.length) (hf : Fr ms wy c f) (hk : n ∈ keys ks) :
    Wq rs ks (ms ++ [n]) (ext wy n c) (ext fr n f) pre := by
  refine ⟨b.bf.put hn lt hl hd hf, fun i t h => (b.rts i t h).put hn c, fun t ht => ?_, fun t ht => List.mem_append_left _ (b.psb t ht), fun t ht q m h => ?_⟩
  · rcases List.mem_append.mp ht with g | g
    · exact b.ins t g
    · rw [List.mem_singleton.mp g]; exact hk
  · rw [ext_ne _ _ (fun z => hn (by rw [← z]; exact b.psb t ht))]
    exact (b.don t ht q m h).put hn c
theorem Wq.cls {rs : List (Option Int)} {ks : Fs} {ms : List Int} {wy : Int → Wy} {fr : Int → Option Int × Int} (b : Wq rs ks ms wy fr ms) (nd : (keys ks).Nodup) : Cls rs ks ms wy :=
  ⟨b.bf.snd, b.rts, fun p hp hm q t h => b.don p.1 hm q t (by rw [fsOf_mem nd hp]; exact h)⟩
section
variable {P : Program} {w : World} {K : PySem.W.Frag} {mg : Str → Option Value} {base : Heap}
/-- last_steps -/
def spSteps (K : PySem.W.Frag) : Sp := fun vs H Q _ => ∃ (v r d : Addr) (o : Obj) (ad : Int → Addr) (rs : List (Option Int)) (ks : Fs), vs = [.ref v] ∧ SqT K H v [.ref r, .ref d] ∧ Vw H r d o ad rs ks ∧ Rt rs ks ∧
  ∀ (st : Addr) (ms : List Int) (ea : Int → Addr) (wy : Int → Wy) (fr : Int → Option Int × Int) (H' : Hp), Same H H' → H st = none → Sd H' st ms ea fr → ms.length ≤ ks.length → Bf rs ks ms wy fr → Cls rs ks ms wy → (∀ t ∈ ms, t ∈ keys ks) → Q (.ref st) H'
abbrev NS : List Str := ["view", "steps", "place", "thing", "met", "done"]
theorem scT : FnScope NS ["view"] (defScope sSteps) := ⟨rfl, rfl, rfl, by decide +kernel, rfl, by decide +kernel, by decide +kernel⟩
/-- what the while keeps -/
def WS (H : Hp) (v st mt : Addr) (rs : List (Option Int)) (ks : Fs) (m : Nat) (σ : St) (H4 : Hp) : Prop := ∃ (dn : Nat) (v2 v3 : Option V) (ms : List Int) (ea : Int → Addr) (wy : Int → Wy) (fr : Int → Option Int × Int), m = 20 - dn ∧ σ = [some (.ref v), some (.ref st), v2, v3, some (.ref mt), some (.int (dn : Int))] ∧ Same H H4 ∧ Sd H4 st ms ea fr ∧ H4 mt = some (.lst (ms.map V.int)) ∧
  Wq rs ks ms wy fr (ms.take dn) ∧ (∀ t ∈ ms, ∀ s ∈ ms.drop dn, ∀ q : Int, Lt (wy t) (on (wy s) q)) ∧ dn ≤ ms.length
theorem ok_steps {f : Addr} {fd : FuncData} (F : Fun K "last_steps" "last_steps" sSteps f fd) (zl : mg "list" = none) (ze : mg "enumerate" = none) (zn : mg "len" = none) : FnOk P w K mg base (CXE P w) 1 f fd ["view"] (spSteps K) := by
  refine F.okE scT (fun vs H Q E h => ?_) (fun cdv A outer s H vs Q E hr h => ?_)
  · obtain ⟨v, r, d, o, ad, rs, ks, rfl, _⟩ := h
    rfl
  · obtain ⟨v, r, d, o, ad, rs, ks, rfl, ht, hv, rt, k⟩ := h
    have hu := hu_of hr
    refine ⟨_, PSs.nox (pss_cons (ps_set (i := 1) scT.nd rfl (Or.inl rfl) pe_dnewK)
      (pss_cons (ps_for PassesOwn.never rfl (pi_enum rfl ze (pa_cons (pe_ix ix_tup (pv 0) pe_int (fun _ _ => rfl)) pa_nil)) (pg_tup rfl (pgs_cons (pg_name (i := 2) scT.nd rfl (Or.inl rfl)) (pgs_cons (pg_name (i := 3) scT.nd rfl (Or.inl rfl)) pgs_nil)))
        (pss_one (ps_if (PW.pt (pw_and (pt_cmpR op_notN (pv 3) pe_non (nomark _)) (pw_and1 (pt_cmp (pc_dnotin hu (pv 3) (pv 1)) (by with_unfolding_all rfl))))) (pss_one (ps_dput hu (pv 1) (pv 3) (pe_tup (pa_cons pe_non (pa_cons (pv 2) pa_nil))) rfl)) pss_nil)))
      (pss_cons (ps_set (i := 4) scT.nd rfl (Or.inl rfl) (pe_callTy (call_listR rfl) rfl zl PyProof.Rows.Boot.«list» (pa_cons (pv 1) pa_nil)))
      (pss_cons (ps_set (i := 5) scT.nd rfl (Or.inl rfl) pe_int)
      (pss_cons (ps_while PassesOwn.never (pt_cmpR op_lt (pv 5) (pe_callB call_len_seq rfl zn PyProof.Rows.Boot.«len» (pa_cons (pv 4) pa_nil)) (nomark _))
        (pss_cons (ps_for PassesOwn.never rfl (pi_enum rfl ze (pa_cons (pe_dget hu (pe_ix ix_tup (pv 0) pe_int (fun _ _ => rfl)) (pe_ix ix_list (pv 4) (pv 5) (fun _ _ => rfl)) (fun _ _ => rfl)) pa_nil)) (pg_tup rfl (pgs_cons (pg_name (i := 2) scT.nd rfl (Or.inl rfl)) (pgs_cons (pg_name (i := 3) scT.nd rfl (Or.inl rfl)) pgs_nil)))
          (pss_one (ps_if (PW.pt (pw_and (pt_cmpR op_notN (pv 3) pe_non (nomark _)) (pw_and1 (pt_cmp (pc_dnotin hu (pv 3) (pv 1)) (by with_unfolding_all rfl)))))
            (pss_cons (ps_dput hu (pv 1) (pv 3) (pe_tup (pa_cons (pe_ix ix_list (pv 4) (pv 5) (fun _ _ => rfl)) (pa_cons (pv 2) pa_nil))) rfl)
            (pss_one (ps_expr (pe_bm PySem.F.plainAttrs_list PySem.F.slot_list_append PySem.F.type_list_append mt_append (pv 4) (pa_cons (pv 3) pa_nil))))) pss_nil)))
        (pss_one (ps_aug (i := 5) scT.nd rfl (Or.inl rfl) pe_int ip_add))))
      (pss_one (ps_ret (pv 1)))))))), ?_⟩
    refine fun st hst => ?_
    have s0 : Same H (upd H st (.dK [])) := Same.upd hst
    have hr0 := s0 _ _ hv.hr
    have kl := rt.kl
    have mem_len : ∀ {ms : List Int}, ms.Nodup → (∀ m ∈ ms, m ∈ keys ks) → ms.length ≤ ks.length := fun nd h => by
      have := nodup_len nd h
      have kk : (keys ks).length = ks.length := List.length_map _
      omega
    refine ⟨_, rfl, v, _, 0, .ref r, rfl, rfl, sqT_same ht s0, rfl, r, rfl, ⟨_, SqL.of hr0⟩, for_enum (K := K) (a := r) (xs := rs.map oV) (fun i σ H2 => ∃ (v2 v3 : Option V) (ms : List Int) (ea : Int → Addr) (wy : Int → Wy) (fr : Int → Option Int × Int), σ = [some (.ref v), some (.ref st), v2, v3, none, none] ∧ Same H H2 ∧ Sd H2 st ms ea fr ∧ Bf rs ks ms wy fr ∧ (∀ m ∈ ms, m ∈ keys ks) ∧ (∀ t ∈ ms, Lt (wy t) ((i : Int), [])) ∧ ∀ (j : Nat) t, j < i → rs[j]? = some (some t) → In ms wy ((j : Int), []) t)
      ⟨none, none, [], (fun _ => 0), (fun _ => (0, [])), (fun _ => (none, 0)), rfl, s0, ⟨upd_same, List.nodup_nil, (fun t h => nomatch h)⟩, ⟨.nil, (fun t h => nomatch h), (fun i h => absurd h (Nat.not_lt_zero _)), (fun t h => nomatch h)⟩, (fun t h => nomatch h), (fun t h => nomatch h), (fun j t h => absurd h (Nat.not_lt_zero _))⟩ (fun i σ H2 _ ⟨_, _, _, _, _, _, _, s2, _⟩ => SqL.of (s2 _ _ hv.hr)) ?_ ?_⟩
    · rintro i x σ H2 t hx ⟨v2, v3, ms, ea, wy, fr, rfl, s2, M, B, hsub, hlt, hall⟩ htt
      have hi : i < rs.length := by have := (List.getElem?_eq_some_iff.mp hx).1; rwa [List.length_map] at this
      have ri : rs[i]? = some rs[i] := List.getElem?_eq_getElem hi
      have hxe : x = oV rs[i] := by
        rw [List.getElem?_map, ri] at hx
        exact (Option.some.inj hx).symm
      subst hxe
      have s3 : Same H2 (upd H2 t (.tup [.int (i : Int), oV rs[i]])) := Same.upd htt
      have M3 := M.same s3
      have ml := mem_len M.nd hsub
      have up : ∀ t ∈ ms, Lt (wy t) (((i + 1 : Nat) : Int), []) := fun t h => Lt.trans (hlt t h) (Lt.root (by omega))
      refine ⟨t, _, rfl, SqT.of upd_same, rfl, _, _, rfl, _, _, rfl, rfl, ?_⟩
      cases hc : rs[i] with
      | none =>
        rw [hc] at s3 M3 ri
        refine ⟨_, rfl, rfl, _, rfl, iteF (iteF ⟨_, _, ms, ea, wy, fr, rfl, s2.trans s3, M3, B, hsub, up, fun j t hj e => ?_⟩)⟩
        rcases Nat.lt_or_ge j i with z | z
        · exact hall j t z e
        · rw [show j = i by omega, ri] at e
          cases e
      | some n =>
        rw [hc] at s3 M3 ri
        have hk : n ∈ keys ks := rt.ri n (List.mem_of_getElem? ri)
        refine ⟨_, rfl, rfl, _, rfl, iteT ⟨_, rfl, _, rfl, st, _, rfl, DGet.k (k := Sum.inl n) M3.hs, _, rfl, ?_⟩⟩
        rw [Sd.val]
        by_cases hin : n ∈ ms
        · rw [if_pos hin]
          refine iteF ⟨_, _, ms, ea, wy, fr, rfl, s2.trans s3, M3, B, hsub, up, fun j t hj e => ?_⟩
          rcases Nat.lt_or_ge j i with z | z
          · exact hall j t z e
          · have ej : j = i := by omega
            subst ej
            rw [ri] at e
            cases e
            exact In.of_lt hin (hlt n hin)
        · rw [if_neg hin]
          refine iteT ⟨_, rfl, by show 2 ≤ sizeLine; decide, fun u hu' => ?_⟩
          have s4 := Same.upd (o := .tup [V.non, V.int (i : Int)]) hu'
          obtain ⟨H5, pd, M5, k5⟩ := (M3.same s4).put hin (f := (none, (i : Int))) upd_same (by omega)
          refine ⟨_, rfl, _, rfl, st, _, rfl, pd, _, _, ms ++ [n], _, ext wy n ((i : Int), []), _, rfl, fun c u' g => k5 _ _ (ne_of_none g hst) (s4 _ _ (s3 _ _ (s2 c u' g))), M5, B.put hin hlt (.root ri) (Nat.zero_le _) rfl, fun m h => ?_, all_ext (p := fun c => Lt c (((i + 1 : Nat) : Int), [])) hin up (Lt.root (by omega)), fun j t hj e => ?_⟩
          · rcases List.mem_append.mp h with g | g
            · exact hsub m g
            · rw [List.mem_singleton.mp g]; exact hk
          · rcases Nat.lt_or_ge j i with z | z
            · exact (hall j t z e).put hin _
            · have ej : j = i := by omega
              subst ej
              rw [ri] at e
              cases e
              exact In.new _ _ _ _
    · rintro σ H2 ⟨v2, v3, ms, ea, wy, fr, rfl, s2, M, B, hsub, hlt, hall⟩
      refine ⟨_, rfl, st, _, ms, rfl, .inl M.hs, by rw [List.map_map]; rfl, fun mt hmt => ?_⟩
      have s3 := Same.upd (o := .lst (ms.map V.int)) hmt
      have hmt0 : H mt = none := s2.free hmt
      refine ⟨WS H v st mt rs ks, ⟨20, 0, v2, v3, ms, ea, wy, fr, rfl, rfl, s2.trans s3, M.same s3, upd_same, ⟨B, fun i t h => hall i t (by rw [List.length_map]; exact (List.getElem?_eq_some_iff.mp h).1) h, hsub, (fun t h => nomatch h), (fun t h => nomatch h)⟩, fun t h s _ q => Lt.of_len (by have := (hlt t h).len; rw [on_len]; exact Nat.lt_succ_of_le (Nat.le_trans this (Nat.zero_le _))), Nat.zero_le _⟩, ?_⟩
      clear M B hsub hlt hall s3 s2
      rintro m σ H4 ⟨dn, v2, v3, ms, ea, wy, fr, rfl, rfl, s4, M, zm, W, hlt, hdl⟩
      have ml := mem_len M.nd W.ins
      refine ⟨_, rfl, _, rfl, mt, _, rfl, .inl (SqL.of zm), _, _, rfl, rfl, _, rfl, ite2 (fun h => ?_) (fun h => ?_)⟩
      · have hd : dn < ms.length := by
          have h1 : (dn : Int) < ((ms.map V.int).length : Int) := by simpa using h
          rw [List.length_map] at h1
          omega
        refine ⟨fun σ' H' => ∃ m', m' < 20 - dn ∧ WS H v st mt rs ks m' σ' H', fun _ _ h => h, ?_⟩
        have tk : ms.take (dn + 1) = ms.take dn ++ [ms[dn]] := List.take_succ_eq_append_getElem hd
        obtain ⟨t, et⟩ : ∃ t, ms[dn] = t := ⟨_, rfl⟩
        obtain ⟨pre, epre⟩ : ∃ pre, ms.take dn = pre := ⟨_, rfl⟩
        rw [et, epre] at tk
        rw [epre] at W
        have lpre : pre.length = dn := by rw [← epre, List.length_take]; omega
        have htm : t ∈ ms := by rw [← et]; exact List.getElem_mem hd
        have hin : t ∈ keys ks := W.ins t htm
        have at_ : ∀ {ns : List Int}, ns.take (dn + 1) = pre ++ [t] → ns[dn]? = some t := fun {ns} e => by
          have : (ns.take (dn + 1))[dn]? = some t := by rw [e, List.getElem?_append_right (by omega), lpre, Nat.sub_self]; rfl
          rwa [List.getElem?_take_of_lt (Nat.lt_succ_self _)] at this
        have hat : ∀ {ns : List Int}, ns.take (dn + 1) = pre ++ [t] → atI (ns.map V.int) (dn : Int) = some (.int t) := fun e => atI_nat (by rw [List.getElem?_map, at_ e]; rfl)
        have v4 := hv.same s4
        obtain ⟨f1, f2, f3⟩ := fs_at v4 rt hin
        have hlt0 : ∀ t' ∈ ms, Lt (wy t') (on (wy t) ((0 : Nat) : Int)) := fun t' h => hlt t' h t (by rw [List.drop_eq_getElem_cons hd, et]; exact List.mem_cons_self) _
        obtain ⟨p, hp, ep⟩ := List.mem_map.mp hin
        have efs : fsOf ks t = p.2 := by rw [← ep]; exact fsOf_mem rt.nd hp
        refine ⟨_, rfl, v, _, 1, .ref d, rfl, rfl, sqT_same ht s4, rfl, _, rfl, _, rfl, mt, _, _, .int t, rfl, rfl, SqL.of zm, hat tk, d, _, rfl, dget_in v4.hd hin, ad t, rfl, ⟨_, SqL.of f1⟩,
          for_enum (K := K) (a := ad t) (xs := (fsOf ks t).map oV) (fun j σ H6 => ∃ (v2 v3 : Option V) (ms : List Int) (ea : Int → Addr) (wy : Int → Wy) (fr : Int → Option Int × Int), σ = [some (.ref v), some (.ref st), v2, v3, some (.ref mt), some (.int (dn : Int))] ∧ Same H H6 ∧ Sd H6 st ms ea fr ∧ H6 mt = some (.lst (ms.map V.int)) ∧ Wq rs ks ms wy fr pre ∧ ms.take (dn + 1) = pre ++ [t] ∧ dn < ms.length ∧ (∀ t' ∈ ms, Lt (wy t') (on (wy t) (j : Int))) ∧ ∀ (q : Nat) n, q < j → (fsOf ks t)[q]? = some (some n) → In ms wy (on (wy t) q) n)
          ⟨v2, v3, ms, ea, wy, fr, rfl, s4, M, zm, W, tk, hd, hlt0, (fun q n h => absurd h (Nat.not_lt_zero _))⟩ (fun j σ H6 _ ⟨_, _, _, _, _, _, _, s6, _⟩ => SqL.of (fs_at (hv.same s6) rt hin).1) ?_ ?_⟩
        · clear M zm W hlt hdl ml hd tk et epre htm hlt0 s4 v4 f1
          rintro j x σ H6 u hx ⟨v2, v3, ms, ea, wy, fr, rfl, s6, M6, zm6, W, tk, hd, hlt, hall⟩ hut
          have hlj : j < (fsOf ks t).length := by have := (List.getElem?_eq_some_iff.mp hx).1; rwa [List.length_map] at this
          have fj : (fsOf ks t)[j]? = some (fsOf ks t)[j] := List.getElem?_eq_getElem hlj
          have hxe : x = oV (fsOf ks t)[j] := by
            rw [List.getElem?_map, fj] at hx
            exact (Option.some.inj hx).symm
          subst hxe
          have htm : t ∈ ms := List.mem_of_getElem? (at_ tk)
          have ml6 := mem_len M6.nd W.ins
          have up : ∀ t' ∈ ms, Lt (wy t') (on (wy t) ((j + 1 : Nat) : Int)) := fun t' h => Lt.trans (hlt t' h) (Lt.on_same _ (by omega))
          refine ⟨u, _, rfl, SqT.of upd_same, rfl, _, _, rfl, _, _, rfl, rfl, ?_⟩
          cases hc : (fsOf ks t)[j] with
          | none =>
            rw [hc] at fj
            have s7 := Same.upd (o := .tup [.int (j : Int), oV none]) hut
            refine ⟨_, rfl, rfl, _, rfl, iteF (iteF ⟨_, _, ms, ea, wy, fr, rfl, s6.trans s7, M6.same s7, s7 _ _ zm6, W, tk, hd, up, fun q n hq e => ?_⟩)⟩
            rcases Nat.lt_or_ge q j with z | z
            · exact hall q n z e
            · rw [show q = j by omega, fj] at e
              cases e
          | some n =>
            rw [hc] at fj
            have hk : n ∈ keys ks := f3 n (List.mem_of_getElem? fj)
            have s7 := Same.upd (o := .tup [.int (j : Int), oV (some n)]) hut
            have M7 := M6.same s7
            refine ⟨_, rfl, rfl, _, rfl, iteT ⟨_, rfl, _, rfl, st, _, rfl, DGet.k (k := Sum.inl n) M7.hs, _, rfl, ?_⟩⟩
            rw [Sd.val]
            by_cases hn6 : n ∈ ms
            · rw [if_pos hn6]
              refine iteF ⟨_, _, ms, ea, wy, fr, rfl, s6.trans s7, M7, s7 _ _ zm6, W, tk, hd, up, fun q n' hq e => ?_⟩
              rcases Nat.lt_or_ge q j with z | z
              · exact hall q n' z e
              · have eq : q = j := by omega
                subst eq
                rw [fj] at e
                cases e
                exact In.of_lt hn6 (hlt n hn6)
            · rw [if_neg hn6]
              refine iteT ⟨_, rfl, _, rfl, mt, _, _, .int t, rfl, rfl, SqL.of (s7 _ _ zm6), hat tk, _, rfl, by show 2 ≤ sizeLine; decide, fun u2 hu2 => ?_⟩
              have s8 := Same.upd (o := .tup [V.int t, V.int (j : Int)]) hu2
              obtain ⟨H9, pd, M9, k9⟩ := (M7.same s8).put hn6 (f := (some t, (j : Int))) upd_same (by omega)
              have zm8 := s8 _ _ (s7 _ _ zm6)
              have nms : mt ≠ st := ne_of zm8 (M7.same s8).hs (by intro z; cases z)
              have zm9 := k9 _ _ nms zm8
              have ntn : t ≠ n := fun z => hn6 (by rw [← z]; exact htm)
              have dep : (wy t).2.length ≤ dn := by
                have := W.bf.dep dn hd
                rwa [(List.getElem?_eq_some_iff.mp (at_ tk)).2] at this
              refine ⟨_, rfl, _, rfl, st, _, rfl, pd, ?_⟩
              refine ⟨_, rfl, .inl ⟨rfl, _, SqL.of zm9⟩, _, rfl, mt, _, _, rfl, rfl, zm9, Nat.lt_of_le_of_lt (show (ms.map V.int).length ≤ 12 by rw [List.length_map]; omega) (by decide), ?_⟩
              refine ⟨_, _, ms ++ [n], _, ext wy n (on (wy t) (j : Int)), _, rfl, fun c u' g => ?_, M9.but zm9, by rw [List.map_append]; exact upd_same, W.put hn6 hlt (.step (p := p) (by rw [ep]; exact W.bf.snd t htm) hp (by rw [← efs]; exact fj)) (by rw [on_len]; omega) ⟨htm, rfl⟩ hk, by rw [List.take_append_of_le_length (by omega)]; exact tk, by rw [List.length_append]; omega, ?_, fun q n' hq e => ?_⟩
              · rw [upd_ne (ne_of_none g hmt0)]
                exact k9 _ _ (ne_of_none g hst) (s8 _ _ (s7 _ _ (s6 c u' g)))
              · rw [ext_ne _ _ ntn]
                exact all_ext (p := fun c => Lt c (on (wy t) ((j + 1 : Nat) : Int))) hn6 up (Lt.on_same _ (by omega))
              · rw [ext_ne _ _ ntn]
                rcases Nat.lt_or_ge q j with z | z
                · exact (hall q n' z e).put hn6 _
                · have eq : q = j := by omega
                  subst eq
                  rw [fj] at e
                  cases e
                  exact In.new _ _ _ _
        · clear M zm W hlt hdl ml hd tk et epre htm hlt0 s4 v4 f1
          rintro σ H6 ⟨v2, v3, ms, ea, wy, fr, rfl, s6, M6, zm6, W, tk, hd, hlt, hall⟩
          rw [List.length_map] at hall hlt
          have fin : ∃ m', m' < 20 - dn ∧ WS H v st mt rs ks m' [some (.ref v), some (.ref st), v2, v3, some (.ref mt), some (.int ((dn : Int) + 1))] H6 := by
            have ml6 := mem_len M6.nd W.ins
            have htm : t ∈ ms := List.mem_of_getElem? (at_ tk)
            refine ⟨20 - (dn + 1), by omega, dn + 1, v2, v3, ms, ea, wy, fr, rfl, rfl, s6, M6, zm6, ⟨W.bf, W.rts, W.ins, fun t' h => List.mem_of_mem_take h, fun t' h q n e => ?_⟩, fun t' h' s' hs' q => ?_, hd⟩
            · rw [tk] at h
              rcases List.mem_append.mp h with g | g
              · exact W.don t' g q n e
              · rw [List.mem_singleton.mp g] at e ⊢
                exact hall q n (List.getElem?_eq_some_iff.mp e).1 e
            · have hasc : Lt (wy t) (wy s') := by
                have e1 : ms = (pre ++ [t]) ++ ms.drop (dn + 1) := by rw [← tk, List.take_append_drop]
                have := W.bf.asc
                rw [e1] at this
                exact (List.pairwise_append.mp this).2.2 t (List.mem_append_right _ (List.mem_singleton.mpr rfl)) s' hs'
              exact Lt.trans (hlt t' h') (hasc.on _ _)
          exact ⟨_, rfl, _, 1, rfl, rfl, fin⟩
      · have hge : ms.length ≤ dn := by
          have h1 : ¬ (dn : Int) < ((ms.map V.int).length : Int) := by simpa using h
          rw [List.length_map] at h1
          omega
        rw [List.take_of_length_le hge] at W
        exact ⟨_, rfl, k st ms ea wy fr H4 s4 hst M ml W.bf (W.cls rt.nd) W.ins⟩
end
end K17
end
section
set_option Elab.async false
set_option linter.all false
set_option maxRecDepth 100000
set_option maxHeartbeats 4000000
set_option exponentiation.threshold 4000
namespace K17
open PySem L2 LX
section
variable {P : Program} {w : World} {K : PySem.W.Frag} {mg : Str → Option Value} {base : Heap}
/-- tells_within -/
def wIn (kvs : List (Key × V)) : Option Int → Bool
  | none => true
  | some n => (valV kvs (Sum.inl n)).isSome
def spWithin : Sp := fun vs H Q _ => ∃ (l i : Addr) (fs : List (Option Int)) (kvs : List (Key × V)), vs = [.ref l, .ref i] ∧ H l = some (.lst (fs.map oV)) ∧ fs.length ≤ 1000 ∧ H i = some (.dK kvs) ∧ ∀ H', Same H H' → Q (.bl (fs.all (wIn kvs))) H'
theorem scW : FnScope ["told", "inside"] ["told", "inside"] (defScope sWithin) := ⟨rfl, rfl, rfl, by decide +kernel, rfl, by decide +kernel, by decide +kernel⟩
def arg0? : Option Expr → Option Expr
  | some (.Call _ (a :: _) _ _) => some a
  | _ => none
abbrev scpW : Scope := scopeOf (arg0? (ret? ((defBody sWithin).head!)))
theorem cW : CompP (defScope sWithin) scpW "t" ["inside"] ["told", "inside"] [1] := by decide +kernel
theorem ok_within {f : Addr} {fd : FuncData} (F : Fun K "tells_within" "tells_within" sWithin f fd) (za : mg "all" = none) : FnOk P w K mg base (CXE P w) 1 f fd ["told", "inside"] spWithin := by
  refine F.okE scW (fun vs H Q E h => ?_) (fun cdv A outer s H vs Q E hr h => ?_)
  · obtain ⟨l, i, fs, kvs, rfl, _⟩ := h
    rfl
  · obtain ⟨l, i, fs, kvs, rfl, hl, hz, hi, k⟩ := h
    have hu := hu_of hr
    have co : CompOk (cxE P w K mg base ["told", "inside"] "tells_within" (defScope sWithin) f cdv A outer s H E).nox scpW [("inside", s.heap.objs.size + 1)] "t" [1] ["t", "inside"] :=
      comp_ok rfl rfl rfl cW rfl rfl (by intro q hq; rw [List.mem_singleton.mp hq]; rfl)
    refine ⟨_, PSs.nox (pss_one (ps_ret (pe_callB (call_all rfl) rfl za PyProof.Rows.Boot.«all» (pa_cons (pe_comp co rfl (pi_list (pv 0))
      (fun C fp s₀ H₀ => pe_or (pe_cmpR op_isN (pv 0) pe_non (nomark _)) (pe_one (pe_cmp (pc_din hu (pv 0) (pv 1)))))) pa_nil)))), ?_⟩
    refine ⟨_, rfl, l, rfl, ⟨_, SqL.of hl⟩, fun D hD => ?_⟩
    refine comp_list (K := K) (a := l) (xs := fs.map oV) (fun j zs H2 => zs = ((fs.take j).map (wIn kvs)).map V.bl ∧ Same H H2 ∧ H2 D = some (.lst zs)) ⟨rfl, Same.upd hD, upd_same⟩
      (fun j zs H2 hj ⟨e, _, z⟩ => ⟨z, by rw [List.length_map] at hj; rw [e, List.length_map, List.length_map, List.length_take]; omega⟩) (fun j zs H2 _ ⟨_, s2, _⟩ => SqL.of (s2 _ _ hl)) (Nat.le_trans (by rw [List.length_map]; exact hz) (by decide))
      (fun j x zs H2 hx ⟨e, s2, z⟩ => ?_) (fun zs H2 ⟨e, s2, z⟩ => ?_)
    · have hlt : j < fs.length := by have := (List.getElem?_eq_some_iff.mp hx).1; rwa [List.length_map] at this
      have tk : fs.take (j + 1) = fs.take j ++ [fs[j]] := List.take_succ_eq_append_getElem hlt
      have hxe : x = oV fs[j] := by
        rw [List.getElem?_map, List.getElem?_eq_getElem hlt] at hx
        exact (Option.some.inj hx).symm
      subst hxe
      have fin : ∀ b : Bool, wIn kvs fs[j] = b → H2 D = some (.lst zs) ∧ (zs ++ [V.bl b] = ((fs.take (j + 1)).map (wIn kvs)).map V.bl ∧ Same H (upd H2 D (.lst (zs ++ [V.bl b]))) ∧ upd H2 D (.lst (zs ++ [V.bl b])) D = some (.lst (zs ++ [V.bl b]))) := fun b hb =>
        ⟨z, by rw [tk, e, List.map_append, List.map_append, ← hb]; rfl, fun c u g => by rw [upd_ne (ne_of_none g hD)]; exact s2 c u g, upd_same⟩
      cases hc : fs[j] with
      | none => exact ⟨_, rfl, rfl, _, rfl, iteT (fin true (by rw [hc]; rfl))⟩
      | some n => exact ⟨_, rfl, rfl, _, rfl, iteF ⟨_, rfl, _, rfl, i, _, rfl, DGet.k (k := Sum.inl n) (s2 _ _ hi), fin _ (by rw [hc]; rfl)⟩⟩
    · rw [List.length_map, List.take_of_length_le (Nat.le_refl _)] at e
      refine ⟨D, fs.map (wIn kvs), rfl, by rw [← e]; exact SqL.of z, ?_⟩
      rw [List.all_map]
      exact k H2 s2
/-- what a closed list is -/
def Cl (rs : List (Option Int)) (ks : Fs) (ns : List Int) : Prop := ns.Pairwise (· < ·) ∧ (∀ t ∈ ns, t ∈ keys ks) ∧ (∀ n, some n ∈ rs → n ∈ ns) ∧ ∀ p ∈ ks, p.1 ∈ ns → ∀ n, some n ∈ p.2 → n ∈ ns
def insd (l : List Int) : List (Key × V) := l.map fun t => (Sum.inl t, V.bl true)
theorem val_insd (t : Int) : ∀ l : List Int, valV (insd l) (Sum.inl t) = if t ∈ l then some (V.bl true) else none
  | [] => rfl
  | k :: r => by
    have ih := val_insd t r
    by_cases e : k = t
    · subst e
      rw [show insd (k :: r) = (Sum.inl k, V.bl true) :: insd r from rfl, valV_pos rfl, if_pos (by simp)]
    · rw [show insd (k :: r) = (Sum.inl k, V.bl true) :: insd r from rfl, valV_neg (fun z => e (by injection z)), ih]
      have : (t ∈ k :: r) ↔ t ∈ r := by
        rw [List.mem_cons]
        exact ⟨fun z => z.resolve_left fun y => e y.symm, .inr⟩
      simp only [this]
theorem win_iff (ns : List Int) (x : Option Int) : wIn (insd ns) x = true ↔ ∀ n, x = some n → n ∈ ns := by
  cases x with
  | none => simp [wIn]
  | some n =>
    show (valV (insd ns) (Sum.inl n)).isSome = true ↔ _
    rw [val_insd]
    by_cases h : n ∈ ns
    · rw [if_pos h]
      exact ⟨fun _ m e => by injection e with e; rw [← e]; exact h, fun _ => rfl⟩
    · rw [if_neg h]
      exact ⟨fun z => absurd z (by decide), fun z => absurd (z n rfl) h⟩
theorem all_win (ns : List Int) (fs : List (Option Int)) : fs.all (wIn (insd ns)) = true ↔ ∀ n, some n ∈ fs → n ∈ ns := by
  rw [List.all_eq_true]
  exact ⟨fun h n hn => (win_iff ns _).mp (h _ hn) n rfl, fun h x hx => (win_iff ns x).mpr fun n e => h n (by rw [← e]; exact hx)⟩
theorem rise_snoc {l : List Int} {t : Int} (h : l.Pairwise (· < ·)) (hm : ∀ m, l.getLast? = some m → m < t) : (l ++ [t]).Pairwise (· < ·) := by
  rw [List.pairwise_append]
  refine ⟨h, List.pairwise_singleton _ _, fun a ha b hb => ?_⟩
  rw [List.mem_singleton.mp hb]
  rcases List.eq_nil_or_concat l with e | ⟨l', m, e⟩
  · rw [e] at ha; cases ha
  · rw [List.concat_eq_append] at e
    subst e
    have hm' := hm m (by simp)
    rcases List.mem_append.mp ha with g | g
    · have := (List.pairwise_append.mp h).2.2 a g m (List.mem_singleton.mpr rfl)
      omega
    · rw [List.mem_singleton.mp g]; exact hm'
theorem rise_last {l r : List Int} {t m : Int} (h : (l ++ t :: r).Pairwise (· < ·)) (e : l.getLast? = some m) : m < t := by
  obtain ⟨ys, rfl⟩ := List.getLast?_eq_some_iff.mp e
  exact (List.pairwise_append.mp h).2.2 m (by simp) t (List.mem_cons_self ..)
theorem split_at {ns : List Int} {i : Nat} (h : i < ns.length) : ns = ns.take i ++ ns[i] :: ns.drop (i + 1) := by
  rw [← List.drop_eq_getElem_cons h, List.take_append_drop]
/-- closed_in -/
def spIn (K : PySem.W.Frag) : Sp := fun vs H Q _ => ∃ (v r d th : Addr) (o : Obj) (ad : Int → Addr) (rs : List (Option Int)) (ks : Fs) (ns : List Int), vs = [.ref v, .ref th] ∧ SqT K H v [.ref r, .ref d] ∧ Vw H r d o ad rs ks ∧ Rt rs ks ∧ H th = some (.lst (ns.map V.int)) ∧ ns.length ≤ 60 ∧
  ∀ (b : Bool) (H' : Hp), Same H H' → (b = true ↔ Cl rs ks ns) → Q (.bl b) H'
abbrev NI : List Str := ["view", "things", "fields", "inside", "last", "t"]
theorem scI : FnScope NI ["view", "things"] (defScope sIn) := ⟨rfl, rfl, rfl, by decide +kernel, rfl, by decide +kernel, by decide +kernel⟩
def snd? : Option Expr → Option Expr
  | some (.BoolOp _ (_ :: b :: _) _) => some b
  | _ => none
abbrev scpI : Scope := scopeOf (arg0? (snd? (ret? ((defBody sIn).getD 4 (.Pass ⟨0, 0, 0, 0⟩)))))
theorem cI : CompP (defScope sIn) scpI "t" ["inside", "fields"] NI [3, 2] := by decide +kernel
theorem ok_in {f fW : Addr} {fd fdW : FuncData} (F : Fun K "closed_in" "closed_in" sIn f fd) (za : mg "all" = none) (GW : FnOk P w K mg base (CXE P w) 1 fW fdW ["told", "inside"] spWithin) (mW : mg "tells_within" = some (.ref fW)) (kW : PySem.W.keepIn K (.ref fW) = true) (bW : Binds K fdW ["told", "inside"] []) :
    FnOk P w K mg base (CXE P w) 2 f fd ["view", "things"] (spIn K) := by
  refine F.okE scI (fun vs H Q E h => ?_) (fun cdv A outer s H vs Q E hr h => ?_)
  · obtain ⟨v, r, d, th, o, ad, rs, ks, ns, rfl, _⟩ := h
    rfl
  · obtain ⟨v, r, d, th, o, ad, rs, ks, ns, rfl, ht, hv, rt, hth, hz, k⟩ := h
    have hu := hu_of hr
    have co : CompOk (cxE P w K mg base NI "closed_in" (defScope sIn) f cdv A outer s H E).nox scpI [("inside", s.heap.objs.size + 2), ("fields", s.heap.objs.size + 1)] "t" [3, 2] ["t", "inside", "fields"] :=
      comp_ok rfl rfl rfl cI rfl rfl (by
        intro q hq
        rcases List.mem_cons.mp hq with e | e
        · rw [e]; rfl
        · rw [List.mem_singleton.mp e]; rfl)
    refine ⟨_, PSs.nox (pss_cons (ps_set (i := 2) scI.nd rfl (Or.inr rfl) (pe_ix ix_tup (pv 0) pe_int (fun _ _ => rfl)))
      (pss_cons (ps_set (i := 3) scI.nd rfl (Or.inr rfl) pe_dnewK)
      (pss_cons (ps_set (i := 4) scI.nd rfl (Or.inl rfl) pe_non)
      (pss_cons (ps_for PassesOwn.never rfl (pi_list (pv 1)) (pg_name (i := 5) scI.nd rfl (Or.inl rfl))
        (pss_cons (ps_if (PW.pt (pw_or (pt_cmp (pc_dnotin hu (pv 5) (pv 2)) (by with_unfolding_all rfl)) (pw_or1 (PW.pt (pw_and (pt_cmpR op_notN (pv 4) pe_non (nomark _)) (pw_and1 (pt_cmpR op_le (pv 5) (pv 4) (nomark _)))))))) (pss_one (ps_ret pe_bl)) pss_nil)
        (pss_cons (ps_dput hu (pv 3) (pv 5) pe_bl rfl)
        (pss_one (ps_set (i := 4) scI.nd rfl (Or.inl rfl) (pv 5))))))
      (pss_one (ps_ret (pe_and (xe_call GW hr rfl mW kW bW .nil passN (pa_cons (pe_ix ix_tup (pv 0) pe_int (fun _ _ => rfl)) (pa_cons (pv 3) pa_nil)))
        (pe_one (pe_callB (call_all rfl) rfl za PyProof.Rows.Boot.«all» (pa_cons (pe_comp co rfl (pi_list (pv 1))
          (fun C fp s₀ H₀ => xe_call GW hr rfl mW kW bW .nil passF (pa_cons (pe_dget hu (pv 2) (pv 0) (fun _ _ => rfl)) (pa_cons (pv 1) pa_nil)))) pa_nil)))))))))), ?_⟩
    refine ⟨_, rfl, v, _, 1, .ref d, rfl, rfl, ht, rfl, ?_⟩
    refine fun iA hiA => ?_
    refine ⟨_, rfl, th, rfl, ⟨_, SqL.of (Same.upd hiA _ _ hth)⟩, for_list (K := K) (a := th) (xs := ns.map V.int) (fun i σ H2 => ∃ v5, σ = [some (.ref v), some (.ref th), some (.ref d), some (.ref iA), some (oV (ns.take i).getLast?), v5] ∧ Same H H2 ∧ H2 iA = some (.dK (insd (ns.take i))) ∧ (ns.take i).Pairwise (· < ·) ∧ ∀ t ∈ ns.take i, t ∈ keys ks)
      ⟨none, rfl, Same.upd hiA, upd_same, List.Pairwise.nil, (fun t h => nomatch h)⟩ (fun i σ H2 _ ⟨_, _, s2, _⟩ => SqL.of (s2 _ _ hth)) ?_ ?_⟩
    · rintro i x σ H2 hx ⟨v5, rfl, s2, h2, pw, hk⟩
      have hlt : i < ns.length := by have := (List.getElem?_eq_some_iff.mp hx).1; rwa [List.length_map] at this
      have hxe : x = .int ns[i] := by
        rw [List.getElem?_map, List.getElem?_eq_getElem hlt] at hx
        exact (Option.some.inj hx).symm
      subst hxe
      have tk : ns.take (i + 1) = ns.take i ++ [ns[i]] := List.take_succ_eq_append_getElem hlt
      have sp := split_at hlt
      have hd2 := s2 _ _ hv.hd
      have bad : ¬ Cl rs ks ns → (fun (b : Bool) => Q (.bl b) H2) false := fun h => k false H2 s2 ⟨fun z => absurd z (by decide), fun z => absurd z h⟩
      obtain ⟨gl, egl⟩ : ∃ gl, (ns.take i).getLast? = gl := ⟨_, rfl⟩
      have nx : (∀ m, gl = some m → m < ns[i]) → DPut H2 iA (.int ns[i]) (.bl true) (upd H2 iA (.dK (insd (ns.take (i + 1))))) ∧ (ns.take (i + 1)).getLast? = some ns[i] ∧ Same H (upd H2 iA (.dK (insd (ns.take (i + 1))))) ∧ (ns.take (i + 1)).Pairwise (· < ·) := fun hm => by
        have pw2 := rise_snoc pw (by rw [egl]; exact hm)
        have nm : ns[i] ∉ ns.take i := fun g => by
          have := (List.pairwise_append.mp pw2).2.2 _ g _ (List.mem_singleton.mpr rfl)
          omega
        have ei : insd (ns.take (i + 1)) = putK (insd (ns.take i)) (Sum.inl ns[i]) (.bl true) := by
          rw [putK_new _ (by rw [val_insd, if_neg nm]), tk]
          unfold insd
          rw [List.map_append]
          rfl
        refine ⟨?_, by rw [tk, List.getLast?_append, List.getLast?_singleton]; rfl, fun c u g => by rw [upd_ne (ne_of_none g hiA)]; exact s2 c u g, by rw [tk]; exact pw2⟩
        rw [ei]
        exact DPut.k (k := Sum.inl ns[i]) h2 (Nat.lt_of_le_of_lt (show (insd (ns.take i)).length ≤ 60 by unfold insd; rw [List.length_map, List.length_take]; omega) (by decide))
      rw [egl]
      by_cases hin : ns[i] ∈ keys ks
      · have hk2 : ∀ t ∈ ns.take (i + 1), t ∈ keys ks := by
          rw [tk]
          intro t g
          rcases List.mem_append.mp g with g | g
          · exact hk t g
          · rw [List.mem_singleton.mp g]; exact hin
        refine ⟨_, rfl, _, rfl, d, _, rfl, dget_in hd2 hin, _, rfl, iteF ?_⟩
        cases gl with
        | none =>
          obtain ⟨n1, n2, n3, n4⟩ := nx (fun m e => nomatch e)
          exact ⟨_, rfl, rfl, _, rfl, iteF (iteF ⟨_, rfl, _, rfl, iA, _, rfl, n1, _, rfl, some (.int ns[i]), by rw [n2]; rfl, n3, upd_same, n4, hk2⟩)⟩
        | some m =>
          refine ⟨_, rfl, rfl, _, rfl, iteT ⟨_, rfl, _, rfl, ns[i], m, rfl, rfl, _, rfl, ite2 (fun h => ?_) (fun h => ?_)⟩⟩
          · have h1 : ns[i] ≤ m := by simpa using h
            refine bad fun z => ?_
            have z1 := z.1
            rw [sp] at z1
            have := rise_last z1 egl
            omega
          · have h1 : ¬ ns[i] ≤ m := by simpa using h
            obtain ⟨n1, n2, n3, n4⟩ := nx (fun m' e => by injection e with e; omega)
            exact ⟨_, rfl, _, rfl, iA, _, rfl, n1, _, rfl, some (.int ns[i]), by rw [n2]; rfl, n3, upd_same, n4, hk2⟩
      · refine ⟨_, rfl, _, rfl, d, _, rfl, dget_f hd2 ns[i], _, rfl, ?_⟩
        rw [if_neg hin]
        exact iteT (iteT (bad fun z => hin (z.2.1 _ (List.getElem_mem hlt))))
    · rintro σ H2 ⟨v5, rfl, s2, h2, pw, hk⟩
      rw [List.length_map, List.take_of_length_le (Nat.le_refl _)] at h2 pw hk
      have v2 := hv.same s2
      refine ⟨_, rfl, v, _, 0, .ref r, rfl, rfl, sqT_same ht s2, rfl, _, rfl, r, iA, rs, insd ns, rfl, v2.hr, Nat.le_trans rt.rl (by decide), h2, fun H3 s3 => ⟨_, rfl, ite2 (fun hc => ?_) (fun hc => ?_)⟩⟩
      · have s3' := s2.trans s3
        have v3 := hv.same s3'
        refine ⟨_, rfl, th, rfl, ⟨_, SqL.of (s3' _ _ hth)⟩, fun D hD => ?_⟩
        have hD0 : H D = none := s3'.free hD
        refine comp_list (K := K) (a := th) (xs := ns.map V.int) (fun j zs H4 => zs = ((ns.take j).map fun t => (fsOf ks t).all (wIn (insd ns))).map V.bl ∧ Same H3 H4 ∧ H4 D = some (.lst zs)) ⟨rfl, Same.upd hD, upd_same⟩
          (fun j zs H4 hj ⟨e, _, z⟩ => ⟨z, by rw [List.length_map] at hj; rw [e, List.length_map, List.length_map, List.length_take]; omega⟩) (fun j zs H4 _ ⟨_, s4, _⟩ => SqL.of (s4 _ _ (s3' _ _ hth))) (Nat.le_trans (by rw [List.length_map]; exact hz) (by decide))
          (fun j x zs H4 hx ⟨e, s4, z⟩ => ?_) (fun zs H4 ⟨e, s4, z⟩ => ?_)
        · have hlt : j < ns.length := by have := (List.getElem?_eq_some_iff.mp hx).1; rwa [List.length_map] at this
          have tk : ns.take (j + 1) = ns.take j ++ [ns[j]] := List.take_succ_eq_append_getElem hlt
          have hxe : x = .int ns[j] := by
            rw [List.getElem?_map, List.getElem?_eq_getElem hlt] at hx
            exact (Option.some.inj hx).symm
          subst hxe
          have hin : ns[j] ∈ keys ks := hk _ (List.getElem_mem hlt)
          have v4 := v3.same s4
          obtain ⟨f1, f2, f3⟩ := fs_at v4 rt hin
          refine ⟨_, rfl, _, rfl, d, _, rfl, dget_in v4.hd hin, _, rfl, ad ns[j], iA, fsOf ks ns[j], insd ns, rfl, f1, Nat.le_trans f2 (by decide), s4 _ _ (s3 _ _ h2), fun H5 s5 => ⟨s5 _ _ z, ?_, ?_, upd_same⟩⟩
          · rw [tk, e, List.map_append, List.map_append]; rfl
          · exact fun c u g => by rw [upd_ne (ne_of_none g hD)]; exact s5 _ _ (s4 c u g)
        · rw [List.length_map, List.take_of_length_le (Nat.le_refl _)] at e
          refine ⟨D, ns.map fun t => (fsOf ks t).all (wIn (insd ns)), rfl, by rw [← e]; exact SqL.of z, ?_⟩
          refine k _ H4 (s3'.trans s4) ?_
          rw [List.all_map, List.all_eq_true]
          constructor
          · intro h
            refine ⟨pw, hk, (all_win ns rs).mp hc, fun p hp hm => ?_⟩
            have := h p.1 hm
            simp only [Function.comp, id] at this
            rw [fsOf_mem rt.nd hp] at this
            exact (all_win ns p.2).mp this
          · intro h t htm
            simp only [Function.comp, id]
            obtain ⟨p, hp, rfl⟩ := List.mem_map.mp (hk t htm)
            rw [fsOf_mem rt.nd hp]
            exact (all_win ns p.2).mpr (h.2.2.2 p hp htm)
      · refine k false H3 (s2.trans s3) ⟨fun z => absurd z (by decide), fun z => absurd ((all_win ns rs).mpr z.2.2.1) hc⟩
end
end K17
namespace K17
open PySem L2 LX
section
variable {P : Program} {w : World} {K : PySem.W.Frag} {mg : Str → Option Value} {base : Heap}
abbrev Tr := Option Int × Option Int × Option Int
def trV (t : Tr) : List V := [oV t.1, oV t.2.1, oV t.2.2]
def At (fs : List (Option Int)) (pl : Option Int) (n : Int) : Prop := ∃ p : Nat, pl = some (p : Int) ∧ fs[p]? = some (some n)
def From (rs : List (Option Int)) (ks : Fs) (met : List Int) (si pl : Option Int) (n : Int) : Prop := match si with
  | none => At rs pl n
  | some o => o ∈ met ∧ At (fsOf ks o) pl n
def StepOk (rs : List (Option Int)) (ks : Fs) (met : List Int) (t : Tr) (n : Int) : Prop := t.1 = some n ∧ n ∉ met ∧ From rs ks met t.2.1 t.2.2 n
inductive Runs (rs : List (Option Int)) (ks : Fs) : List Int → List Tr → List Int → Prop
  | nil {m : List Int} : Runs rs ks m [] m
  | cons {m : List Int} {t : Tr} {n : Int} {ts : List Tr} {m' : List Int} : StepOk rs ks m t n → Runs rs ks (m ++ [n]) ts m' → Runs rs ks m (t :: ts) m'
def Jd (rs : List (Option Int)) (ks : Fs) (ts : List Tr) : Prop := ∃ m, Runs rs ks [] ts m ∧ (∀ n, some n ∈ rs → n ∈ m) ∧ Shut ks m
section
variable {rs : List (Option Int)} {ks : Fs}
theorem runs_split : ∀ {xs ys : List Tr} {a m : List Int}, Runs rs ks a (xs ++ ys) m → ∃ b, Runs rs ks a xs b ∧ Runs rs ks b ys m
  | [], ys, a, m, h => ⟨a, .nil, h⟩
  | x :: xs, ys, a, m, h => by
    cases h with
    | cons s r =>
      obtain ⟨b, h1, h2⟩ := runs_split r
      exact ⟨b, .cons s h1, h2⟩
theorem runs_det : ∀ {xs : List Tr} {a b c : List Int}, Runs rs ks a xs b → Runs rs ks a xs c → b = c
  | [], a, b, c, h1, h2 => by
    cases h1
    cases h2
    rfl
  | x :: xs, a, b, c, h1, h2 => by
    cases h1 with
    | cons s1 r1 =>
      cases h2 with
      | cons s2 r2 =>
        have e := s1.1.symm.trans s2.1
        injection e with e
        subst e
        exact runs_det r1 r2
theorem runs_snoc : ∀ {xs : List Tr} {a m : List Int} {t : Tr} {n : Int}, Runs rs ks a xs m → StepOk rs ks m t n → Runs rs ks a (xs ++ [t]) (m ++ [n])
  | [], a, m, t, n, h, s => by
    cases h
    exact .cons s .nil
  | x :: xs, a, m, t, n, h, s => by
    cases h with
    | cons s1 r1 => exact .cons s1 (runs_snoc r1 s)
theorem from_key (rt : Rt rs ks) {met : List Int} (hm : ∀ m ∈ met, m ∈ keys ks) {si pl : Option Int} {n : Int} (h : From rs ks met si pl n) : n ∈ keys ks := by
  cases si with
  | none =>
    obtain ⟨p, _, e⟩ := h
    exact rt.ri n (List.mem_of_getElem? e)
  | some o =>
    obtain ⟨h1, p, _, e⟩ := h
    obtain ⟨q, hq, eq⟩ := List.mem_map.mp (hm o h1)
    rw [← eq, fsOf_mem rt.nd hq] at e
    exact rt.fi q hq n (List.mem_of_getElem? e)
end
/-- tells_at -/
def spTells : Sp := fun vs H Q _ => ∃ (l : Addr) (pl : Option Int) (n : Int) (fs : List (Option Int)), vs = [.ref l, oV pl, .int n] ∧ H l = some (.lst (fs.map oV)) ∧ ∀ b : Bool, (b = true ↔ At fs pl n) → Q (.bl b) H
theorem scTe : FnScope ["told", "place", "thing"] ["told", "place", "thing"] (defScope sTells) := ⟨rfl, rfl, rfl, by decide +kernel, rfl, by decide +kernel, by decide +kernel⟩
theorem ok_tells {f : Addr} {fd : FuncData} (F : Fun K "tells_at" "tells_at" sTells f fd) (zn : mg "len" = none) : FnOk P w K mg base (CXE P w) 1 f fd ["told", "place", "thing"] spTells := by
  refine F.okE scTe (fun vs H Q E h => ?_) (fun cdv A outer s H vs Q E hr h => ?_)
  · obtain ⟨l, pl, n, fs, rfl, _⟩ := h
    rfl
  · obtain ⟨l, pl, n, fs, rfl, hl, k⟩ := h
    refine ⟨_, PSs.nox (pss_one (ps_ret (pe_and (pe_cmpR op_notN (pv 1) pe_non (nomark _)) (pe_and (pe_chain op_le op_lt pe_int (pv 1) (pe_callB call_len_seq rfl zn PyProof.Rows.Boot.«len» (pa_cons (pv 0) pa_nil))) (pe_one (pe_cmpR op_eq (pe_ix ix_list (pv 0) (pv 1) (fun _ _ => rfl)) (pv 2) (nomark _))))))), ?_⟩
    have no : ¬ At fs pl n → Q (.bl false) H := fun h => k false ⟨fun z => absurd z (by decide), fun z => absurd z h⟩
    cases pl with
    | none => exact ⟨_, rfl, rfl, _, rfl, iteF (no fun ⟨p, e, _⟩ => nomatch e)⟩
    | some p =>
      refine ⟨_, rfl, rfl, _, rfl, iteT ⟨_, rfl, 0, p, rfl, rfl, _, rfl, ite2 (fun h0 => ?_) (fun h0 => ?_)⟩⟩
      · have h0 : 0 ≤ p := by simpa using h0
        obtain ⟨m, rfl⟩ : ∃ m : Nat, p = (m : Int) := ⟨p.toNat, by omega⟩
        refine ⟨_, rfl, l, _, rfl, .inl (SqL.of hl), _, _, rfl, rfl, _, rfl, ite2 (fun h1 => ?_) (fun h1 => ?_)⟩
        · have h1 : m < fs.length := by
            have h2 : (m : Int) < ((fs.map oV).length : Int) := by simpa using h1
            rw [List.length_map] at h2
            omega
          refine ⟨_, rfl, _, rfl, l, _, _, oV fs[m], rfl, rfl, SqL.of hl, atI_nat (by rw [List.getElem?_map, List.getElem?_eq_getElem h1]; rfl), _, rfl, ?_, k _ ?_⟩
          · cases fs[m] <;> rfl
          · rw [decide_eq_true_eq]
            constructor
            · intro e
              refine ⟨m, rfl, ?_⟩
              rw [List.getElem?_eq_getElem h1]
              cases hc : fs[m] with
              | none => rw [hc] at e; exact nomatch (show V.non = V.int n from e)
              | some y => rw [hc] at e; injection (show V.int y = V.int n from e) with e; rw [e]
            · rintro ⟨p, e, h⟩
              injection e with e
              have e : m = p := by omega
              subst e
              rw [List.getElem?_eq_getElem h1] at h
              rw [Option.some.inj h]
              rfl
        · refine no ?_
          rintro ⟨p, e, h⟩
          injection e with e
          have e : m = p := by omega
          subst e
          have h3 := (List.getElem?_eq_some_iff.mp h).1
          have h2 : ¬ (m : Int) < ((fs.map oV).length : Int) := by simpa using h1
          rw [List.length_map] at h2
          omega
      · refine ⟨_, rfl, iteF (no ?_)⟩
        rintro ⟨m, e, _⟩
        injection e with e
        have h0 : ¬ 0 ≤ p := by simpa using h0
        omega
/-- is_step -/
def spStep (K : PySem.W.Frag) : Sp := fun vs H Q _ => ∃ (v r d a tx : Addr) (o : Obj) (ad : Int → Addr) (rs : List (Option Int)) (ks : Fs) (kvs : List (Key × V)) (met : List Int) (t : Tr), vs = [.ref v, .ref a, .ref tx] ∧ SqT K H v [.ref r, .ref d] ∧ Vw H r d o ad rs ks ∧ Rt rs ks ∧ H a = some (.dK kvs) ∧ kvs.map (·.1) = met.map Sum.inl ∧ (∀ m ∈ met, m ∈ keys ks) ∧ H tx = some (.tup (trV t)) ∧
  ∀ b : Bool, (b = true ↔ ∃ n, StepOk rs ks met t n) → Q (.bl b) H
theorem scSt : FnScope ["view", "ahead", "triple", "thing", "origin"] ["view", "ahead", "triple"] (defScope sStep) := ⟨rfl, rfl, rfl, by decide +kernel, rfl, by decide +kernel, by decide +kernel⟩
theorem ok_step {f fT : Addr} {fd fdT : FuncData} (F : Fun K "is_step" "is_step" sStep f fd) (GT : FnOk P w K mg base (CXE P w) 1 fT fdT ["told", "place", "thing"] spTells) (mT : mg "tells_at" = some (.ref fT)) (kT : PySem.W.keepIn K (.ref fT) = true) (bT : Binds K fdT ["told", "place", "thing"] []) : FnOk P w K mg base (CXE P w) 2 f fd ["view", "ahead", "triple"] (spStep K) := by
  refine F.okE scSt (fun vs H Q E h => ?_) (fun cdv A outer s H vs Q E hr h => ?_)
  · obtain ⟨v, r, d, a, tx, o, ad, rs, ks, kvs, met, t, rfl, _⟩ := h
    rfl
  · obtain ⟨v, r, d, a, tx, o, ad, rs, ks, kvs, met, ⟨t1, t2, t3⟩, rfl, ht, hv, rt, ha, hk, hm, htx, k⟩ := h
    have hu := hu_of hr
    refine ⟨_, PSs.nox (pss_cons (ps_set (i := 3) scSt.nd rfl (Or.inl rfl) (pe_ix ix_tup (pv 2) pe_int (fun _ _ => rfl)))
      (pss_cons (ps_set (i := 4) scSt.nd rfl (Or.inl rfl) (pe_ix ix_tup (pv 2) pe_int (fun _ _ => rfl)))
      (pss_cons (ps_if (PW.pt (pw_or (pt_cmpR op_isN (pv 3) pe_non (nomark _)) (pw_or1 (pt_cmp (pc_din hu (pv 3) (pv 1)) (by with_unfolding_all rfl))))) (pss_one (ps_ret pe_bl)) pss_nil)
      (pss_cons (ps_if (pt_cmpR op_isN (pv 4) pe_non (nomark _)) (pss_one (ps_ret (xe_call GT hr rfl mT kT bT .nil passN (pa_cons (pe_ix ix_tup (pv 0) pe_int (fun _ _ => rfl)) (pa_cons (pe_ix ix_tup (pv 2) pe_int (fun _ _ => rfl)) (pa_cons (pv 3) pa_nil)))))) pss_nil)
      (pss_one (ps_ret (pe_and (pe_cmp (pc_din hu (pv 4) (pv 1))) (pe_one (xe_call GT hr rfl mT kT bT .nil passN (pa_cons (pe_dget hu (pe_ix ix_tup (pv 0) pe_int (fun _ _ => rfl)) (pv 4) (fun _ _ => rfl)) (pa_cons (pe_ix ix_tup (pv 2) pe_int (fun _ _ => rfl)) (pa_cons (pv 3) pa_nil)))))))))))), ?_⟩
    have no : (¬ ∃ n, StepOk rs ks met (t1, t2, t3) n) → Q (.bl false) H := fun h => k false ⟨fun z => absurd z (by decide), fun z => absurd z h⟩
    refine ⟨_, rfl, tx, _, 0, oV t1, rfl, rfl, SqT.of htx, rfl, ?_⟩
    refine ⟨_, rfl, tx, _, 1, oV t2, rfl, rfl, SqT.of htx, rfl, ?_⟩
    cases t1 with
    | none => exact ⟨_, rfl, rfl, _, rfl, iteT (iteT (no fun ⟨n, h, _⟩ => nomatch h))⟩
    | some n =>
      refine ⟨_, rfl, rfl, _, rfl, iteF ⟨_, rfl, _, rfl, a, _, rfl, DGet.k (k := Sum.inl n) ha, _, rfl, ?_⟩⟩
      rw [val_some hk]
      by_cases hn : n ∈ met
      · rw [decide_eq_true hn]
        exact iteT (no fun ⟨m, h, h2, _⟩ => by injection h with h; rw [← h] at h2; exact h2 hn)
      · rw [decide_eq_false hn]
        refine iteF ?_
        cases t2 with
        | none =>
          refine ⟨_, rfl, rfl, _, rfl, iteT ⟨_, rfl, v, _, 0, .ref r, rfl, rfl, ht, rfl, _, rfl, tx, _, 2, oV t3, rfl, rfl, SqT.of htx, rfl, _, rfl, r, t3, n, rs, rfl, hv.hr, fun b hb => k b (hb.trans ⟨fun h => ⟨n, rfl, hn, h⟩, ?_⟩)⟩⟩
          rintro ⟨m, h, _, h3⟩
          injection h with h
          rw [h]
          exact h3
        | some og =>
          refine ⟨_, rfl, rfl, _, rfl, iteF ⟨_, rfl, _, rfl, a, _, rfl, DGet.k (k := Sum.inl og) ha, _, rfl, ?_⟩⟩
          rw [val_some hk]
          by_cases ho : og ∈ met
          · rw [decide_eq_true ho]
            obtain ⟨f1, f2, f3⟩ := fs_at hv rt (hm og ho)
            refine iteT ⟨_, rfl, v, _, 1, .ref d, rfl, rfl, ht, rfl, _, rfl, d, _, rfl, dget_in hv.hd (hm og ho), _, rfl, tx, _, 2, oV t3, rfl, rfl, SqT.of htx, rfl, _, rfl, ad og, t3, n, fsOf ks og, rfl, f1, fun b hb => k b (hb.trans ⟨fun h => ⟨n, rfl, hn, ho, h⟩, ?_⟩)⟩
            rintro ⟨m, h, _, _, h3⟩
            injection h with h
            rw [h]
            exact h3
          · rw [decide_eq_false ho]
            exact iteF (no fun ⟨m, _, _, h, _⟩ => ho h)
/-- paper_judged -/
def spJudged (K : PySem.W.Frag) : Sp := fun vs H Q _ => ∃ (v r d l : Addr) (o : Obj) (ad : Int → Addr) (rs : List (Option Int)) (ks : Fs) (xs : List Addr) (tr : Addr → Tr), vs = [.ref v, .ref l] ∧ SqT K H v [.ref r, .ref d] ∧ Vw H r d o ad rs ks ∧ Rt rs ks ∧ H l = some (.lst (xs.map V.ref)) ∧ (∀ x ∈ xs, H x = some (.tup (trV (tr x)))) ∧
  ∀ (b : Bool) (H' : Hp), Same H H' → (b = true ↔ Jd rs ks (xs.map tr)) → Q (.bl b) H'
theorem scJ : FnScope ["view", "triples", "ahead", "triple"] ["view", "triples"] (defScope sJudged) := ⟨rfl, rfl, rfl, by decide +kernel, rfl, by decide +kernel, by decide +kernel⟩
theorem ok_judged {f fL fS fI : Addr} {fd fdL fdS fdI : FuncData} (F : Fun K "paper_judged" "paper_judged" sJudged f fd) (zs : mg "sorted" = none) (GL : FnOk P w K mg base (CXE P w) 2 fL fdL ["view"] (spLook K)) (mL : mg "look_at_view" = some (.ref fL)) (kL : PySem.W.keepIn K (.ref fL) = true) (bL : Binds K fdL ["view"] [])
    (GS : FnOk P w K mg base (CXE P w) 2 fS fdS ["view", "ahead", "triple"] (spStep K)) (mS : mg "is_step" = some (.ref fS)) (kS : PySem.W.keepIn K (.ref fS) = true) (bS : Binds K fdS ["view", "ahead", "triple"] [])
    (GI : FnOk P w K mg base (CXE P w) 2 fI fdI ["view", "things"] (spIn K)) (mI : mg "closed_in" = some (.ref fI)) (kI : PySem.W.keepIn K (.ref fI) = true) (bI : Binds K fdI ["view", "things"] []) : FnOk P w K mg base (CXE P w) 3 f fd ["view", "triples"] (spJudged K) := by
  refine F.okE scJ (fun vs H Q E h => ?_) (fun cdv A outer s H vs Q E hr h => ?_)
  · obtain ⟨v, r, d, l, o, ad, rs, ks, xs, tr, rfl, _⟩ := h
    rfl
  · obtain ⟨v, r, d, l, o, ad, rs, ks, xs, tr, rfl, ht, hv, rt, hl, hx, k⟩ := h
    have hu := hu_of hr
    refine ⟨_, PSs.nox (pss_cons (ps_expr (xe_call GL hr rfl mL kL bL .nil passN (pa_cons (pv 0) pa_nil)))
      (pss_cons (ps_set (i := 2) scJ.nd rfl (Or.inl rfl) pe_dnewK)
      (pss_cons (ps_for PassesOwn.never rfl (pi_list (pv 1)) (pg_name (i := 3) scJ.nd rfl (Or.inl rfl))
        (pss_cons (ps_if (pt_not (pt_val (xe_call GS hr rfl mS kS bS .nil passN (pa_cons (pv 0) (pa_cons (pv 2) (pa_cons (pv 3) pa_nil)))))) (pss_one (ps_ret pe_bl)) pss_nil)
        (pss_one (ps_dput hu (pv 2) (pe_ix ix_tup (pv 3) pe_int (fun _ _ => rfl)) pe_bl rfl))))
      (pss_one (ps_ret (xe_call GI hr rfl mI kI bI .nil passN (pa_cons (pv 0) (pa_cons (pe_callB (call_sortedR rfl) rfl zs PyProof.Rows.Boot.«sorted» (pa_cons (pv 2) pa_nil)) pa_nil)))))))), ?_⟩
    refine ⟨_, rfl, v, r, d, o, ad, rs, ks, rfl, ht, hv, rt, ?_⟩
    refine fun a ha => ?_
    have kk : (keys ks).length = ks.length := List.length_map _
    have kl := rt.kl
    have s0 : Same H (upd H a (.dK [])) := Same.upd ha
    refine ⟨_, rfl, l, rfl, ⟨_, SqL.of (s0 _ _ hl)⟩, for_list (K := K) (a := l) (xs := xs.map V.ref) (fun i σ H2 => ∃ (v3 : Option V) (kvs : List (Key × V)) (met : List Int), σ = [some (.ref v), some (.ref l), some (.ref a), v3] ∧ Same H H2 ∧ H2 a = some (.dK kvs) ∧ kvs.map (·.1) = met.map Sum.inl ∧ met.Nodup ∧ (∀ m ∈ met, m ∈ keys ks) ∧ Runs rs ks [] ((xs.take i).map tr) met)
      ⟨none, [], [], rfl, s0, upd_same, rfl, List.nodup_nil, (fun m h => nomatch h), .nil⟩ (fun i σ H2 _ ⟨_, _, _, _, s2, _⟩ => SqL.of (s2 _ _ hl)) ?_ ?_⟩
    · rintro i y σ H2 hy ⟨v3, kvs, met, rfl, s2, z2, hk, nd, hm, hR⟩
      have hlt : i < xs.length := by have := (List.getElem?_eq_some_iff.mp hy).1; rwa [List.length_map] at this
      have tk : xs.take (i + 1) = xs.take i ++ [xs[i]] := List.take_succ_eq_append_getElem hlt
      have hxe : y = .ref xs[i] := by
        rw [List.getElem?_map, List.getElem?_eq_getElem hlt] at hy
        exact (Option.some.inj hy).symm
      subst hxe
      have hxi := hx _ (List.getElem_mem hlt)
      refine ⟨_, rfl, _, rfl, _, rfl, v, r, d, a, xs[i], o, ad, rs, ks, kvs, met, tr xs[i], rfl, sqT_same ht s2, hv.same s2, rt, z2, hk, hm, s2 _ _ hxi, fun b hb => ⟨_, rfl, ite2 (fun h => ?_) (fun h => ?_)⟩⟩
      · have hb0 : ¬ b = true := by simpa using h
        refine k false H2 s2 ⟨fun z => absurd z (by decide), fun z => absurd (hb.mpr ?_) hb0⟩
        obtain ⟨m, hr', _⟩ := z
        have e : xs.map tr = (xs.take i).map tr ++ tr xs[i] :: (xs.drop (i + 1)).map tr := by
          rw [← List.map_cons, ← List.drop_eq_getElem_cons hlt, ← List.map_append, List.take_append_drop]
        rw [e] at hr'
        obtain ⟨m2, h1, h2⟩ := runs_split hr'
        rw [runs_det h1 hR] at h2
        cases h2 with
        | cons s _ => exact ⟨_, s⟩
      · have hb1 : b = true := by simpa using h
        obtain ⟨n, hs⟩ := hb.mp hb1
        have lk : kvs.length = met.length := by
          have := congrArg List.length hk
          simpa using this
        have ml := nodup_len nd hm
        have vn : valV kvs (Sum.inl n) = none := by
          have := val_some hk n
          rw [decide_eq_false hs.2.1] at this
          simpa using this
        refine ⟨_, rfl, _, rfl, xs[i], _, 0, oV (tr xs[i]).1, rfl, rfl, SqT.of (s2 _ _ hxi), rfl, a, _, rfl, (by rw [hs.1]; exact DPut.k (k := Sum.inl n) z2 (Nat.lt_of_le_of_lt (show kvs.length ≤ 11 by omega) (by decide))), ?_⟩
        rw [putK_new _ vn]
        refine ⟨_, kvs ++ [(Sum.inl n, V.bl true)], met ++ [n], rfl, fun c u g => by rw [upd_ne (ne_of_none g ha)]; exact s2 c u g, upd_same, by rw [List.map_append, hk, List.map_append]; rfl, ?_, fun m h => ?_, ?_⟩
        · rw [List.nodup_append]
          refine ⟨nd, by simp, fun c hc b hb => ?_⟩
          rw [List.mem_singleton.mp hb]
          exact fun z => hs.2.1 (by rw [← z]; exact hc)
        · rcases List.mem_append.mp h with g | g
          · exact hm m g
          · rw [List.mem_singleton.mp g]
            exact from_key rt hm hs.2.2
        · rw [tk, List.map_append]
          exact runs_snoc hR hs
    · rintro σ H2 ⟨v3, kvs, met, rfl, s2, z2, hk, nd, hm, hR⟩
      rw [List.length_map, List.take_of_length_le (Nat.le_refl _)] at hR
      have ml := nodup_len nd hm
      refine ⟨_, rfl, _, rfl, a, kvs, met, rfl, .inl z2, hk, by omega, fun q ms hq pm pw => ?_⟩
      have s3 := s2.trans (Same.upd (o := .lst (ms.map V.int)) hq)
      refine ⟨v, r, d, q, o, ad, rs, ks, ms, rfl, sqT_same ht s3, hv.same s3, rt, upd_same, by rw [pm.length_eq]; omega, fun b H4 s4 hb => k b H4 (s3.trans s4) (hb.trans ?_)⟩
      have rise : ms.Pairwise (· < ·) := (pw.and (pm.nodup_iff.mpr nd)).imp fun ⟨h1, h2⟩ => Int.lt_iff_le_and_ne.mpr ⟨h1, h2⟩
      constructor
      · rintro ⟨_, _, c3, c4⟩
        refine ⟨met, hR, fun n hn => pm.mem_iff.mp (c3 n hn), fun t ht' n hn => ?_⟩
        obtain ⟨p, hp, rfl⟩ := List.mem_map.mp (hm t ht')
        rw [fsOf_mem rt.nd hp] at hn
        exact pm.mem_iff.mp (c4 p hp (pm.mem_iff.mpr ht') n hn)
      · rintro ⟨m2, hR2, c1, c2⟩
        have e := runs_det hR2 hR
        subst e
        refine ⟨rise, fun t ht' => hm t (pm.mem_iff.mp ht'), fun n hn => pm.mem_iff.mpr (c1 n hn), fun p hp hpm n hn => pm.mem_iff.mpr (c2 p.1 (pm.mem_iff.mp hpm) n (by rw [fsOf_mem rt.nd hp]; exact hn))⟩
end
end K17
end
section
set_option Elab.async false
set_option linter.all false
set_option maxRecDepth 100000
set_option maxHeartbeats 4000000
namespace K17
open PySem L2 LX HT
/-! ### t + u, u not empty -/
def rCatN (K : PySem.W.Frag) : R2 := fun x y H Q => ∃ a b xs ys, x = .ref a ∧ y = .ref b ∧ SqT K H a xs ∧ H b = some (.tup ys) ∧ ys ≠ [] ∧ xs.length + ys.length ≤ sizeLine ∧ ∀ p H', Same H H' → H' p = some (.tup (xs ++ ys)) → Q (.ref p) H'
theorem op_catN {X : Cx} : OpR X (binaryOp .Add) (rCatN X.K) := by
  rintro pins s σ H x y v u Q I rx ry ⟨a, b, xs, ys, rfl, rfl, ha, hb, ny, hz, q⟩
  exact op_catA pins s σ H _ _ v u Q I rx ry ⟨a, b, xs, ys, rfl, rfl, ha, SqT.of hb, hz, fun e => q b H (Same.refl _) (by rw [e]; exact hb), fun _ => ⟨fun e => absurd e ny, fun _ p hp => q p _ (Same.upd hp) upd_same⟩⟩
/-- the dict of ways -/
structure Wd (H : Hp) (st : Addr) (ms : List Int) (ea pa : Int → Addr) (wy : Int → Wy) : Prop where
  hs : H st = some (.dK (ms.map fun t => (Sum.inl t, V.ref (ea t))))
  nd : ms.Nodup
  he : ∀ t ∈ ms, H (ea t) = some (.tup [.int ((wy t).2.length : Int), .int (wy t).1, .ref (pa t)])
  hp : ∀ t ∈ ms, H (pa t) = some (.tup ((wy t).2.map V.int))
theorem Wd.same {H H' : Hp} {st : Addr} {ms : List Int} {ea pa : Int → Addr} {wy : Int → Wy} (m : Wd H st ms ea pa wy) (s : Same H H') : Wd H' st ms ea pa wy := ⟨s _ _ m.hs, m.nd, fun t h => s _ _ (m.he t h), fun t h => s _ _ (m.hp t h)⟩
theorem Wd.get {H : Hp} {st : Addr} {ms : List Int} {ea pa : Int → Addr} {wy : Int → Wy} (m : Wd H st ms ea pa wy) {n : Int} (h : n ∈ ms) : DGet H st (.int n) (some (V.ref (ea n))) := by
  have := DGet.k (k := Sum.inl n) m.hs
  rwa [Sd.val, if_pos h] at this
theorem Wd.putN {H : Hp} {st : Addr} {ms : List Int} {ea pa : Int → Addr} {wy : Int → Wy} (m : Wd H st ms ea pa wy) {n : Int} (hn : n ∉ ms) {u p : Addr} {c : Wy} (hu : H u = some (.tup [.int (c.2.length : Int), .int c.1, .ref p])) (hp : H p = some (.tup (c.2.map V.int))) (hl : ms.length ≤ 1000) :
    ∃ H', DPut H st (.int n) (.ref u) H' ∧ Wd H' st (ms ++ [n]) (ext ea n u) (ext pa n p) (ext wy n c) ∧ ∀ c v, c ≠ st → H c = some v → H' c = some v := by
  have ne : ∀ {t}, t ∈ ms → t ≠ n := fun h z => hn (by rw [← z]; exact h)
  have ek : putK (ms.map fun t => ((Sum.inl t : Key), V.ref (ea t))) (Sum.inl n) (V.ref u) = ((ms ++ [n]).map fun t => ((Sum.inl t : Key), V.ref (ext ea n u t))) := by
    have e1 : ms.map (fun t => ((Sum.inl t : Key), V.ref (ext ea n u t))) = ms.map fun t => ((Sum.inl t : Key), V.ref (ea t)) := List.map_congr_left fun t ht => by rw [ext_ne _ _ (ne ht)]
    rw [List.map_append, e1, putK_new (V.ref u) (by rw [Sd.val, if_neg hn])]
    show _ = _ ++ [((Sum.inl n : Key), V.ref (ext ea n u n))]
    rw [ext_self]
  have oth : ∀ c v, c ≠ st → H c = some v → upd H st (.dK ((ms ++ [n]).map fun t => (Sum.inl t, V.ref (ext ea n u t)))) c = some v := fun c v h1 h2 => (upd_ne h1).trans h2
  refine ⟨upd H st (.dK ((ms ++ [n]).map fun t => (Sum.inl t, V.ref (ext ea n u t)))), ?_, ⟨upd_same, ?_, fun t ht => ?_, fun t ht => ?_⟩, oth⟩
  · rw [← ek]
    exact DPut.k (k := Sum.inl n) m.hs (Nat.lt_of_le_of_lt (show (ms.map fun t => ((Sum.inl t : Key), V.ref (ea t))).length ≤ 1000 by rw [List.length_map]; exact hl) (by decide))
  · rw [List.nodup_append]
    refine ⟨m.nd, by simp, fun a ha b hb => ?_⟩
    rw [List.mem_singleton.mp hb]
    exact ne ha
  · rcases List.mem_append.mp ht with g | g
    · rw [ext_ne _ _ (ne g), ext_ne _ _ (ne g), ext_ne _ _ (ne g)]
      exact oth _ _ (ne_of (m.he t g) m.hs (by intro z; cases z)) (m.he t g)
    · rw [List.mem_singleton.mp g, ext_self, ext_self, ext_self]
      exact oth _ _ (ne_of hu m.hs (by intro z; cases z)) hu
  · rcases List.mem_append.mp ht with g | g
    · rw [ext_ne _ _ (ne g), ext_ne _ _ (ne g)]
      exact oth _ _ (ne_of (m.hp t g) m.hs (by intro z; cases z)) (m.hp t g)
    · rw [List.mem_singleton.mp g, ext_self, ext_self]
      exact oth _ _ (ne_of hp m.hs (by intro z; cases z)) hp
theorem Bf.len {rs : List (Option Int)} {ks : Fs} {ms : List Int} {wy : Int → Wy} {fr : Int → Option Int × Int} (b : Bf rs ks ms wy fr) {t : Int} (h : t ∈ ms) : (wy t).2.length < ms.length := by
  obtain ⟨i, hi, e⟩ := List.mem_iff_getElem.mp h
  have := b.dep i hi
  rw [e] at this
  omega
/-- what is still to be gone through lies behind -/
def Lts (ms : List Int) (wy : Int → Wy) (dn : Nat) : Prop := ∀ t ∈ ms, ∀ s ∈ ms.drop dn, ∀ q : Int, Lt (wy t) (on (wy s) q)
/-- one turn's state: dn things are gone through -/
structure Y2 (rs : List (Option Int)) (ks : Fs) (ss : List Int) (dn0 i dn : Nat) (ms : List Int) (wy : Int → Wy) (fr : Int → Option Int × Int) : Prop where
  q : Wq rs ks ms wy fr (ss.take dn)
  lt : Lts ms wy dn
  tk : ms.take ss.length = ss
  d0 : dn0 ≤ dn
  di : i ≤ dn
  ds : dn ≤ ss.length
  gr : ms.length = ss.length ∨ dn0 < ss.length
/-- the state amid one thing's fields -/
structure Y3 (rs : List (Option Int)) (ks : Fs) (ss : List Int) (dn0 i dn : Nat) (t : Int) (w0 : Wy) (j : Nat) (ms : List Int) (wy : Int → Wy) (fr : Int → Option Int × Int) : Prop where
  q : Wq rs ks ms wy fr (ss.take dn)
  tk : ms.take ss.length = ss
  d0 : dn0 ≤ dn
  di : i ≤ dn
  ds : dn ≤ ss.length
  gr : ms.length = ss.length ∨ dn0 < ss.length
  at_ : ss[i]? = some t
  tm : t ∈ ms
  wt : wy t = w0
  now : ∀ (q : Nat) n, q < j → (fsOf ks t)[q]? = some (some n) → In ms wy (on w0 q) n
  far : (i < dn ∧ Lts ms wy dn) ∨ (dn = i ∧ ∀ t' ∈ ms, Lt (wy t') (on w0 (j : Int)))
section
variable {rs : List (Option Int)} {ks : Fs} {ss : List Int} {dn0 i dn : Nat} {ms : List Int} {wy : Int → Wy} {fr : Int → Option Int × Int} {t : Int} {w0 : Wy} {j : Nat}
theorem Y2.go (y : Y2 rs ks ss dn0 i dn ms wy fr) (h : ss[i]? = some t) : Y3 rs ks ss dn0 i dn t (wy t) 0 ms wy fr := by
  have sb : ∀ x ∈ ss, x ∈ ms := fun x hx => List.mem_of_mem_take (by rw [y.tk]; exact hx)
  have hm : t ∈ ms := sb t (List.mem_of_getElem? h)
  refine ⟨y.q, y.tk, y.d0, y.di, y.ds, y.gr, h, hm, rfl, fun q n z => absurd z (Nat.not_lt_zero _), ?_⟩
  rcases Nat.lt_or_ge i dn with z | z
  · exact .inl ⟨z, y.lt⟩
  · have e : dn = i := Nat.le_antisymm z y.di
    refine .inr ⟨e, fun t' h' => y.lt t' h' t ?_ _⟩
    have hi := (List.getElem?_eq_some_iff.mp h).1
    have e1 : ms[i]? = some t := by
      have z1 := List.getElem?_take_of_lt (l := ms) hi
      rw [y.tk] at z1
      rw [← z1]
      exact h
    rw [e]
    exact List.mem_of_getElem? (i := 0) (by rw [List.getElem?_drop]; exact e1)
theorem Y3.done (y : Y3 rs ks ss dn0 i dn t w0 j ms wy fr) (h : i < dn) {n : Int} (e : (fsOf ks t)[j]? = some (some n)) : In ms wy (on w0 j) n := by
  have hm : t ∈ ss.take dn := List.mem_of_getElem? (i := i) (by rw [List.getElem?_take_of_lt h]; exact y.at_)
  rw [← y.wt]
  exact y.q.don t hm j n e
theorem Y3.in_ (y : Y3 rs ks ss dn0 i dn t w0 j ms wy fr) {n : Int} (e : (fsOf ks t)[j]? = some (some n)) (hm : n ∈ ms) : In ms wy (on w0 j) n := by
  rcases y.far with ⟨h, _⟩ | ⟨_, h⟩
  · exact y.done h e
  · exact In.of_lt hm (h n hm)
theorem Y3.next (y : Y3 rs ks ss dn0 i dn t w0 j ms wy fr) (h : ∀ n, (fsOf ks t)[j]? = some (some n) → In ms wy (on w0 j) n) : Y3 rs ks ss dn0 i dn t w0 (j + 1) ms wy fr := by
  refine ⟨y.q, y.tk, y.d0, y.di, y.ds, y.gr, y.at_, y.tm, y.wt, fun q n hq e => ?_, y.far.imp id fun z => ⟨z.1, fun t' h' => Lt.trans (z.2 t' h') (Lt.on_same _ (by omega))⟩⟩
  rcases Nat.lt_or_ge q j with z | z
  · exact y.now q n z e
  · have eq : q = j := by omega
    subst eq
    exact h n e
theorem Y3.put (y : Y3 rs ks ss dn0 i dn t w0 j ms wy fr) {n : Int} (e : (fsOf ks t)[j]? = some (some n)) (hn : n ∉ ms) (hl : Led rs ks (on w0 j) n) (hk : n ∈ keys ks) : Y3 rs ks ss dn0 i dn t w0 (j + 1) (ms ++ [n]) (ext wy n (on w0 j)) (ext fr n (some t, (j : Int))) := by
  rcases y.far with ⟨h, _⟩ | ⟨h, hlt⟩
  · exact absurd (y.done h e).1 hn
  · have hi := (List.getElem?_eq_some_iff.mp y.at_).1
    have lm : ss.length ≤ ms.length := by
      have := congrArg List.length y.tk
      rw [List.length_take] at this
      omega
    have tk' : (ms ++ [n]).take ss.length = ss := by rw [List.take_append_of_le_length lm]; exact y.tk
    have ne : t ≠ n := fun z => hn (by rw [← z]; exact y.tm)
    have hb := y.q.bf.len y.tm
    rw [y.wt] at hb
    refine ⟨y.q.put hn hlt hl (by rw [on_len]; exact hb) ⟨y.tm, by rw [y.wt]⟩ hk, tk', y.d0, y.di, y.ds, .inr (by have := y.d0; omega), y.at_, List.mem_append_left _ y.tm, by rw [ext_ne _ _ ne]; exact y.wt, fun q m hq z => ?_, .inr ⟨h, all_ext (p := fun c => Lt c (on w0 ((j + 1 : Nat) : Int))) hn (fun t' h' => Lt.trans (hlt t' h') (Lt.on_same _ (by omega))) (Lt.on_same _ (by omega))⟩⟩
    rcases Nat.lt_or_ge q j with g | g
    · exact (y.now q m g z).put hn _
    · have eq : q = j := by omega
      subst eq
      rw [e] at z
      cases z
      exact In.new _ _ _ _
theorem Y3.end_ (y : Y3 rs ks ss dn0 i dn t w0 (fsOf ks t).length ms wy fr) : ∃ dn', Y2 rs ks ss dn0 (i + 1) dn' ms wy fr := by
  rcases y.far with ⟨h, hl⟩ | ⟨h, hlt⟩
  · exact ⟨dn, y.q, hl, y.tk, y.d0, h, y.ds, y.gr⟩
  · subst h
    have hi := (List.getElem?_eq_some_iff.mp y.at_).1
    have lm : ss.length ≤ ms.length := by
      have := congrArg List.length y.tk
      rw [List.length_take] at this
      omega
    have e1 : ms[dn]? = some t := by
      have z1 := List.getElem?_take_of_lt (l := ms) hi
      rw [y.tk] at z1
      rw [← z1]
      exact y.at_
    have e2 : ss.take (dn + 1) = ss.take dn ++ [t] := by
      rw [List.take_succ_eq_append_getElem hi]
      have := y.at_
      rw [List.getElem?_eq_getElem hi] at this
      rw [Option.some.inj this]
    refine ⟨dn + 1, ⟨y.q.bf, y.q.rts, y.q.ins, fun x hx => ?_, fun x hx q n z => ?_⟩, fun t' h' s hs q => ?_, y.tk, Nat.le_succ_of_le y.d0, Nat.le_refl _, hi, y.gr⟩
    · rw [e2] at hx
      rcases List.mem_append.mp hx with g | g
      · exact y.q.psb x g
      · rw [List.mem_singleton.mp g]; exact y.tm
    · rw [e2] at hx
      rcases List.mem_append.mp hx with g | g
      · exact y.q.don x g q n z
      · rw [List.mem_singleton.mp g] at z ⊢
        rw [y.wt]
        exact y.now q n (List.getElem?_eq_some_iff.mp z).1 z
    · obtain ⟨m, hm, e⟩ := List.mem_iff_getElem.mp hs
      rw [List.getElem_drop] at e
      rw [List.length_drop] at hm
      have hlt2 : Lt w0 (wy s) := by
        have := List.pairwise_iff_getElem.mp y.q.bf.asc dn (dn + 1 + m) (by omega) (by omega) (by omega)
        rw [e] at this
        have e3 : ms[dn]'(by omega) = t := (List.getElem?_eq_some_iff.mp e1).2
        rw [e3, y.wt] at this
        exact this
      exact Lt.trans (hlt t' h') (hlt2.on _ _)
/-- a turn's beginning and its end -/
def Yk (rs : List (Option Int)) (ks : Fs) (k dn : Nat) (ms : List Int) (wy : Int → Wy) (fr : Int → Option Int × Int) : Prop := Wq rs ks ms wy fr (ms.take dn) ∧ Lts ms wy dn ∧ dn ≤ ms.length ∧ (dn = ms.length ∨ k < ms.length)
theorem Yk.go {k : Nat} (y : Yk rs ks k dn ms wy fr) : Y2 rs ks ms dn 0 dn ms wy fr := ⟨y.1, y.2.1, List.take_length, Nat.le_refl _, Nat.zero_le _, y.2.2.1, .inl rfl⟩
theorem Y2.end_ {k : Nat} (y : Y2 rs ks ss dn0 ss.length dn ms wy fr) (h0 : dn0 = ss.length ∨ k < ss.length) : Yk rs ks (k + 1) dn ms wy fr := by
  have e : dn = ss.length := Nat.le_antisymm y.ds y.di
  subst e
  have lm : ss.length ≤ ms.length := by
    have := congrArg List.length y.tk
    rw [List.length_take] at this
    omega
  have h1 := y.q
  rw [List.take_length] at h1
  refine ⟨by rw [y.tk]; exact h1, y.lt, lm, ?_⟩
  rcases Nat.lt_or_ge ss.length ms.length with z | z
  · rcases y.gr with g | g
    · omega
    · rcases h0 with h0 | h0
      · omega
      · exact .inr (by omega)
  · exact .inl (by omega)
end
theorem led_nil {rs : List (Option Int)} {ks : Fs} {w : Wy} {t : Int} (h : Led rs ks w t) (e : w.2.length = 0) : ∃ i : Nat, w = ((i : Int), []) ∧ rs[i]? = some (some t) := by
  cases h with
  | root h => exact ⟨_, rfl, h⟩
  | step _ _ _ => rw [on_len] at e; omega
end K17
end
section
set_option Elab.async false
set_option linter.all false
set_option maxRecDepth 100000
set_option maxHeartbeats 4000000
namespace K17
open PySem L2 LX HT
section
variable {P : Program} {w : World} {K : PySem.W.Frag} {mg : Str → Option Value} {base : Heap}
/-- _law_ways -/
def spWays (K : PySem.W.Frag) : Sp := fun vs H Q _ => ∃ (v r d : Addr) (o : Obj) (ad : Int → Addr) (rs : List (Option Int)) (ks : Fs), vs = [.ref v] ∧ SqT K H v [.ref r, .ref d] ∧ Vw H r d o ad rs ks ∧ Rt rs ks ∧
  ∀ (st : Addr) (ms : List Int) (ea pa : Int → Addr) (wy : Int → Wy) (fr : Int → Option Int × Int) (H' : Hp), Same H H' → H st = none → Wd H' st ms ea pa wy → ms.length ≤ ks.length → Bf rs ks ms wy fr → Cls rs ks ms wy → (∀ t ∈ ms, t ∈ keys ks) → Q (.ref st) H'
abbrev NY : List Str := ["view", "ways", "place", "thing", "turn", "far", "root", "places", "other", "way"]
theorem scY' : FnScope NY ["view"] (defScope sWays) := ⟨rfl, rfl, rfl, by decide +kernel, rfl, by decide +kernel, by decide +kernel⟩
theorem ok_ways {f : Addr} {fd : FuncData} (F : Fun K "_law_ways" "_law_ways" sWays f fd) (zl : mg "list" = none) (ze : mg "enumerate" = none) (zn : mg "len" = none) (zr : mg "range" = none) : FnOk P w K mg base (CXE P w) 1 f fd ["view"] (spWays K) := by
  refine F.okE scY' (fun vs H Q E h => ?_) (fun cdv A outer s H vs Q E hr h => ?_)
  · obtain ⟨v, r, d, o, ad, rs, ks, rfl, _⟩ := h
    rfl
  · obtain ⟨v, r, d, o, ad, rs, ks, rfl, ht, hv, rt, k⟩ := h
    have hu := hu_of hr
    refine ⟨_, PSs.nox (pss_cons (ps_set (i := 1) scY'.nd rfl (Or.inl rfl) pe_dnewK)
      (pss_cons (ps_for PassesOwn.never rfl (pi_enum rfl ze (pa_cons (pe_ix ix_tup (pv 0) pe_int (fun _ _ => rfl)) pa_nil)) (pg_tup rfl (pgs_cons (pg_name (i := 2) scY'.nd rfl (Or.inl rfl)) (pgs_cons (pg_name (i := 3) scY'.nd rfl (Or.inl rfl)) pgs_nil)))
        (pss_one (ps_if (PW.pt (pw_and (pt_cmpR op_notN (pv 3) pe_non (nomark _)) (pw_and1 (PW.pt (pw_or (pt_cmp (pc_dnotin hu (pv 3) (pv 1)) (by with_unfolding_all rfl)) (pw_or1 (pt_cmpR (op_ltW hu) (pe_tup (pa_cons pe_int (pa_cons (pv 2) (pa_cons (pe_tup pa_nil) pa_nil)))) (pe_dget hu (pv 1) (pv 3) (fun _ _ => rfl)) (nomark _)))))))) (pss_one (ps_dput hu (pv 1) (pv 3) (pe_tup (pa_cons pe_int (pa_cons (pv 2) (pa_cons (pe_tup pa_nil) pa_nil)))) rfl)) pss_nil)))
      (pss_cons (ps_for PassesOwn.never rfl (pi_range1 rfl zr (pa_cons (pe_callB call_lenR rfl zn PyProof.Rows.Boot.«len» (pa_cons (pe_ix ix_tup (pv 0) pe_int (fun _ _ => rfl)) pa_nil)) pa_nil)) (pg_name (i := 4) scY'.nd rfl (Or.inl rfl))
        (pss_one (ps_for PassesOwn.never rfl (pi_list (pe_callTy (call_listR rfl) rfl zl PyProof.Rows.Boot.«list» (pa_cons (pv 1) pa_nil))) (pg_name (i := 3) scY'.nd rfl (Or.inl rfl))
          (pss_cons (ps_asg (pe_dget hu (pv 1) (pv 3) (fun _ _ => rfl)) (pg_tup rfl (pgs_cons (pg_name (i := 5) scY'.nd rfl (Or.inl rfl)) (pgs_cons (pg_name (i := 6) scY'.nd rfl (Or.inl rfl)) (pgs_cons (pg_name (i := 7) scY'.nd rfl (Or.inl rfl)) pgs_nil)))))
          (pss_one (ps_for PassesOwn.never rfl (pi_enum rfl ze (pa_cons (pe_dget hu (pe_ix ix_tup (pv 0) pe_int (fun _ _ => rfl)) (pv 3) (fun _ _ => rfl)) pa_nil)) (pg_tup rfl (pgs_cons (pg_name (i := 2) scY'.nd rfl (Or.inl rfl)) (pgs_cons (pg_name (i := 8) scY'.nd rfl (Or.inl rfl)) pgs_nil)))
            (pss_cons (ps_set (i := 9) scY'.nd rfl (Or.inl rfl) (pe_tup (pa_cons (pe_op op_add (pv 5) pe_int) (pa_cons (pv 6) (pa_cons (pe_op op_catN (pv 7) (pe_tup (pa_cons (pv 2) pa_nil))) pa_nil)))))
            (pss_one (ps_if (PW.pt (pw_and (pt_cmpR op_notN (pv 8) pe_non (nomark _)) (pw_and1 (PW.pt (pw_or (pt_cmp (pc_dnotin hu (pv 8) (pv 1)) (by with_unfolding_all rfl)) (pw_or1 (pt_cmpR (op_ltW hu) (pv 9) (pe_dget hu (pv 1) (pv 8) (fun _ _ => rfl)) (nomark _)))))))) (pss_one (ps_dput hu (pv 1) (pv 8) (pv 9) rfl)) pss_nil)))))))))
      (pss_one (ps_ret (pv 1)))))), ?_⟩
    refine fun st hst => ?_
    have s0 : Same H (upd H st (.dK [])) := Same.upd hst
    have hr0 := s0 _ _ hv.hr
    have kl := rt.kl
    have rl := rt.rl
    have mem_len : ∀ {ms : List Int}, ms.Nodup → (∀ m ∈ ms, m ∈ keys ks) → ms.length ≤ ks.length := fun nd h => by
      have := nodup_len nd h
      have kk : (keys ks).length = ks.length := List.length_map _
      omega
    refine ⟨_, rfl, v, _, 0, .ref r, rfl, rfl, sqT_same ht s0, rfl, r, rfl, ⟨_, SqL.of hr0⟩, for_enum (K := K) (a := r) (xs := rs.map oV) (fun i σ H2 => ∃ (v2 v3 : Option V) (ms : List Int) (ea pa : Int → Addr) (wy : Int → Wy) (fr : Int → Option Int × Int), σ = [some (.ref v), some (.ref st), v2, v3, none, none, none, none, none, none] ∧ Same H H2 ∧ Wd H2 st ms ea pa wy ∧ Bf rs ks ms wy fr ∧ (∀ m ∈ ms, m ∈ keys ks) ∧ (∀ t ∈ ms, Lt (wy t) ((i : Int), [])) ∧ ∀ (j : Nat) t, j < i → rs[j]? = some (some t) → In ms wy ((j : Int), []) t)
      ⟨none, none, [], (fun _ => 0), (fun _ => 0), (fun _ => (0, [])), (fun _ => (none, 0)), rfl, s0, ⟨upd_same, List.nodup_nil, (fun t h => nomatch h), (fun t h => nomatch h)⟩, ⟨.nil, (fun t h => nomatch h), (fun i h => absurd h (Nat.not_lt_zero _)), (fun t h => nomatch h)⟩, (fun t h => nomatch h), (fun t h => nomatch h), (fun j t h => absurd h (Nat.not_lt_zero _))⟩ (fun i σ H2 _ ⟨_, _, _, _, _, _, _, _, s2, _⟩ => SqL.of (s2 _ _ hv.hr)) ?_ ?_⟩
    · rintro i x σ H2 t hx ⟨v2, v3, ms, ea, pa, wy, fr, rfl, s2, M, B, hsub, hlt, hall⟩ htt
      have hi : i < rs.length := by have := (List.getElem?_eq_some_iff.mp hx).1; rwa [List.length_map] at this
      have ri : rs[i]? = some rs[i] := List.getElem?_eq_getElem hi
      have hxe : x = oV rs[i] := by
        rw [List.getElem?_map, ri] at hx
        exact (Option.some.inj hx).symm
      subst hxe
      have s3 : Same H2 (upd H2 t (.tup [.int (i : Int), oV rs[i]])) := Same.upd htt
      have M3 := M.same s3
      have ml := mem_len M.nd hsub
      have up : ∀ t ∈ ms, Lt (wy t) (((i + 1 : Nat) : Int), []) := fun t h => Lt.trans (hlt t h) (Lt.root (by omega))
      refine ⟨t, _, rfl, SqT.of upd_same, rfl, _, _, rfl, _, _, rfl, rfl, ?_⟩
      cases hc : rs[i] with
      | none =>
        rw [hc] at s3 M3 ri
        refine ⟨_, rfl, rfl, _, rfl, iteF (iteF ⟨_, _, ms, ea, pa, wy, fr, rfl, s2.trans s3, M3, B, hsub, up, fun j t hj e => ?_⟩)⟩
        rcases Nat.lt_or_ge j i with z | z
        · exact hall j t z e
        · rw [show j = i by omega, ri] at e
          cases e
      | some n =>
        rw [hc] at s3 M3 ri
        have hk : n ∈ keys ks := rt.ri n (List.mem_of_getElem? ri)
        refine ⟨_, rfl, rfl, _, rfl, iteT ⟨_, rfl, _, rfl, st, _, rfl, DGet.k (k := Sum.inl n) M3.hs, _, rfl, ?_⟩⟩
        rw [Sd.val]
        by_cases hin : n ∈ ms
        · rw [if_pos hin]
          refine iteF ⟨_, rfl, by show 0 ≤ sizeLine; decide, fun p0 hp0 => ⟨by show 3 ≤ sizeLine; decide, fun u0 hu0 => ?_⟩⟩
          have z1 := Same.upd (o := .tup []) hp0
          have z2 := Same.upd (o := .tup [V.int 0, V.int (i : Int), V.ref p0]) hu0
          have M4 := (M3.same z1).same z2
          refine ⟨_, rfl, _, rfl, st, _, rfl, M4.get hin, u0, ea n, p0, pa n, 0, (i : Int), ((wy n).2.length : Int), (wy n).1, [], (wy n).2, rfl, rfl, SqT.of upd_same, SqT.of (M4.he n hin), SqT.of (z2 _ _ upd_same), SqT.of (M4.hp n hin), fun e => (by have e' : (0 : Int) = ((wy n).2.length : Int) := e; show 0 = _; omega), _, rfl, ite2 (fun h => ?_) (fun h => ?_)⟩
          · have hlt' : Lt ((i : Int), []) (wy n) := h
            exact absurd (Lt.trans hlt' (hlt n hin)) (Lt.irr _)
          · refine ⟨_, _, ms, ea, pa, wy, fr, rfl, (s2.trans s3).trans (z1.trans z2), M4, B, hsub, up, fun j t hj e => ?_⟩
            rcases Nat.lt_or_ge j i with z | z
            · exact hall j t z e
            · have ej : j = i := by omega
              subst ej
              rw [ri] at e
              cases e
              exact In.of_lt hin (hlt n hin)
        · rw [if_neg hin]
          refine iteT (iteT ⟨_, rfl, by show 0 ≤ sizeLine; decide, fun p hp => ⟨by show 3 ≤ sizeLine; decide, fun u hu' => ?_⟩⟩)
          have z1 := Same.upd (o := .tup []) hp
          have z2 := Same.upd (o := .tup [V.int 0, V.int (i : Int), V.ref p]) hu'
          obtain ⟨H', pd, M', k'⟩ := ((M3.same z1).same z2).putN hin (u := u) (p := p) (c := ((i : Int), [])) upd_same (z2 _ _ upd_same) (by omega)
          refine ⟨_, rfl, _, rfl, st, _, rfl, pd, _, _, ms ++ [n], _, _, _, ext fr n (none, (i : Int)), rfl, fun c u' g => k' _ _ (ne_of_none g hst) (z2 _ _ (z1 _ _ (s3 _ _ (s2 c u' g)))), M', B.put hin hlt (.root ri) (Nat.zero_le _) rfl, fun m h => ?_, all_ext (p := fun c => Lt c (((i + 1 : Nat) : Int), [])) hin up (Lt.root (by omega)), fun j t hj e => ?_⟩
          · rcases List.mem_append.mp h with g | g
            · exact hsub m g
            · rw [List.mem_singleton.mp g]; exact hk
          · rcases Nat.lt_or_ge j i with z | z
            · exact (hall j t z e).put hin _
            · have ej : j = i := by omega
              subst ej
              rw [ri] at e
              cases e
              exact In.new _ _ _ _
    · rintro σ H2 ⟨v2, v3, ms, ea, pa, wy, fr, rfl, s2, M, B, hsub, hlt, hall⟩
      have el : (kvl ad ks).length = ks.length := by unfold kvl; rw [List.length_map]
      have en : (((kvl ad ks).length : Int).toNat) = ks.length := by rw [el]; omega
      have yk0 : Yk rs ks 0 0 ms wy fr := by
        refine ⟨⟨B, fun i t h => hall i t (by rw [List.length_map]; exact (List.getElem?_eq_some_iff.mp h).1) h, hsub, (fun t h => nomatch h), (fun t h => nomatch h)⟩, fun t h s _ q => Lt.of_len (by have := (hlt t h).len; rw [on_len]; exact Nat.lt_succ_of_le (Nat.le_trans this (Nat.zero_le _))), Nat.zero_le _, ?_⟩
        rcases Nat.eq_zero_or_pos ms.length with z | z
        · exact .inl z.symm
        · exact .inr z
      refine ⟨_, rfl, v, _, 1, .ref d, rfl, rfl, sqT_same ht s2, rfl, d, _, rfl, rd_vw (hv.same s2), _, rfl, by rw [el]; omega, by rw [el]; omega, ?_⟩
      refine for_range (lo := 0) (fun k σ H2 => ∃ (v2 v3 v4 v5 v6 v7 v8 v9 : Option V) (dn : Nat) (ms : List Int) (ea pa : Int → Addr) (wy : Int → Wy) (fr : Int → Option Int × Int), σ = [some (.ref v), some (.ref st), v2, v3, v4, v5, v6, v7, v8, v9] ∧ Same H H2 ∧ Wd H2 st ms ea pa wy ∧ Yk rs ks k dn ms wy fr)
        ⟨v2, v3, none, none, none, none, none, none, 0, ms, ea, pa, wy, fr, rfl, s2, M, yk0⟩ ?_ ?_
      · clear M B hsub hlt hall yk0 s2
        rintro n σ H2 hn ⟨v2, v3, v4, v5, v6, v7, v8, v9, dn0, ss, ea, pa, wy, fr, rfl, s2, M, Y⟩
        have ssl := mem_len M.nd Y.1.ins
        refine ⟨_, rfl, st, _, ss, rfl, .inl M.hs, by rw [List.map_map]; rfl, fun q hq => ?_⟩
        have s3 := Same.upd (o := .lst (ss.map V.int)) hq
        refine ⟨q, rfl, ⟨_, SqL.of upd_same⟩, for_list (K := K) (a := q) (xs := ss.map V.int) (fun i σ Hx => ∃ (v2 v3 v5 v6 v7 v8 v9 : Option V) (dn : Nat) (ms : List Int) (ea pa : Int → Addr) (wy : Int → Wy) (fr : Int → Option Int × Int), σ = [some (.ref v), some (.ref st), v2, v3, some (.int (0 + (n : Int))), v5, v6, v7, v8, v9] ∧ Same H Hx ∧ Hx q = some (.lst (ss.map V.int)) ∧ Wd Hx st ms ea pa wy ∧ Y2 rs ks ss dn0 i dn ms wy fr)
          ⟨v2, v3, v5, v6, v7, v8, v9, dn0, ss, ea, pa, wy, fr, rfl, s2.trans s3, upd_same, M.same s3, Y.go⟩ (fun i σ Hx _ ⟨_, _, _, _, _, _, _, _, _, _, _, _, _, _, _, z, _⟩ => SqL.of z) ?_ ?_⟩
        · clear M s2 s3
          rintro i x σ Hx hx ⟨v2, v3, v5, v6, v7, v8, v9, dn, ms, ea, pa, wy, fr, rfl, sx, zq, M, Z⟩
          have hi : i < ss.length := by have := (List.getElem?_eq_some_iff.mp hx).1; rwa [List.length_map] at this
          have hxe : x = .int ss[i] := by
            rw [List.getElem?_map, List.getElem?_eq_getElem hi] at hx
            exact (Option.some.inj hx).symm
          subst hxe
          obtain ⟨t, et⟩ : ∃ t, ss[i] = t := ⟨_, rfl⟩
          have et' : ss[i]? = some t := by rw [List.getElem?_eq_getElem hi, et]
          rw [et]
          have T := Z.go et'
          have hsm : t ∈ ms := T.tm
          have hin : t ∈ keys ks := T.q.ins t hsm
          obtain ⟨p, hp, ep⟩ := List.mem_map.mp hin
          have efs : fsOf ks t = p.2 := by rw [← ep]; exact fsOf_mem rt.nd hp
          obtain ⟨f1, f2, f3⟩ := fs_at (hv.same sx) rt hin
          have he := M.he t hsm
          have hp0 := M.hp t hsm
          have hl0 := T.q.bf.snd t hsm
          have hb0 := T.q.bf.len hsm
          have ml0 := mem_len M.nd T.q.ins
          obtain ⟨w0, ew0⟩ : ∃ w0, wy t = w0 := ⟨_, rfl⟩
          rw [ew0] at he hp0 hl0 hb0 T
          obtain ⟨pl, epl⟩ : ∃ pl, pa t = pl := ⟨_, rfl⟩
          rw [epl] at he hp0
          refine ⟨_, rfl, _, rfl, st, _, rfl, M.get hsm, ea t, _, rfl, SqT.of he, rfl, _, _, rfl, _, _, rfl, _, _, rfl, rfl, ?_⟩
          refine ⟨_, rfl, v, _, 1, .ref d, rfl, rfl, sqT_same ht sx, rfl, _, rfl, d, _, rfl, dget_in (hv.same sx).hd hin, ad t, rfl, ⟨_, SqL.of f1⟩, for_enum (K := K) (a := ad t) (xs := (fsOf ks t).map oV) (fun j σ Hy => ∃ (v2 v8 v9 : Option V) (ms : List Int) (ea pa : Int → Addr) (wy : Int → Wy) (fr : Int → Option Int × Int), σ = [some (.ref v), some (.ref st), v2, some (.int t), some (.int (0 + (n : Int))), some (.int (w0.2.length : Int)), some (.int w0.1), some (.ref pl), v8, v9] ∧ Same H Hy ∧ Hy q = some (.lst (ss.map V.int)) ∧ Hy pl = some (.tup (w0.2.map V.int)) ∧ Wd Hy st ms ea pa wy ∧ Y3 rs ks ss dn0 i dn t w0 j ms wy fr)
            ⟨v2, v8, v9, ms, ea, pa, wy, fr, rfl, sx, zq, hp0, M, T⟩ (fun j σ Hy _ ⟨_, _, _, _, _, _, _, _, _, sm, _⟩ => SqL.of (fs_at (hv.same sm) rt hin).1) ?_ ?_⟩
          · clear M T Z zq sx f1 he hp0 hsm
            rintro j x σ Hy u hx ⟨v2, v8, v9, ms, ea, pa, wy, fr, rfl, sm, zq, zp, M, T⟩ hut
            have hlj : j < (fsOf ks t).length := by have := (List.getElem?_eq_some_iff.mp hx).1; rwa [List.length_map] at this
            have fj : (fsOf ks t)[j]? = some (fsOf ks t)[j] := List.getElem?_eq_getElem hlj
            have hxe : x = oV (fsOf ks t)[j] := by
              rw [List.getElem?_map, fj] at hx
              exact (Option.some.inj hx).symm
            subst hxe
            have z1 := Same.upd (o := .tup [.int (j : Int), oV (fsOf ks t)[j]]) hut
            have efar : ((on w0 (j : Int)).2.length : Int) = (w0.2.length : Int) + 1 := by rw [on_len]; omega
            refine ⟨u, _, rfl, SqT.of upd_same, rfl, _, _, rfl, _, _, rfl, rfl, ?_⟩
            refine ⟨_, rfl, _, 1, rfl, rfl, _, rfl, _, rfl, _, rfl, by show 1 ≤ sizeLine; decide, fun p1 hp1 => ⟨pl, p1, _, _, rfl, rfl, SqT.of (Same.upd hp1 _ _ (z1 _ _ zp)), upd_same, (by intro z; cases z), Nat.le_trans (show (w0.2.map V.int).length + 1 ≤ 200 by rw [List.length_map]; omega) (by decide), fun p2 Hz sz zp2 => ⟨by show 3 ≤ sizeLine; decide, fun wa hwa => ?_⟩⟩⟩
            have zz := (z1.trans (Same.upd (o := .tup [.int (j : Int)]) hp1)).trans sz
            have z2 := Same.upd (o := .tup [V.int ((w0.2.length : Int) + 1), V.int w0.1, V.ref p2]) hwa
            have sm2 := sm.trans (zz.trans z2)
            have zq2 := (zz.trans z2) _ _ zq
            have zpl2 := (zz.trans z2) _ _ zp
            have M2 := M.same (zz.trans z2)
            have zwa : upd Hz wa (.tup [V.int ((w0.2.length : Int) + 1), V.int w0.1, V.ref p2]) wa = some (.tup [.int ((on w0 (j : Int)).2.length : Int), .int (on w0 (j : Int)).1, .ref p2]) := by rw [efar]; exact upd_same
            have zp3 : upd Hz wa (.tup [V.int ((w0.2.length : Int) + 1), V.int w0.1, V.ref p2]) p2 = some (.tup ((on w0 (j : Int)).2.map V.int)) := by
              refine (z2 _ _ zp2).trans ?_
              show _ = some (HO.tup ((w0.2 ++ [(j : Int)]).map V.int))
              rw [List.map_append]
              rfl
            obtain ⟨HW, eHW⟩ : ∃ HW, upd Hz wa (.tup [V.int ((w0.2.length : Int) + 1), V.int w0.1, V.ref p2]) = HW := ⟨_, rfl⟩
            show gName 9 (V.ref wa) _ (upd Hz wa (.tup [V.int ((w0.2.length : Int) + 1), V.int w0.1, V.ref p2])) _
            rw [eHW] at sm2 zq2 zpl2 M2 zwa zp3 ⊢
            have ml := mem_len M2.nd T.q.ins
            cases hc : (fsOf ks t)[j] with
            | none =>
              rw [hc] at fj
              exact ⟨_, rfl, rfl, _, rfl, iteF (iteF ⟨_, _, _, ms, ea, pa, wy, fr, rfl, sm2, zq2, zpl2, M2, T.next fun m e => by rw [fj] at e; cases e⟩)⟩
            | some c =>
              rw [hc] at fj
              have hk : c ∈ keys ks := f3 c (List.mem_of_getElem? fj)
              have hl : Led rs ks (on w0 (j : Int)) c := .step (p := p) (by rw [ep]; exact hl0) hp (by rw [← efs]; exact fj)
              refine ⟨_, rfl, rfl, _, rfl, iteT ⟨_, rfl, _, rfl, st, _, rfl, DGet.k (k := Sum.inl c) M2.hs, _, rfl, ?_⟩⟩
              rw [Sd.val]
              by_cases hin6 : c ∈ ms
              · rw [if_pos hin6]
                have hno := T.in_ fj hin6
                refine iteF ⟨_, rfl, _, rfl, _, rfl, st, _, rfl, M2.get hin6, wa, ea c, p2, pa c, (w0.2.length : Int) + 1, w0.1, ((wy c).2.length : Int), (wy c).1, (on w0 (j : Int)).2, (wy c).2, rfl, rfl, SqT.of (by rw [← efar]; exact zwa), SqT.of (M2.he c hin6), SqT.of zp3, SqT.of (M2.hp c hin6), fun e => (by rw [← efar] at e; omega), _, rfl, ite2 (fun h => ?_) (fun h => ?_)⟩
                · have hlt : Lt (on w0 (j : Int)) (wy c) := by
                    have h' : lexLt (((w0.2.length : Int) + 1) :: w0.1 :: (on w0 (j : Int)).2) (key (wy c)) = true := h
                    rw [← efar] at h'
                    exact h'
                  exact absurd hlt hno.2
                · refine ⟨_, _, _, ms, ea, pa, wy, fr, rfl, sm2, zq2, zpl2, M2, T.next fun m e => ?_⟩
                  rw [fj] at e
                  cases e
                  exact hno
              · rw [if_neg hin6]
                obtain ⟨H', pd, M', k'⟩ := M2.putN hin6 zwa zp3 (by omega)
                exact iteT (iteT ⟨_, rfl, _, rfl, _, rfl, st, _, rfl, pd, _, _, _, ms ++ [c], _, _, _, _, rfl, fun c u' g => k' _ _ (ne_of_none g hst) (sm2 c u' g), k' _ _ (ne_of zq2 M2.hs (by intro z; cases z)) zq2, k' _ _ (ne_of zpl2 M2.hs (by intro z; cases z)) zpl2, M', T.put fj hin6 hl hk⟩)
          · rintro σ Hy ⟨v2, v8, v9, ms', ea', pa', wy', fr', rfl, sm, zq, zp, M', T'⟩
            rw [List.length_map] at T'
            obtain ⟨dn', Z'⟩ := T'.end_
            exact ⟨_, _, _, _, _, _, _, dn', ms', ea', pa', wy', fr', rfl, sm, zq, M', Z'⟩
        · clear M s2 s3
          rintro σ Hx ⟨v2, v3, v5, v6, v7, v8, v9, dn, ms, ea, pa, wy, fr, rfl, sx, zq, M, Z⟩
          rw [List.length_map] at Z
          exact ⟨_, _, _, _, _, _, _, _, dn, ms, ea, pa, wy, fr, rfl, sx, M, Z.end_ Y.2.2.2⟩
      · rintro σ H3 ⟨v2, v3, v4, v5, v6, v7, v8, v9, dn, ms, ea, pa, wy, fr, rfl, s3, M, Y⟩
        rw [en] at Y
        have ml := mem_len M.nd Y.1.ins
        have e : dn = ms.length := Y.2.2.2.resolve_right (by omega)
        have W := Y.1
        rw [e, List.take_length] at W
        exact ⟨_, rfl, k st ms ea pa wy fr H3 s3 hst M ml W.bf (W.cls rt.nd) W.ins⟩
end
end K17
end
section
set_option Elab.async false
set_option linter.all false
set_option maxRecDepth 100000
set_option maxHeartbeats 4000000
namespace K17
open PySem L2 LX HT
section
variable {P : Program} {w : World} {K : PySem.W.Frag} {mg : Str → Option Value} {base : Heap}
/-- a paper in the store -/
structure Pap (H : Hp) (l : Addr) (xs : List Addr) (tr : Addr → Tr) : Prop where
  hl : H l = some (.lst (xs.map V.ref))
  hx : ∀ x ∈ xs, H x = some (.tup (trV (tr x)))
def setTr (tr : Addr → Tr) (u : Addr) (t : Tr) : Addr → Tr := fun y => if y = u then t else tr y
theorem Pap.same {H H' : Hp} {l : Addr} {xs : List Addr} {tr : Addr → Tr} (p : Pap H l xs tr) (s : Same H H') : Pap H' l xs tr := ⟨s _ _ p.hl, fun x h => s _ _ (p.hx x h)⟩
theorem set_map {xs : List Addr} {tr : Addr → Tr} {u : Addr} {t : Tr} (h : u ∉ xs) : xs.map (setTr tr u t) = xs.map tr := List.map_congr_left fun x hx => if_neg fun z => h (by rw [← z]; exact hx)
theorem Pap.add {H : Hp} {l : Addr} {xs : List Addr} {tr : Addr → Tr} (p : Pap H l xs tr) {u : Addr} (hu : H u = none) (t : Tr) : Pap (upd (upd H u (.tup (trV t))) l (.lst (xs.map V.ref ++ [V.ref u]))) l (xs ++ [u]) (setTr tr u t) ∧ (xs ++ [u]).map (setTr tr u t) = xs.map tr ++ [t] := by
  have hn : u ∉ xs := fun h => by have := p.hx u h; rw [hu] at this; cases this
  have e : setTr tr u t u = t := if_pos rfl
  refine ⟨⟨by rw [upd_same, List.map_append]; rfl, fun x h => ?_⟩, by rw [List.map_append, set_map hn, List.map_singleton, e]⟩
  rcases List.mem_append.mp h with g | g
  · have hx := p.hx x g
    rw [upd_ne (ne_of hx p.hl (by intro z; cases z)), show setTr tr u t x = tr x from if_neg fun z => hn (by rw [← z]; exact g)]
    exact Same.upd hu _ _ hx
  · rw [List.mem_singleton.mp g, e]
    have nl : u ≠ l := fun z => by rw [z, p.hl] at hu; cases hu
    rw [upd_ne nl, upd_same]
/-! ### a way as a key -/
def wk (c : Wy) : WK := ((c.2.length : Int), c.1, c.2)
theorem wk_inj {a b : Wy} (h : wk a = wk b) : a = b := Prod.ext (congrArg (fun z => z.2.1) h) (congrArg (fun z => z.2.2) h)
theorem wk_lt (a b : Wy) : kLt (wk a) (wk b) = lexLt (key a) (key b) := rfl
theorem not_back {a b : Wy} (h : Lt a b) : kLt (wk b) (wk a) = false := by
  rw [wk_lt]
  cases e : lexLt (key b) (key a) with
  | false => rfl
  | true => exact absurd (Lt.trans h e) (Lt.irr _)
def kw (ea : Int → Addr) (wy : Int → Wy) (ms : List Int) : List WE := ms.map fun t => (wk (wy t), ea t, V.int t)
theorem kw_snoc (ea : Int → Addr) (wy : Int → Wy) (ms : List Int) (t : Int) : kw ea wy (ms ++ [t]) = kw ea wy ms ++ [(wk (wy t), ea t, V.int t)] := by
  unfold kw
  rw [List.map_append]
  rfl
theorem kw_mem {ea : Int → Addr} {wy : Int → Wy} {ms : List Int} {t : Int} (h : t ∈ ms) : (wk (wy t), ea t, V.int t) ∈ kw ea wy ms := List.mem_map.mpr ⟨t, h, rfl⟩
theorem kw_len (ea : Int → Addr) (wy : Int → Wy) (ms : List Int) : (kw ea wy ms).length = ms.length := List.length_map _
/-- the tuples of the ways stand -/
def Tups (H : Hp) (ms : List Int) (ea pa : Int → Addr) (wy : Int → Wy) : Prop := ∀ t ∈ ms, H (ea t) = some (.tup [.int ((wy t).2.length : Int), .int (wy t).1, .ref (pa t)]) ∧ H (pa t) = some (.tup ((wy t).2.map V.int))
theorem Tups.same {H H' : Hp} {ms : List Int} {ea pa : Int → Addr} {wy : Int → Wy} (x : Tups H ms ea pa wy) (s : Same H H') : Tups H' ms ea pa wy := fun t h => ⟨s _ _ (x t h).1, s _ _ (x t h).2⟩
theorem Tups.but {H : Hp} {a : Addr} {o o' : HO} {ms : List Int} {ea pa : Int → Addr} {wy : Int → Wy} (x : Tups H ms ea pa wy) (e : H a = some o) (hn : ∀ xs, o ≠ .tup xs) : Tups (upd H a o') ms ea pa wy := fun t h =>
  ⟨(upd_ne (ne_of (x t h).1 e (fun z => hn _ z.symm))).trans (x t h).1, (upd_ne (ne_of (x t h).2 e (fun z => hn _ z.symm))).trans (x t h).2⟩
theorem Tups.ways {H : Hp} {ms ns : List Int} {ea pa : Int → Addr} {wy : Int → Wy} (x : Tups H ms ea pa wy) (hs : ∀ t ∈ ns, t ∈ ms) : ∀ e ∈ kw ea wy ns, WayAt K H e.2.1 e.1 := fun e he => by
  obtain ⟨t, ht, rfl⟩ := List.mem_map.mp he
  exact ⟨pa t, SqT.of (x t (hs t ht)).1, SqT.of (x t (hs t ht)).2⟩
/-- the triples that are due -/
def tsF (fr : Int → Option Int × Int) (ms : List Int) : List Tr := ms.map fun t => (some t, (fr t).1, some (fr t).2)
theorem tsF_snoc (fr : Int → Option Int × Int) (ms : List Int) (t : Int) : tsF fr (ms ++ [t]) = tsF fr ms ++ [(some t, (fr t).1, some (fr t).2)] := by
  unfold tsF
  rw [List.map_append]
  rfl
theorem last_on (c : Wy) (q : Int) : atI ((on c q).2.map V.int) (-1) = some (V.int q) := by
  show atI ((c.2 ++ [q]).map V.int) (-1) = _
  unfold atI ixN
  have e : ((c.2 ++ [q]).map V.int).length = c.2.length + 1 := by rw [List.length_map, List.length_append, List.length_singleton]
  rw [e, if_neg (by omega), if_pos (by omega)]
  show ((c.2 ++ [q]).map V.int)[(-1 + ((c.2.length + 1 : Nat) : Int)).toNat]? = _
  rw [show (-1 + ((c.2.length + 1 : Nat) : Int)).toNat = c.2.length by omega, List.getElem?_map, List.getElem?_append_right (Nat.le_refl _), Nat.sub_self]
  rfl
theorem cut_on (c : Wy) (q : Int) : cutV ((on c q).2.map V.int) none (some (-1)) = c.2.map V.int ∧ ¬ (HT.sIx ((on c q).2.map V.int).length 0 none = 0 ∧ HT.sIx ((on c q).2.map V.int).length ((on c q).2.map V.int).length (some (-1)) = ((on c q).2.map V.int).length) := by
  have e : ((on c q).2.map V.int).length = c.2.length + 1 := by rw [List.length_map, on_len]
  have e2 : HT.sIx (c.2.length + 1) (c.2.length + 1) (some (-1)) = c.2.length := by
    show (if (-1 : Int) < 0 then ((-1 : Int) + ((c.2.length + 1 : Nat) : Int)).toNat else min (-1 : Int).toNat (c.2.length + 1)) = _
    rw [if_pos (by omega)]
    omega
  refine ⟨?_, ?_⟩
  · unfold cutV
    rw [e, e2, HT.sIx_none]
    show ((((c.2 ++ [q]).map V.int).drop 0).take (c.2.length - 0)) = _
    rw [List.drop_zero, Nat.sub_zero, List.map_append, List.take_left' (List.length_map _)]
  · rw [e, e2]
    omega
theorem hu2_of {A : Around} {k : Nat} (hr : Room k A) : A.units + 2 < cLine := Nat.lt_of_le_of_lt (Nat.add_le_add_left (by decide : 2 ≤ 64) _) hr.units
/-- _law_due -/
def spDue (K : PySem.W.Frag) : Sp := fun vs H Q _ => ∃ (v r d : Addr) (o : Obj) (ad : Int → Addr) (rs : List (Option Int)) (ks : Fs), vs = [.ref v] ∧ SqT K H v [.ref r, .ref d] ∧ Vw H r d o ad rs ks ∧ Rt rs ks ∧
  ∀ (l : Addr) (xs : List Addr) (tr : Addr → Tr) (ms : List Int) (wy : Int → Wy) (fr : Int → Option Int × Int) (H' : Hp), Same H H' → H l = none → Pap H' l xs tr → xs.map tr = tsF fr ms → Bf rs ks ms wy fr → Cls rs ks ms wy → Q (.ref l) H'
abbrev NDu : List Str := ["view", "ways", "by_way", "thing", "due", "far", "root", "places"]
theorem scDu : FnScope NDu ["view"] (defScope sDue) := ⟨rfl, rfl, rfl, by decide +kernel, rfl, by decide +kernel, by decide +kernel⟩
theorem ok_due {f fW : Addr} {fd fdW : FuncData} (F : Fun K "_law_due" "_law_due" sDue f fd) (zs : mg "sorted" = none)
    (GW : FnOk P w K mg base (CXE P w) 1 fW fdW ["view"] (spWays K)) (mW : mg "_law_ways" = some (.ref fW)) (kW : PySem.W.keepIn K (.ref fW) = true) (bW : Binds K fdW ["view"] []) : FnOk P w K mg base (CXE P w) 2 f fd ["view"] (spDue K) := by
  refine F.okE scDu (fun vs H Q E h => ?_) (fun cdv A outer s H vs Q E hr h => ?_)
  · obtain ⟨v, r, d, o, ad, rs, ks, rfl, _⟩ := h
    rfl
  · obtain ⟨v, r, d, o, ad, rs, ks, rfl, ht, hv, rt, k⟩ := h
    have hu := hu_of hr
    have hu2 := hu2_of hr
    refine ⟨_, PSs.nox (pss_cons (ps_set (i := 1) scDu.nd rfl (Or.inl rfl) (xe_call GW hr rfl mW kW bW .nil passN (pa_cons (pv 0) pa_nil)))
      (pss_cons (ps_set (i := 2) scDu.nd rfl (Or.inl rfl) (show PE _ _ (tDNewW P w) from pe_dnewW))
      (pss_cons (ps_for PassesOwn.never rfl (pi_dict (pe_frz (pv 1))) (pg_name (i := 3) scDu.nd rfl (Or.inl rfl))
        (pss_one (ps_wput hu2 (pv 2) (pe_dget hu (pv 1) (pv 3) (fun _ _ => rfl)) (pv 3) rfl)))
      (pss_cons (ps_set (i := 4) scDu.nd rfl (Or.inl rfl) (pe_lst pa_nil))
      (pss_cons (ps_for PassesOwn.never rfl (pi_list (pe_callB (call_sortedW rfl hu2) rfl zs PyProof.Rows.Boot.«sorted» (pa_cons (pv 2) pa_nil))) (pg_tup rfl (pgs_cons (pg_name (i := 5) scDu.nd rfl (Or.inl rfl)) (pgs_cons (pg_name (i := 6) scDu.nd rfl (Or.inl rfl)) (pgs_cons (pg_name (i := 7) scDu.nd rfl (Or.inl rfl)) pgs_nil))))
        (pss_cons (ps_set (i := 3) scDu.nd rfl (Or.inl rfl) (pe_wget hu2 (pv 2) (pe_tup (pa_cons (pv 5) (pa_cons (pv 6) (pa_cons (pv 7) pa_nil)))) (fun _ _ => rfl)))
        (pss_one (ps_if (pt_cmpR op_eq (pv 5) pe_int (nomark _))
          (pss_one (ps_expr (pe_bm PySem.F.plainAttrs_list PySem.F.slot_list_append PySem.F.type_list_append mt_append (pv 4) (pa_cons (pe_tup (pa_cons (pv 3) (pa_cons pe_non (pa_cons (pv 6) pa_nil)))) pa_nil))))
          (pss_one (ps_expr (pe_bm PySem.F.plainAttrs_list PySem.F.slot_list_append PySem.F.type_list_append mt_append (pv 4) (pa_cons (pe_tup (pa_cons (pv 3) (pa_cons (pe_wget hu2 (pv 2) (pe_tup (pa_cons (pe_op op_sub (pv 5) pe_int) (pa_cons (pv 6) (pa_cons (pe_slice sl_tup (pv 7) po_none (po_some (pe_un un_neg pe_int))) pa_nil)))) (fun _ _ => rfl)) (pa_cons (pe_ix ix_tup (pv 7) (pe_un un_neg pe_int) (fun _ _ => rfl)) pa_nil)))) pa_nil))))))))
      (pss_one (ps_ret (pv 4)))))))), ?_⟩
    refine ⟨_, rfl, v, r, d, o, ad, rs, ks, rfl, ht, hv, rt, fun st ms ea pa wy fr H1 s1 hst M ml B C hin => fun bw hbw => ?_⟩
    have kl := rt.kl
    have s2 := Same.upd (o := WDO P w bw []) hbw
    have hbw0 : H bw = none := s1.free hbw
    have T0 : Tups H1 ms ea pa wy := fun t h => ⟨M.he t h, M.hp t h⟩
    refine ⟨_, rfl, st, _, s2 _ _ M.hs, fun oF => ⟨st, oF, _, rfl, upd_same, ?_⟩⟩
    obtain ⟨H3, e3⟩ : ∃ H3, upd (upd H1 bw (WDO P w bw [])) st (.frz oF (.dK (ms.map fun t => (Sum.inl t, V.ref (ea t))))) = H3 := ⟨_, rfl⟩
    have nbs : bw ≠ st := fun z => by rw [z, M.hs] at hbw; cases hbw
    have z3 : H3 st = some (.frz oF (.dK (ms.map fun t => (Sum.inl t, V.ref (ea t))))) := by rw [← e3]; exact upd_same
    have b3 : H3 bw = some (WDO P w bw (kw ea wy (ms.take 0))) := by rw [← e3, upd_ne nbs]; exact upd_same
    have s3 : Same H H3 := fun c u g => by rw [← e3, upd_ne (ne_of_none g hst)]; exact s2 _ _ (s1 c u g)
    have T3 : Tups H3 ms ea pa wy := by rw [← e3]; exact (T0.same s2).but (s2 _ _ M.hs) (fun xs z => nomatch z)
    rw [e3]
    have ne_way : ∀ i (h : i < ms.length), wk (wy ms[i]) ∉ (kw ea wy (ms.take i)).map (·.1) := fun i h hm => by
      obtain ⟨e, he, ee⟩ := List.mem_map.mp hm
      obtain ⟨t, htk, rfl⟩ := List.mem_map.mp he
      obtain ⟨j, hj, ej⟩ := List.mem_iff_getElem.mp htk
      rw [List.length_take] at hj
      rw [List.getElem_take] at ej
      have h1 := List.pairwise_iff_getElem.mp B.asc j i (by omega) h (by omega)
      rw [ej] at h1
      have h2 : wy t = wy ms[i] := wk_inj ee
      rw [h2] at h1
      exact Lt.irr _ h1
    refine for_dict (d := st) (o := oF) (fun i σ Hx => ∃ v3 : Option V, σ = [some (.ref v), some (.ref st), some (.ref bw), v3, none, none, none, none] ∧ Same H Hx ∧ Hx st = some (.frz oF (.dK (ms.map fun t => (Sum.inl t, V.ref (ea t))))) ∧ Hx bw = some (WDO P w bw (kw ea wy (ms.take i))) ∧ Tups Hx ms ea pa wy)
      ⟨none, rfl, s3, z3, b3, T3⟩ (fun i σ Hx _ ⟨_, _, _, z, _⟩ => z) ?_ ?_
    · rintro i p σ Hx hp ⟨v3, rfl, sx, zx, bx, Tx⟩
      have hi : i < ms.length := by have := (List.getElem?_eq_some_iff.mp hp).1; rwa [List.length_map] at this
      obtain ⟨t, et⟩ : ∃ t, ms[i] = t := ⟨_, rfl⟩
      have hpe : p.1 = Sum.inl t := by
        rw [List.getElem?_map, List.getElem?_eq_getElem hi, et] at hp
        have hp' : (Sum.inl t, V.ref (ea t)) = p := Option.some.inj hp
        rw [← hp']
      have htm : t ∈ ms := by rw [← et]; exact List.getElem_mem hi
      have tk : ms.take (i + 1) = ms.take i ++ [t] := by rw [List.take_succ_eq_append_getElem hi, et]
      have nk := ne_way i hi
      rw [et] at nk
      rw [hpe]
      have dg : DGet Hx st (.int t) (some (V.ref (ea t))) := .inl ⟨_, Sum.inl t, .inr ⟨oF, zx⟩, rfl, by rw [Sd.val, if_pos htm]⟩
      refine ⟨_, rfl, _, rfl, _, rfl, _, rfl, st, _, rfl, dg, bw, ea t, kw ea wy (ms.take i), wk (wy t), rfl, rfl, bx, Tx.ways fun x hx => List.mem_of_mem_take hx, ⟨pa t, SqT.of (Tx t htm).1, SqT.of (Tx t htm).2⟩, nk, by rw [kw_len, List.length_take]; omega, _, rfl, fun c u g => ?_, ?_, ?_, Tx.but bx (fun xs z => nomatch z)⟩
      · rw [upd_ne (ne_of_none g hbw0)]
        exact sx c u g
      · rw [upd_ne (Ne.symm nbs)]
        exact zx
      · rw [tk, kw_snoc]
        exact upd_same
    · rintro σ Hx ⟨v3, rfl, sx, zx, bx, Tx⟩
      rw [List.length_map, List.take_of_length_le (Nat.le_refl _)] at bx
      clear T3 s3 z3 b3 e3 H3 T0 s2 hbw
      refine ⟨by show 0 ≤ sizeLine; decide, fun du hdu => ?_⟩
      have s4 := Same.upd (o := .lst []) hdu
      refine ⟨_, rfl, bw, kw ea wy ms, rfl, s4 _ _ bx, (Tx.same s4).ways fun _ h => h, fun e he => ?_, ?_, by rw [kw_len]; omega, fun sl hsl => ?_⟩
      · obtain ⟨t, _, rfl⟩ := List.mem_map.mp he
        rfl
      · unfold kw
        rw [List.pairwise_map]
        exact B.asc.imp fun h => not_back h
      have s5 := Same.upd (o := .lst ((kw ea wy ms).map fun e => V.ref e.2.1)) hsl
      have el : (kw ea wy ms).map (fun e => V.ref e.2.1) = ms.map fun t => V.ref (ea t) := by
        unfold kw
        rw [List.map_map]
        rfl
      rw [el] at s5 ⊢
      have hdu0 : H du = none := sx.free hdu
      have nsd : sl ≠ du := fun z => by rw [z, upd_same] at hsl; cases hsl
      refine ⟨sl, rfl, ⟨_, SqL.of upd_same⟩, for_list (K := K) (a := sl) (xs := ms.map fun t => V.ref (ea t)) (fun i σ Hy => ∃ (v3 v5 v6 v7 : Option V) (xs : List Addr) (tr : Addr → Tr), σ = [some (.ref v), some (.ref st), some (.ref bw), v3, some (.ref du), v5, v6, v7] ∧ Same H Hy ∧ Hy sl = some (.lst (ms.map fun t => V.ref (ea t))) ∧ Hy bw = some (WDO P w bw (kw ea wy ms)) ∧ Tups Hy ms ea pa wy ∧ Pap Hy du xs tr ∧ xs.map tr = tsF fr (ms.take i))
        ⟨v3, none, none, none, [], (fun _ => (none, none, none)), rfl, (sx.trans s4).trans s5, upd_same, s5 _ _ (s4 _ _ bx), (Tx.same s4).same s5, (⟨upd_same, fun x h => nomatch h⟩ : Pap _ du [] _).same s5, rfl⟩ (fun i σ Hy _ ⟨_, _, _, _, _, _, _, _, z, _⟩ => SqL.of z) ?_ ?_⟩
      · clear sx zx bx Tx s4 s5 hdu hsl
        rintro i x σ Hy hx ⟨v3, v5, v6, v7, xs, tr, rfl, sy, zl, zb, Ty, Py, ey⟩
        have hi : i < ms.length := by have := (List.getElem?_eq_some_iff.mp hx).1; rwa [List.length_map] at this
        obtain ⟨t, et⟩ : ∃ t, ms[i] = t := ⟨_, rfl⟩
        have hxe : x = .ref (ea t) := by
          rw [List.getElem?_map, List.getElem?_eq_getElem hi, et] at hx
          exact (Option.some.inj hx).symm
        subst hxe
        have htm : t ∈ ms := by rw [← et]; exact List.getElem_mem hi
        have tk : ms.take (i + 1) = ms.take i ++ [t] := by rw [List.take_succ_eq_append_getElem hi, et]
        have lx : xs.length ≤ 11 := by
          have := congrArg List.length ey
          unfold tsF at this
          rw [List.length_map, List.length_map, List.length_take] at this
          omega
        have hf := B.fro t htm
        obtain ⟨h1, h2⟩ := Ty t htm
        obtain ⟨w0, ew⟩ : ∃ w0, wy t = w0 := ⟨_, rfl⟩
        have hm0 := kw_mem (ea := ea) (wy := wy) htm
        rw [ew] at h1 h2 hf hm0
        refine ⟨ea t, _, rfl, SqT.of h1, rfl, _, _, rfl, _, _, rfl, _, _, rfl, rfl, ?_⟩
        refine ⟨_, rfl, _, rfl, _, rfl, _, rfl, by show 3 ≤ sizeLine; decide, fun b1 hb1 => ?_⟩
        have t1 := Same.upd (o := .tup [V.int (w0.2.length : Int), V.int w0.1, V.ref (pa t)]) hb1
        refine ⟨bw, b1, ea t, kw ea wy ms, wk w0, .int t, rfl, rfl, t1 _ _ zb, (Ty.same t1).ways fun _ h => h, ⟨pa t, SqT.of upd_same, SqT.of (t1 _ _ h2)⟩, hm0, ?_⟩
        refine ⟨_, rfl, rfl, ?_⟩
        obtain ⟨H6, e6⟩ : ∃ H6, upd Hy b1 (.tup [V.int (w0.2.length : Int), V.int w0.1, V.ref (pa t)]) = H6 := ⟨_, rfl⟩
        rw [e6] at t1 ⊢
        have P6 := Py.same t1
        have T6 := Ty.same t1
        have z6 := t1 _ _ zl
        have zb6 := t1 _ _ zb
        have s6 := sy.trans t1
        have h26 := t1 _ _ h2
        -- a triple is put behind
        have fin : ∀ {H7 : Hp} {u : Addr} {c : V} {q : Int}, Same H6 H7 → H7 u = none → c = oV (fr t).1 → q = (fr t).2 → ∃ (v3 v5 v6 v7 : Option V) (ys : List Addr) (tr' : Addr → Tr), [some (V.ref v), some (.ref st), some (.ref bw), some (V.int t), some (.ref du), some (V.int (w0.2.length : Int)), some (V.int w0.1), some (V.ref (pa t))] = [some (.ref v), some (.ref st), some (.ref bw), v3, some (.ref du), v5, v6, v7] ∧ Same H (upd (upd H7 u (.tup [V.int t, c, V.int q])) du (.lst (xs.map V.ref ++ [V.ref u]))) ∧ (upd (upd H7 u (.tup [V.int t, c, V.int q])) du (.lst (xs.map V.ref ++ [V.ref u]))) sl = some (.lst (ms.map fun t => V.ref (ea t))) ∧ (upd (upd H7 u (.tup [V.int t, c, V.int q])) du (.lst (xs.map V.ref ++ [V.ref u]))) bw = some (WDO P w bw (kw ea wy ms)) ∧ Tups (upd (upd H7 u (.tup [V.int t, c, V.int q])) du (.lst (xs.map V.ref ++ [V.ref u]))) ms ea pa wy ∧ Pap (upd (upd H7 u (.tup [V.int t, c, V.int q])) du (.lst (xs.map V.ref ++ [V.ref u]))) du ys tr' ∧ ys.map tr' = tsF fr (ms.take (i + 1)) := fun {H7 u c q} s7 hu7 ec eq => by
          subst ec eq
          obtain ⟨P8, e8⟩ := (P6.same s7).add hu7 (some t, (fr t).1, some (fr t).2)
          have s8 := Same.upd (o := .tup [V.int t, oV (fr t).1, V.int (fr t).2]) hu7
          have dl := s8 _ _ (s7 _ _ P6.hl)
          refine ⟨_, _, _, _, xs ++ [u], _, rfl, fun c v g => ?_, ?_, ?_, ((T6.same s7).same s8).but dl (fun xs z => nomatch z), P8, ?_⟩
          · rw [upd_ne (ne_of_none g hdu0)]
            exact s8 _ _ (s7 _ _ (s6 c v g))
          · rw [upd_ne nsd]
            exact s8 _ _ (s7 _ _ z6)
          · rw [upd_ne (ne_of (s8 _ _ (s7 _ _ zb6)) dl (fun z => nomatch z))]
            exact s8 _ _ (s7 _ _ zb6)
          · rw [e8, ey, tk, tsF_snoc]
        have lz : (xs.map V.ref).length < sizeLine := Nat.lt_of_le_of_lt (show (xs.map V.ref).length ≤ 11 by rw [List.length_map]; exact lx) (by decide)
        refine ⟨_, rfl, ite2 (fun h => ?_) (fun h => ?_)⟩
        · have h0 : w0.2.length = 0 := by
            have h' := of_decide_eq_true h
            injection h' with h'
            omega
          obtain ⟨e1, e2⟩ : (fr t).1 = none ∧ w0.1 = (fr t).2 := by
            cases hq : fr t with
            | mk a q =>
              rw [hq] at hf
              cases a with
              | none => exact ⟨rfl, congrArg Prod.fst (show w0 = (q, []) from hf)⟩
              | some s =>
                have hf' : w0 = on (wy s) q := hf.2
                rw [hf', on_len] at h0
                omega
          refine ⟨_, rfl, .inl ⟨rfl, _, SqL.of P6.hl⟩, _, rfl, _, rfl, by show 3 ≤ sizeLine; decide, fun u hu' => ⟨du, _, _, rfl, rfl, Same.upd hu' _ _ P6.hl, lz, ?_⟩⟩
          exact fin (Same.refl _) hu' (by rw [e1]; rfl) e2
        · obtain ⟨s0, q, hq, hs0, ew2⟩ : ∃ s0 q, fr t = (some s0, q) ∧ s0 ∈ ms ∧ w0 = on (wy s0) q := by
            cases hq : fr t with
            | mk a q =>
              rw [hq] at hf
              cases a with
              | none =>
                have hf' : w0 = (q, []) := hf
                refine absurd ?_ h
                rw [hf']
                rfl
              | some s => exact ⟨s, q, rfl, hf.1, hf.2⟩
          have e9 : (w0.2.length : Int) - 1 = ((wy s0).2.length : Int) := by rw [ew2, on_len]; omega
          have e10 : w0.1 = (wy s0).1 := by rw [ew2]; rfl
          have hq26 : H6 (pa t) = some (.tup ((on (wy s0) q).2.map V.int)) := by rw [← ew2]; exact h26
          refine ⟨_, rfl, .inl ⟨rfl, _, SqL.of P6.hl⟩, _, rfl, _, rfl, _, rfl, _, 1, rfl, rfl, _, rfl, _, rfl, 1, rfl, _, rfl, pa t, _, rfl, SqT.of hq26, (cut_on _ _).2, fun p2 hp2 => ⟨by show 3 ≤ sizeLine; decide, fun b2 hb2 => ?_⟩⟩
          have k1 := Same.upd (o := .tup (cutV ((on (wy s0) q).2.map V.int) none (some (-1)))) hp2
          have k2 := Same.upd (o := .tup [V.int ((w0.2.length : Int) - 1), V.int w0.1, V.ref p2]) hb2
          have k12 := k1.trans k2
          have zp2 : (upd (upd H6 p2 (.tup (cutV ((on (wy s0) q).2.map V.int) none (some (-1))))) b2 (.tup [V.int ((w0.2.length : Int) - 1), V.int w0.1, V.ref p2])) p2 = some (.tup ((wy s0).2.map V.int)) := by
            rw [← (cut_on (wy s0) q).1]
            exact k2 _ _ upd_same
          have zb2 : (upd (upd H6 p2 (.tup (cutV ((on (wy s0) q).2.map V.int) none (some (-1))))) b2 (.tup [V.int ((w0.2.length : Int) - 1), V.int w0.1, V.ref p2])) b2 = some (.tup [V.int ((wy s0).2.length : Int), V.int (wy s0).1, V.ref p2]) := by
            rw [← e9, ← e10]
            exact upd_same
          refine ⟨bw, b2, ea s0, kw ea wy ms, wk (wy s0), .int s0, rfl, rfl, k12 _ _ zb6, (T6.same k12).ways fun _ h => h, ⟨p2, SqT.of zb2, SqT.of zp2⟩, kw_mem hs0, ?_⟩
          refine ⟨_, rfl, 1, rfl, pa t, _, -1, .int q, rfl, rfl, SqT.of (k12 _ _ hq26), last_on _ _, by show 3 ≤ sizeLine; decide, fun u hu' => ⟨du, _, _, rfl, rfl, Same.upd hu' _ _ (k12 _ _ P6.hl), lz, ?_⟩⟩
          exact fin k12 hu' (by rw [hq]; rfl) (by rw [hq])
      · rintro σ Hy ⟨v3, v5, v6, v7, xs, tr, rfl, sy, zl, zb, Ty, Py, ey⟩
        rw [List.length_map, List.take_of_length_le (Nat.le_refl _)] at ey
        exact ⟨_, rfl, k du xs tr ms wy fr Hy sy hdu0 Py ey B C⟩
end
end K17
end
section
set_option Elab.async false
set_option linter.all false
set_option maxRecDepth 100000
set_option maxHeartbeats 4000000
namespace K17
open PySem L2 LX HT
theorem comp_dict {d : Addr} {o : Obj} {kvs : List (Key × V)} {te : TE} {Q : VK} {D : Addr} {τ : St} {H : Hp} (Pv : Nat → List V → Hp → Prop) (h0 : Pv 0 [] H) (hD : ∀ i ys H, i ≤ kvs.length → Pv i ys H → H D = some (.lst ys) ∧ ys.length = i) (hl : ∀ i ys H, i ≤ kvs.length → Pv i ys H → H d = some (.frz o (.dK kvs))) (hn : kvs.length ≤ sizeLine)
    (hs : ∀ i p ys H, kvs[i]? = some p → Pv i ys H → te (some (kV p.1) :: τ) H fun v H4 => H4 D = some (.lst ys) ∧ Pv (i + 1) (ys ++ [v]) (upd H4 D (.lst (ys ++ [v])))) (hd : ∀ ys H, Pv kvs.length ys H → Q (.ref D) H) : CompTo (Itd d o kvs) D τ te Q H := by
  refine ⟨fun i m ys H => m = kvs.length - i ∧ i ≤ kvs.length ∧ Pv i ys H, ⟨kvs.length, by simp, Nat.zero_le _, h0⟩, ?_⟩
  rintro i m ys H2 ⟨rfl, hi, p⟩
  obtain ⟨d1, d2⟩ := hD i ys H2 hi p
  refine ⟨d1, ?_⟩
  have hS := hl i ys H2 hi p
  by_cases hlt : i < kvs.length
  · refine .inr ⟨⟨hS, hlt⟩, by omega, Pv (i + 1), fun zs H' p' => ⟨kvs.length - (i + 1), by omega, rfl, hlt, p'⟩, fun y H3 q => ?_⟩
    obtain ⟨e1, q', e2, e3⟩ := q
    subst e1 e3
    exact hs i q' ys _ e2 p
  · have e : i = kvs.length := by omega
    subst e
    exact .inl ⟨⟨hS, Nat.le_refl _⟩, hd ys H2 p⟩
/-! ### one way, one thing; one order -/
theorem Led.one {rs : List (Option Int)} {ks : Fs} (nd : (keys ks).Nodup) : ∀ {w : Wy} {a b : Int}, Led rs ks w a → Led rs ks w b → a = b := fun {w a b} h => by
  induction h generalizing b with
  | @root i t h =>
    intro h2
    obtain ⟨j, e, hj⟩ := led_nil h2 rfl
    have ej : i = j := by
      have := congrArg Prod.fst e
      simp only at this
      omega
    subst ej
    rw [h] at hj
    cases hj
    rfl
  | @step w p q t h1 h2 h3 ih =>
    intro h4
    obtain ⟨p', j, g1, g2, g3, g4⟩ := led_on h4
    have ej : q = j := by omega
    subst ej
    have e := ih g2
    have e2 : p.2 = p'.2 := by
      rw [← fsOf_mem nd h2, ← fsOf_mem nd g1, e]
    rw [e2, g4] at h3
    cases h3
    rfl
section
variable {rs : List (Option Int)} {ks : Fs} {ms ms' : List Int} {wy wy' : Int → Wy} {fr fr' : Int → Option Int × Int}
theorem Bf.nodup (b : Bf rs ks ms wy fr) : ms.Nodup := b.asc.imp fun h z => by
  rw [z] at h
  exact Lt.irr _ h
theorem both_mem (b : Bf rs ks ms wy fr) (c' : Cls rs ks ms' wy') {t : Int} (h : t ∈ ms) : t ∈ ms' := (c'.all (b.snd t h)).1
theorem both_way (c : Cls rs ks ms wy) (c' : Cls rs ks ms' wy') {t : Int} (h : t ∈ ms) (h' : t ∈ ms') : wy t = wy' t := (c.mn h).one (c'.mn h')
theorem both_list (b : Bf rs ks ms wy fr) (c : Cls rs ks ms wy) (b' : Bf rs ks ms' wy' fr') (c' : Cls rs ks ms' wy') : ms = ms' := by
  have pm : ms.Perm ms' := (List.perm_ext_iff_of_nodup b.nodup b'.nodup).mpr fun t => ⟨fun h => both_mem b c' h, fun h => both_mem b' c h⟩
  refine pm.eq_of_pairwise (fun a d _ _ h1 h2 => absurd (Lt.trans h1 h2) (Lt.irr _)) b.asc (b'.asc.imp_of_mem fun {x y} hx hy h => ?_)
  rw [both_way c c' (both_mem b' c hx) hx, both_way c c' (both_mem b' c hy) hy]
  exact h
theorem both_from (nd : (keys ks).Nodup) (b : Bf rs ks ms wy fr) (c : Cls rs ks ms wy) (b' : Bf rs ks ms wy' fr') (c' : Cls rs ks ms wy') {t : Int} (h : t ∈ ms) : fr t = fr' t := by
  have f1 := b.fro t h
  have f2 := b'.fro t h
  rw [← both_way c c' h h] at f2
  cases e1 : fr t with
  | mk x q =>
    cases e2 : fr' t with
    | mk x' q' =>
      rw [e1] at f1
      rw [e2] at f2
      cases x with
      | none =>
        have f1 : wy t = (q, []) := f1
        cases x' with
        | none =>
          have f2 : wy t = (q', []) := f2
          rw [f1] at f2
          have z : q = q' := congrArg Prod.fst f2
          rw [z]
        | some s =>
          have f2 : wy t = on (wy' s) q' := f2.2
          rw [f1] at f2
          have := congrArg (fun z => z.2.length) f2
          simp only [on_len, List.length_nil] at this
          omega
      | some s =>
        obtain ⟨g1, f1⟩ := f1
        cases x' with
        | none =>
          have f2 : wy t = (q', []) := f2
          rw [f1] at f2
          have := congrArg (fun z => z.2.length) f2
          simp only [on_len, List.length_nil] at this
          omega
        | some s' =>
          obtain ⟨g2, f2⟩ := f2
          rw [f1] at f2
          have z2 : (wy s).2 ++ [q] = (wy' s').2 ++ [q'] := congrArg Prod.snd f2
          obtain ⟨z3, z4⟩ := List.append_inj' z2 rfl
          have z6 : (on (wy s) q).1 = (on (wy' s') q').1 := by rw [f2]
          have z5 : wy s = wy' s' := Prod.ext z6 z3
          have h1 := b.snd s g1
          have h2 := b'.snd s' g2
          rw [← z5] at h2
          have z7 : q = q' := List.head_eq_of_cons_eq z4
          rw [h1.one nd h2, z7]
theorem both_paper (nd : (keys ks).Nodup) (b : Bf rs ks ms wy fr) (c : Cls rs ks ms wy) (b' : Bf rs ks ms' wy' fr') (c' : Cls rs ks ms' wy') : tsF fr ms = tsF fr' ms' := by
  have e := both_list b c b' c'
  subst e
  exact List.map_congr_left fun t h => by rw [both_from nd b c b' c' h]
theorem bf_runs (nd : (keys ks).Nodup) (b : Bf rs ks ms wy fr) : ∀ i, i ≤ ms.length → Runs rs ks [] (tsF fr (ms.take i)) (ms.take i)
  | 0, _ => .nil
  | i + 1, h => by
    have hi : i < ms.length := h
    have ih := bf_runs nd b i (Nat.le_of_lt hi)
    obtain ⟨t, et⟩ : ∃ t, ms[i] = t := ⟨_, rfl⟩
    have htm : t ∈ ms := by rw [← et]; exact List.getElem_mem hi
    have tk : ms.take (i + 1) = ms.take i ++ [t] := by rw [List.take_succ_eq_append_getElem hi, et]
    have hl := b.snd t htm
    have hf := b.fro t htm
    rw [tk, tsF_snoc]
    refine runs_snoc ih ⟨rfl, fun hm => ?_, ?_⟩
    · obtain ⟨j, hj, ej⟩ := List.mem_iff_getElem.mp hm
      rw [List.length_take] at hj
      rw [List.getElem_take] at ej
      have h1 := List.pairwise_iff_getElem.mp b.asc j i (by omega) hi (by omega)
      rw [ej, et] at h1
      exact Lt.irr _ h1
    · cases hq : fr t with
      | mk x q =>
        rw [hq] at hf
        cases x with
        | none =>
          have hf : wy t = (q, []) := hf
          rw [hf] at hl
          obtain ⟨j, e, hj⟩ := led_nil hl rfl
          exact ⟨j, congrArg (fun z => some z.1) e, hj⟩
        | some s =>
          obtain ⟨g1, hf⟩ := hf
          refine ⟨?_, ?_⟩
          · obtain ⟨j, hj, ej⟩ := List.mem_iff_getElem.mp g1
            have h1 : Lt (wy s) (wy t) := by
              rw [hf]
              exact Lt.of_len (by rw [on_len]; omega)
            rcases Nat.lt_trichotomy j i with z | z | z
            · exact List.mem_of_getElem? (i := j) (by rw [List.getElem?_take_of_lt z, List.getElem?_eq_getElem hj, ej])
            · subst z
              rw [← ej, et] at h1
              exact absurd h1 (Lt.irr _)
            · have h2 := List.pairwise_iff_getElem.mp b.asc i j hi hj z
              rw [ej, et] at h2
              exact absurd (Lt.trans h1 h2) (Lt.irr _)
          · rw [hf] at hl
            obtain ⟨p, j, h1, h2, h3, h4⟩ := led_on hl
            have e : s = p.1 := (b.snd s g1).one nd h2
            refine ⟨j, by rw [h3], ?_⟩
            rw [e, fsOf_mem nd h1]
            exact h4
theorem bf_jd (nd : (keys ks).Nodup) (rt : Rt rs ks) (b : Bf rs ks ms wy fr) (c : Cls rs ks ms wy) (hk : ∀ t ∈ ms, t ∈ keys ks) : Jd rs ks (tsF fr ms) := by
  have r := bf_runs nd b ms.length (Nat.le_refl _)
  rw [List.take_length] at r
  refine ⟨ms, r, fun n hn => ?_, fun t ht n hn => ?_⟩
  · obtain ⟨i, hi⟩ := List.mem_iff_getElem?.mp hn
    exact (c.rt i n hi).1
  · obtain ⟨p, hp, ep⟩ := List.mem_map.mp (hk t ht)
    obtain ⟨i, hi⟩ := List.mem_iff_getElem?.mp hn
    rw [← ep] at ht hi
    rw [fsOf_mem nd hp] at hi
    exact (c.st p hp ht i n hi).1
end
section
variable {P : Program} {w : World} {K : PySem.W.Frag} {mg : Str → Option Value} {base : Heap}
theorem deep_two {H : Hp} {x y : Addr} {t : Tr} (h : H x = some (.tup (trV t))) (h' : H y = some (.tup (trV t))) : Deep K H 1 (.ref x) (.ref y) := by
  refine .tup (SqT.of h) (SqT.of h') rfl fun j h1 h2 => .flat ?_
  have h1 : j < 3 := h1
  obtain h | h | h : j = 0 ∨ j = 1 ∨ j = 2 := by omega
  all_goals subst h; exact oV_flat _
theorem Pap.deep {H : Hp} {l m : Addr} {xs ys : List Addr} {tr tr' : Addr → Tr} (p : Pap H l xs tr) (q : Pap H m ys tr') (e : xs.map tr = ys.map tr') : (xs.map V.ref).length = (ys.map V.ref).length ∧ ∀ j (h1 : j < (xs.map V.ref).length) (h2 : j < (ys.map V.ref).length), Deep K H 1 (xs.map V.ref)[j] (ys.map V.ref)[j] := by
  have el : xs.length = ys.length := by
    have := congrArg List.length e
    rwa [List.length_map, List.length_map] at this
  refine ⟨by rw [List.length_map, List.length_map, el], fun j h1 h2 => ?_⟩
  rw [List.length_map] at h1 h2
  rw [List.getElem_map, List.getElem_map]
  have ej : tr xs[j] = tr' ys[j] := by
    have : (xs.map tr)[j]? = (ys.map tr')[j]? := by rw [e]
    rw [List.getElem?_map, List.getElem?_map, List.getElem?_eq_getElem h1, List.getElem?_eq_getElem h2] at this
    exact Option.some.inj this
  have z := q.hx ys[j] (List.getElem_mem h2)
  rw [← ej] at z
  exact deep_two (p.hx xs[j] (List.getElem_mem h1)) z
/-! ### reach_paper -/
theorem scRe : FnScope ["view", "steps"] ["view"] (defScope sReach) := ⟨rfl, rfl, rfl, by decide +kernel, rfl, by decide +kernel, by decide +kernel⟩
abbrev scpP : Scope := scopeOf (ret? ((defBody sReach).getD 2 (.Pass ⟨0, 0, 0, 0⟩)))
theorem cP : CompP (defScope sReach) scpP "thing" ["steps"] ["view", "steps"] [1] := by decide +kernel
def spReach (K : PySem.W.Frag) : Sp := fun vs H Q _ => ∃ (v r d : Addr) (o : Obj) (ad : Int → Addr) (rs : List (Option Int)) (ks : Fs), vs = [.ref v] ∧ SqT K H v [.ref r, .ref d] ∧ Vw H r d o ad rs ks ∧ Rt rs ks ∧
  ∀ (l : Addr) (xs : List Addr) (tr : Addr → Tr) (ms : List Int) (wy : Int → Wy) (fr : Int → Option Int × Int) (H' : Hp), Same H H' → H l = none → Pap H' l xs tr → xs.map tr = tsF fr ms → Bf rs ks ms wy fr → Cls rs ks ms wy → (∀ t ∈ ms, t ∈ keys ks) → ms.length ≤ ks.length → Q (.ref l) H'
theorem ok_reach {f fL fS : Addr} {fd fdL fdS : FuncData} (F : Fun K "reach_paper" "reach_paper" sReach f fd) (GL : FnOk P w K mg base (CXE P w) 2 fL fdL ["view"] (spLook K)) (mL : mg "look_at_view" = some (.ref fL)) (kL : PySem.W.keepIn K (.ref fL) = true) (bL : Binds K fdL ["view"] [])
    (GS : FnOk P w K mg base (CXE P w) 1 fS fdS ["view"] (spSteps K)) (mS : mg "last_steps" = some (.ref fS)) (kS : PySem.W.keepIn K (.ref fS) = true) (bS : Binds K fdS ["view"] []) : FnOk P w K mg base (CXE P w) 3 f fd ["view"] (spReach K) := by
  refine F.okE scRe (fun vs H Q E h => ?_) (fun cdv A outer s H vs Q E hr h => ?_)
  · obtain ⟨v, r, d, o, ad, rs, ks, rfl, _⟩ := h
    rfl
  · obtain ⟨v, r, d, o, ad, rs, ks, rfl, ht, hv, rt, k⟩ := h
    have hu := hu_of hr
    have co : CompOk (cxE P w K mg base ["view", "steps"] "reach_paper" (defScope sReach) f cdv A outer s H E).nox scpP [("steps", s.heap.objs.size + 1)] "thing" [1] ["thing", "steps"] :=
      comp_ok rfl rfl rfl cP rfl rfl (by intro q hq; rw [List.mem_singleton.mp hq]; rfl)
    refine ⟨_, PSs.nox (pss_cons (ps_expr (xe_call GL hr rfl mL kL bL .nil passN (pa_cons (pv 0) pa_nil)))
      (pss_cons (ps_set (i := 1) scRe.nd rfl (Or.inr rfl) (xe_call GS (hr.mono (by decide)) rfl mS kS bS .nil passN (pa_cons (pv 0) pa_nil)))
      (pss_one (ps_ret (pe_comp co rfl (pi_dict (pe_frz (pv 1))) (fun C fp s₀ H₀ => pe_tup (pa_cons (pv 0) (pa_cons (pe_ix (r := rIxT K) ix_tup (pe_dget hu (pv 1) (pv 0) (fun _ _ => rfl)) pe_int (fun _ _ => rfl)) (pa_cons (pe_ix (r := rIxT K) ix_tup (pe_dget hu (pv 1) (pv 0) (fun _ _ => rfl)) pe_int (fun _ _ => rfl)) pa_nil))))))))), ?_⟩
    refine ⟨_, rfl, v, r, d, o, ad, rs, ks, rfl, ht, hv, rt, ?_⟩
    refine ⟨_, rfl, v, r, d, o, ad, rs, ks, rfl, ht, hv, rt, fun st ms ea wy fr H1 s1 hst M ml B C hin => ?_⟩
    refine ⟨_, rfl, st, _, M.hs, fun oF => ⟨st, oF, _, rfl, upd_same, fun D hD => ?_⟩⟩
    have kl := rt.kl
    have lk : (ms.map fun t => ((Sum.inl t : Key), V.ref (ea t))).length = ms.length := List.length_map _
    obtain ⟨H2, e2⟩ : ∃ H2, upd H1 st (.frz oF (.dK (ms.map fun t => (Sum.inl t, V.ref (ea t))))) = H2 := ⟨_, rfl⟩
    have s2 : Same H H2 := fun c u q => by rw [← e2, upd_ne (ne_of_none q hst)]; exact s1 c u q
    have zst : H2 st = some (.frz oF (.dK (ms.map fun t => (Sum.inl t, V.ref (ea t))))) := by rw [← e2]; exact upd_same
    have hu2 : ∀ t ∈ ms, H2 (ea t) = some (.tup [oV (fr t).1, .int (fr t).2]) := fun t h => by
      rw [← e2, upd_ne (ne_of (M.he t h) M.hs (by intro z; cases z))]
      exact M.he t h
    rw [e2] at hD ⊢
    refine comp_dict (d := st) (o := oF) (kvs := ms.map fun t => ((Sum.inl t : Key), V.ref (ea t))) (fun i ys H3 => ∃ (xs : List Addr) (tr : Addr → Tr), ys = xs.map V.ref ∧ xs.length = i ∧ Same H2 H3 ∧ Pap H3 D xs tr ∧ xs.map tr = tsF fr (ms.take i)) ⟨[], fun _ => (none, none, none), rfl, rfl, Same.upd hD, ⟨upd_same, fun x h => nomatch h⟩, rfl⟩
      (fun i ys H3 _ ⟨xs, tr, e, l, _, p, _⟩ => ⟨by rw [e]; exact p.hl, by rw [e, List.length_map]; exact l⟩) (fun i ys H3 _ ⟨_, _, _, _, s3, _⟩ => s3 _ _ zst) (Nat.le_trans (show (ms.map fun t => ((Sum.inl t : Key), V.ref (ea t))).length ≤ 12 by omega) (by decide)) (fun i p ys H3 hp ⟨xs, tr, e, l, s3, pp, et⟩ => ?_) (fun ys H3 ⟨xs, tr, e, l, s3, pp, et⟩ => ?_)
    · have hlt : i < ms.length := by rw [← lk]; exact (List.getElem?_eq_some_iff.mp hp).1
      obtain ⟨t, ett⟩ : ∃ t, ms[i] = t := ⟨_, rfl⟩
      have hpe : p.1 = Sum.inl t := by
        rw [List.getElem?_map, List.getElem?_eq_getElem hlt, ett] at hp
        have hp' : (Sum.inl t, V.ref (ea t)) = p := Option.some.inj hp
        rw [← hp']
      have htm : t ∈ ms := by rw [← ett]; exact List.getElem_mem hlt
      have tk : ms.take (i + 1) = ms.take i ++ [t] := by rw [List.take_succ_eq_append_getElem hlt, ett]
      have hz := s3 _ _ (hu2 t htm)
      have dg : DGet H3 st (.int t) (some (V.ref (ea t))) := .inl ⟨_, Sum.inl t, .inr ⟨oF, s3 _ _ zst⟩, rfl, by rw [Sd.val, if_pos htm]⟩
      rw [hpe]
      refine ⟨_, rfl, _, rfl, _, rfl, st, _, rfl, dg, ea t, _, 0, oV (fr t).1, rfl, rfl, SqT.of hz, rfl, _, rfl, _, rfl, st, _, rfl, dg, ea t, _, 1, .int (fr t).2, rfl, rfl, SqT.of hz, rfl, by show 3 ≤ sizeLine; decide, fun u hu' => ?_⟩
      subst e
      obtain ⟨p5, e5⟩ := pp.add hu' (some t, (fr t).1, some (fr t).2)
      refine ⟨Same.upd hu' _ _ pp.hl, xs ++ [u], _, by rw [List.map_append]; rfl, by rw [List.length_append, List.length_singleton, l], fun c v g => ?_, p5, ?_⟩
      · rw [upd_ne (ne_of_none g hD)]
        exact Same.upd hu' _ _ (s3 c v g)
      · rw [e5, et, tk, tsF_snoc]
    · rw [lk, List.take_of_length_le (Nat.le_refl _)] at et
      exact k D xs tr ms wy fr H3 (s2.trans s3) (s2.free hD) pp et B C hin ml
end
end K17
end
section
set_option Elab.async false
set_option linter.all false
set_option maxRecDepth 100000
set_option maxHeartbeats 4000000
namespace K17
open PySem L2 LX HT
section
variable {P : Program} {w : World} {K : PySem.W.Frag} {mg : Str → Option Value} {base : Heap}
def rIsnB : R2 := fun x y H Q => ∃ b c : Bool, x = .bl b ∧ y = .bl c ∧ Q (.bl (!decide (b = c))) H
theorem op_isnB {X : Cx} : OpR X (compareOp .IsNot) rIsnB := by
  rintro pins s σ H x y v u Q I rx ry ⟨b, c, rfl, rfl, q⟩
  cases rx
  cases ry
  refine wpAny_isNot_plain rfl (fin_bl I q ?_)
  cases b <;> cases c <;> rfl
/-- _law_whole -/
def spWhole : Sp := fun vs H Q _ => ∃ n : Int, vs = [.int n] ∧ Q (.bl true) H
theorem ok_whole {f : Addr} {fd : FuncData} (F : Fun K "_law_whole" "_law_whole" sWhole f fd) (zi : mg "isinstance" = none) (z1 : mg "int" = none) (z2 : mg "bool" = none) : FnOk P w K mg base (CXE P w) 1 f fd ["found"] spWhole := by
  refine F.okE (N := ["found"]) ⟨rfl, rfl, rfl, by decide +kernel, rfl, by decide +kernel, by decide +kernel⟩ (fun vs H Q E h => ?_) (fun cdv A outer s H vs Q E hr h => ?_)
  · obtain ⟨n, rfl, _⟩ := h
    rfl
  · obtain ⟨n, rfl, k⟩ := h
    refine ⟨_, pss_one (ps_ret (pe_and (pe_callB call_isiT rfl zi PyProof.Rows.Boot.«isinstance» (pa_cons (pv 0) (pa_cons (pe_ty rfl z1 PyProof.Rows.Boot.«int») pa_nil)))
      (pe_one (pe_not (pe_callB call_isiT rfl zi PyProof.Rows.Boot.«isinstance» (pa_cons (pv 0) (pa_cons (pe_ty rfl z2 PyProof.Rows.Boot.«bool») pa_nil))))))), ?_⟩
    refine isi_readT (x := .int n) (t := .type "int") (b := true) rfl (.of (.int n)) rfl ⟨_, rfl, iteT ?_⟩
    exact isi_readT (x := .int n) (t := .type "int") (b := false) rfl (.of (.int n)) (by kernel_rfl) ⟨_, rfl, k⟩
abbrev NW : List Str := ["script", "view", "lent", "due", "turn", "found", "triple"]
theorem scL : FnScope NW ["script"] (defScope sLaw) := ⟨rfl, rfl, rfl, by decide +kernel, rfl, by decide +kernel, by decide +kernel⟩
def spLaw (K : PySem.W.Frag) : Sp := fun vs H Q _ => ∃ (a : Addr) (ns : List Int), vs = [.ref a] ∧ SqL K H a (ns.map V.int) ∧ ns.length ≤ 63 ∧ ∀ H', Q (.bl true) H'
theorem ok_law {f fV fY fD fR fH fJ : Addr} {fd fdV fdY fdD fdR fdH fdJ : FuncData} (F : Fun K "law" "law" sLaw f fd) (zi : mg "isinstance" = none) (zl : mg "list" = none) (zt : mg "tuple" = none) (zr : mg "range" = none)
    (GV : FnOk P w K mg base (CXE P w) 3 fV fdV ["script"] (spView K)) (mV : mg "_law_view" = some (.ref fV)) (kV : PySem.W.keepIn K (.ref fV) = true) (bV : Binds K fdV ["script"] [])
    (GY : FnOk P w K mg base (CXE P w) 1 fY fdY ["view"] (spCopy K)) (mY : mg "_law_copy" = some (.ref fY)) (kY : PySem.W.keepIn K (.ref fY) = true) (bY : Binds K fdY ["view"] [])
    (GD : FnOk P w K mg base (CXE P w) 2 fD fdD ["view"] (spDue K)) (mD : mg "_law_due" = some (.ref fD)) (kD : PySem.W.keepIn K (.ref fD) = true) (bD : Binds K fdD ["view"] [])
    (GR : FnOk P w K mg base (CXE P w) 3 fR fdR ["view"] (spReach K)) (mR : mg "reach_paper" = some (.ref fR)) (kR : PySem.W.keepIn K (.ref fR) = true) (bR : Binds K fdR ["view"] [])
    (GH : FnOk P w K mg base (CXE P w) 1 fH fdH ["found"] spWhole) (mH : mg "_law_whole" = some (.ref fH)) (kH : PySem.W.keepIn K (.ref fH) = true) (bH : Binds K fdH ["found"] [])
    (GJ : FnOk P w K mg base (CXE P w) 3 fJ fdJ ["view", "triples"] (spJudged K)) (mJ : mg "paper_judged" = some (.ref fJ)) (kJ : PySem.W.keepIn K (.ref fJ) = true) (bJ : Binds K fdJ ["view", "triples"] []) :
    FnOk P w K mg base (CXE P w) 4 f fd ["script"] (spLaw K) := by
  refine F.okE scL (fun vs H Q E h => ?_) (fun cdv A outer s H vs Q E hr h => ?_)
  · obtain ⟨a, ns, rfl, _⟩ := h
    rfl
  · obtain ⟨a, ns, rfl, hS, hz, k⟩ := h
    have hu := hu_of hr
    have hu3 : (cxE P w K mg base NW "law" (defScope sLaw) f cdv A outer s H E).nox.A.units + 1 + 2 < cLine := Nat.lt_of_le_of_lt (Nat.add_le_add_left (by decide : 3 ≤ 64) _) hr.units
    have hu2 : (cxE P w K mg base NW "law" (defScope sLaw) f cdv A outer s H E).nox.A.units + 1 + 1 < cLine := Nat.lt_of_succ_lt hu3
    have r1 := hr.mono (show 1 ≤ 3 by decide)
    have r2 := hr.mono (show 2 ≤ 3 by decide)
    refine ⟨_, PSs.nox (pss_cons (ps_set (i := 1) scL.nd rfl (Or.inl rfl) (xe_call GV hr rfl mV kV bV .nil passN (pa_cons (pv 0) pa_nil))) (pss_cons (ps_set (i := 2) scL.nd rfl (Or.inl rfl) (xe_call GY r1 rfl mY kY bY .nil passN (pa_cons (pv 1) pa_nil))) (pss_cons (ps_set (i := 3) scL.nd rfl (Or.inl rfl) (xe_call GD r2 rfl mD kD bD .nil passN (pa_cons (pv 1) pa_nil)))
      (pss_cons (ps_for PassesOwn.never rfl (pi_range1 rfl zr (pa_cons pe_int pa_nil)) (pg_name (i := 4) scL.nd rfl (Or.inl rfl))
        (pss_cons (ps_set (i := 5) scL.nd rfl (Or.inl rfl) (xe_call GR hr rfl mR kR bR .nil passN (pa_cons (pv 2) pa_nil)))
        (pss_cons (ps_if (PW.pt (pw_or (pt_not (pt_val (pe_callB call_isiT rfl zi PyProof.Rows.Boot.«isinstance» (pa_cons (pv 5) (pa_cons (pe_ty rfl zl PyProof.Rows.Boot.«list») pa_nil))))) (pw_or (pt_cmpR (op_neD (n := 1) hu2) (pv 5) (pv 3) (nomark _)) (pw_or1 (pt_cmpR (op_neVw (n := 1) hu3) (pv 2) (pv 1) (nomark _)))))) (pss_one ps_dead) pss_nil)
        (pss_cons (ps_for PassesOwn.never rfl (pi_list (pv 5)) (pg_name (i := 6) scL.nd rfl (Or.inl rfl))
          (pss_one (ps_if (PW.pt (pw_or (pt_not (pt_val (pe_callB call_isiT rfl zi PyProof.Rows.Boot.«isinstance» (pa_cons (pv 6) (pa_cons (pe_ty rfl zt PyProof.Rows.Boot.«tuple») pa_nil))))) (pw_or (pt_not (pt_val (xe_call GH r1 rfl mH kH bH .nil passN (pa_cons (pe_ix ix_tup (pv 6) pe_int (fun _ _ => rfl)) pa_nil)))) (pw_or1 (pt_not (pt_val (xe_call GH r1 rfl mH kH bH .nil passN (pa_cons (pe_ix ix_tup (pv 6) pe_int (fun _ _ => rfl)) pa_nil)))))))) (pss_one ps_dead) pss_nil)))
        (pss_cons (ps_if (PW.pt (pw_or (pt_cmpR op_isnB (xe_call GJ hr rfl mJ kJ bJ .nil passN (pa_cons (pv 2) (pa_cons (pv 5) pa_nil))) pe_bl (nomark _)) (pw_or (pt_cmpR (op_neD (n := 1) hu2) (pv 5) (pv 3) (nomark _)) (pw_or1 (pt_cmpR (op_neVw (n := 1) hu3) (pv 2) (pv 1) (nomark _)))))) (pss_one ps_dead) pss_nil)
        (pss_one (ps_expr (pe_bm PySem.F.plainAttrs_list PySem.F.slot_list_append PySem.F.type_list_append mt_append (pv 5) (pa_cons (pe_tup (pa_cons pe_int (pa_cons pe_int (pa_cons pe_int pa_nil)))) pa_nil)))))))))
      (pss_one (ps_ret pe_bl)))))), ?_⟩
    refine ⟨_, rfl, a, ns, rfl, hS, by omega, fun v r d o ad rs ks H1 s1 ht1 hv rt => ?_⟩
    refine ⟨_, rfl, v, r, d, o, ad, rs, ks, rfl, SqT.of ht1, hv, rt, fun v' r' d' o' ad' H2 s2 ht2 hv2 => ?_⟩
    refine ⟨_, rfl, v, r, d, o, ad, rs, ks, rfl, SqT.of (s2 _ _ ht1), hv.same s2, rt, fun du ys tr' ms' wy' fr' H4 s24 hdu PD eD BD CD => ?_⟩
    have vv := hv.same (s2.trans s24)
    have tv := (s2.trans s24) _ _ ht1
    have vl := hv2.same s24
    have tl := s24 _ _ ht2
    have kl := rt.kl
    refine ⟨2, rfl, by decide, by decide, for_range (lo := 0) (n := 2) (fun i σ Hx => (∃ v4 v5 v6, σ = [some (.ref a), some (.ref v), some (.ref v'), some (.ref du), v4, v5, v6]) ∧ Same H4 Hx)
      ⟨⟨none, none, none, rfl⟩, Same.refl _⟩ ?_ ?_⟩
    · rintro i σ Hx hi ⟨⟨v4, v5, v6, rfl⟩, sx⟩
      refine ⟨_, rfl, v', r', d', o', ad', rs, ks, rfl, SqT.of (sx _ _ tl), vl.same sx, rt, fun l xs tr ms wy fr H6 s6 hl6 P6 e6 B6 C6 hk6 ml6 => ?_⟩
      have epap : xs.map tr = ys.map tr' := by rw [e6, eD]; exact both_paper rt.nd B6 C6 BD CD
      have s46 := sx.trans s6
      have cmp : ∀ {H7 : Hp}, Same H6 H7 → (xs.map V.ref).length = (ys.map V.ref).length ∧ ∀ j (h1 : j < (xs.map V.ref).length) (h2 : j < (ys.map V.ref).length), Deep K H7 1 (xs.map V.ref)[j] (ys.map V.ref)[j] := fun {H7} s7 => (P6.same s7).deep (PD.same (s46.trans s7)) epap
      have lx : xs.length ≤ 11 := by
        have := congrArg List.length e6
        unfold tsF at this
        rw [List.length_map, List.length_map] at this
        omega
      obtain ⟨c1, c2⟩ := cmp (Same.refl H6)
      have va := vv.same s46
      have vb := vl.same s46
      refine ⟨_, rfl, .ref l, .ty "list", .type "list", true, rfl, .of (.lst P6.hl), ⟨_, rfl⟩, rfl, _, rfl, iteF ?_⟩
      refine ⟨_, rfl, _, rfl, l, du, _, _, rfl, rfl, SqL.of P6.hl, SqL.of (s46 _ _ PD.hl), c1, c2, _, rfl, iteF ?_⟩
      refine ⟨_, rfl, _, rfl, v', v, r', d', r, d, kvl ad' ks, kvl ad ks, rfl, rfl, SqT.of (s46 _ _ tl), SqT.of (s46 _ _ tv), deep_list vb.hr va.hr, rd_vw vb, rd_vw va, by unfold kvl; rw [List.length_map, List.length_map], kvl_int, kvl_int, kvl_eq va vb, _, rfl, iteF ?_⟩
      refine ⟨_, rfl, l, rfl, ⟨_, SqL.of P6.hl⟩, for_list (K := K) (a := l) (xs := xs.map V.ref) (fun j σ Hy => (∃ v6, σ = [some (.ref a), some (.ref v), some (.ref v'), some (.ref du), some (.int (0 + (i : Int))), some (.ref l), v6]) ∧ Same H6 Hy)
        ⟨⟨_, rfl⟩, Same.refl _⟩ (fun j σ Hy _ ⟨_, sy⟩ => SqL.of (sy _ _ P6.hl)) ?_ ?_⟩
      · rintro j y σ Hy hy ⟨⟨v6, rfl⟩, sy⟩
        rw [List.getElem?_map] at hy
        obtain ⟨x, hx, rfl⟩ := Option.map_eq_some_iff.mp hy
        have hxm : x ∈ xs := List.mem_of_getElem? hx
        have hmem : tr x ∈ tsF fr ms := by rw [← e6]; exact List.mem_map_of_mem hxm
        obtain ⟨t, _, et⟩ := List.mem_map.mp hmem
        have zx := sy _ _ (P6.hx x hxm)
        rw [← et] at zx
        refine ⟨_, rfl, .ref x, .ty "tuple", .type "tuple", true, rfl, .of (.tup zx), ⟨_, rfl⟩, rfl, _, rfl, iteF ?_⟩
        refine ⟨_, rfl, x, _, 0, .int t, rfl, rfl, SqT.of zx, rfl, t, rfl, _, rfl, iteF ?_⟩
        exact ⟨_, rfl, x, _, 2, .int (fr t).2, rfl, rfl, SqT.of zx, rfl, (fr t).2, rfl, _, rfl, iteF ⟨⟨_, rfl⟩, sy⟩⟩
      · rintro σ Hy ⟨⟨v6, rfl⟩, sy⟩
        refine ⟨_, rfl, _, rfl, v', r', d', l, o', ad', rs, ks, xs, tr, rfl, SqT.of (sy _ _ (s46 _ _ tl)), vb.same sy, rt, sy _ _ P6.hl, (P6.same sy).hx, fun b Hz sz hb => ?_⟩
        have ht : b = true := hb.mpr (by rw [e6]; exact bf_jd rt.nd rt B6 C6 hk6)
        subst ht
        have sz' := sy.trans sz
        obtain ⟨g1, g2⟩ := cmp sz'
        have s8 := s46.trans sz'
        have wa := va.same sz'
        have wb := vb.same sz'
        refine ⟨true, true, rfl, rfl, _, rfl, iteF ?_⟩
        refine ⟨_, rfl, _, rfl, l, du, _, _, rfl, rfl, SqL.of (sz' _ _ P6.hl), SqL.of (s8 _ _ PD.hl), g1, g2, _, rfl, iteF ?_⟩
        refine ⟨_, rfl, _, rfl, v', v, r', d', r, d, kvl ad' ks, kvl ad ks, rfl, rfl, SqT.of (s8 _ _ tl), SqT.of (s8 _ _ tv), deep_list wb.hr wa.hr, rd_vw wb, rd_vw wa, by unfold kvl; rw [List.length_map, List.length_map], kvl_int, kvl_int, kvl_eq wa wb, _, rfl, iteF ?_⟩
        refine ⟨_, rfl, .inl ⟨rfl, _, SqL.of (sz' _ _ P6.hl)⟩, by show 3 ≤ sizeLine; decide, fun u hu' => ⟨l, _, _, rfl, rfl, Same.upd hu' _ _ (sz' _ _ P6.hl), Nat.lt_of_le_of_lt (show (xs.map V.ref).length ≤ 11 by rw [List.length_map]; exact lx) (by decide), ?_⟩⟩
        refine ⟨⟨_, _, _, rfl⟩, fun c u' g => ?_⟩
        rw [upd_ne (ne_of_none (sx c u' g) hl6)]
        exact Same.upd hu' _ _ (s8 c u' g)
    · rintro σ Hx ⟨⟨v4, v5, v6, rfl⟩, sx⟩
      exact k _
end
end K17
end
section
set_option Elab.async false
set_option linter.all false
set_option maxRecDepth 100000
set_option maxHeartbeats 4000000
set_option exponentiation.threshold 4000
namespace K17
open PySem L2 LX
theorem all_mk {l : PySem.W.OpenLaw} {w : World} {K : PySem.W.Frag} {h : Heap} {mg : Str → Option Value} {fa f1 f2 f3 f4 f5 f6 f7 f8 f9 f10 f11 f12 f13 f14 f15 f17 f18 f16 : Addr} (X : K.In h) (G : h.Ns mainGlobals mg) (hfa : mg "law" = some (.ref fa))
    {od1 an1 od2 an2 od3 an3 od4 an4 od5 an5 od6 an6 od7 an7 od8 an8 od9 an9 od10 an10 od11 an11 od12 an12 od13 an13 od14 an14 od15 an15 od17 an17 od18 an18 od16 an16 : Option Addr} {sl1 sl2 sl3 sl4 sl5 sl6 sl7 sl8 sl9 sl10 sl11 sl12 sl13 sl14 sl15 sl17 sl18 sl16 : Array (Option Value)} {oc1 kV1 dc1 pm1 cd1 ct1 oc2 kV2 dc2 pm2 cd2 ct2 oc3 kV3 dc3 pm3 cd3 ct3 oc4 kV4 dc4 pm4 cd4 ct4 oc5 kV5 dc5 pm5 cd5 ct5 oc6 kV6 dc6 pm6 cd6 ct6 oc7 kV7 dc7 pm7 cd7 ct7 oc8 kV8 dc8 pm8 cd8 ct8 oc9 kV9 dc9 pm9 cd9 ct9 oc10 kV10 dc10 pm10 cd10 ct10 oc11 kV11 dc11 pm11 cd11 ct11 oc12 kV12 dc12 pm12 cd12 ct12 oc13 kV13 dc13 pm13 cd13 ct13 oc14 kV14 dc14 pm14 cd14 ct14 oc15 kV15 dc15 pm15 cd15 ct15 oc17 kV17 dc17 pm17 cd17 ct17 oc18 kV18 dc18 pm18 cd18 ct18 oc16 kV16 dc16 pm16 cd16 ct16 : Value}
    (a1 : PySem.W.nsIn K mainGlobals "reach_paper" = some (some (.ref f1)))
    (l1 : K.lookup f1 = some ⟨oc1, od1, .func (PySem.W.fnOf "reach_paper" "reach_paper" (defArgs sReach) (defBody sReach) (defScope sReach) .none kV1 dc1 pm1 an1 cd1 ct1), sl1⟩)
    (c1 : PySem.W.codeIn K cd1 "reach_paper" = true)
    (k1 : PySem.W.keepIn K (.ref f1) = true)
    (a2 : PySem.W.nsIn K mainGlobals "closed_in" = some (some (.ref f2)))
    (l2 : K.lookup f2 = some ⟨oc2, od2, .func (PySem.W.fnOf "closed_in" "closed_in" (defArgs sIn) (defBody sIn) (defScope sIn) .none kV2 dc2 pm2 an2 cd2 ct2), sl2⟩)
    (c2 : PySem.W.codeIn K cd2 "closed_in" = true)
    (k2 : PySem.W.keepIn K (.ref f2) = true)
    (a3 : PySem.W.nsIn K mainGlobals "look_at_view" = some (some (.ref f3)))
    (l3 : K.lookup f3 = some ⟨oc3, od3, .func (PySem.W.fnOf "look_at_view" "look_at_view" (defArgs sLook) (defBody sLook) (defScope sLook) .none kV3 dc3 pm3 an3 cd3 ct3), sl3⟩)
    (c3 : PySem.W.codeIn K cd3 "look_at_view" = true)
    (k3 : PySem.W.keepIn K (.ref f3) = true)
    (a4 : PySem.W.nsIn K mainGlobals "look_at_told" = some (some (.ref f4)))
    (l4 : K.lookup f4 = some ⟨oc4, od4, .func (PySem.W.fnOf "look_at_told" "look_at_told" (defArgs sLTold) (defBody sLTold) (defScope sLTold) .none kV4 dc4 pm4 an4 cd4 ct4), sl4⟩)
    (c4 : PySem.W.codeIn K cd4 "look_at_told" = true)
    (k4 : PySem.W.keepIn K (.ref f4) = true)
    (a5 : PySem.W.nsIn K mainGlobals "tells_within" = some (some (.ref f5)))
    (l5 : K.lookup f5 = some ⟨oc5, od5, .func (PySem.W.fnOf "tells_within" "tells_within" (defArgs sWithin) (defBody sWithin) (defScope sWithin) .none kV5 dc5 pm5 an5 cd5 ct5), sl5⟩)
    (c5 : PySem.W.codeIn K cd5 "tells_within" = true)
    (k5 : PySem.W.keepIn K (.ref f5) = true)
    (a6 : PySem.W.nsIn K mainGlobals "last_steps" = some (some (.ref f6)))
    (l6 : K.lookup f6 = some ⟨oc6, od6, .func (PySem.W.fnOf "last_steps" "last_steps" (defArgs sSteps) (defBody sSteps) (defScope sSteps) .none kV6 dc6 pm6 an6 cd6 ct6), sl6⟩)
    (c6 : PySem.W.codeIn K cd6 "last_steps" = true)
    (k6 : PySem.W.keepIn K (.ref f6) = true)
    (a7 : PySem.W.nsIn K mainGlobals "_law_cell" = some (some (.ref f7)))
    (l7 : K.lookup f7 = some ⟨oc7, od7, .func (PySem.W.fnOf "_law_cell" "_law_cell" (defArgs sCell) (defBody sCell) (defScope sCell) .none kV7 dc7 pm7 an7 cd7 ct7), sl7⟩)
    (c7 : PySem.W.codeIn K cd7 "_law_cell" = true)
    (k7 : PySem.W.keepIn K (.ref f7) = true)
    (a8 : PySem.W.nsIn K mainGlobals "_law_whole" = some (some (.ref f8)))
    (l8 : K.lookup f8 = some ⟨oc8, od8, .func (PySem.W.fnOf "_law_whole" "_law_whole" (defArgs sWhole) (defBody sWhole) (defScope sWhole) .none kV8 dc8 pm8 an8 cd8 ct8), sl8⟩)
    (c8 : PySem.W.codeIn K cd8 "_law_whole" = true)
    (k8 : PySem.W.keepIn K (.ref f8) = true)
    (a9 : PySem.W.nsIn K mainGlobals "_law_digits" = some (some (.ref f9)))
    (l9 : K.lookup f9 = some ⟨oc9, od9, .func (PySem.W.fnOf "_law_digits" "_law_digits" (defArgs sDigits) (defBody sDigits) (defScope sDigits) .none kV9 dc9 pm9 an9 cd9 ct9), sl9⟩)
    (c9 : PySem.W.codeIn K cd9 "_law_digits" = true)
    (k9 : PySem.W.keepIn K (.ref f9) = true)
    (a10 : PySem.W.nsIn K mainGlobals "_law_stream" = some (some (.ref f10)))
    (l10 : K.lookup f10 = some ⟨oc10, od10, .func (PySem.W.fnOf "_law_stream" "_law_stream" (defArgs sStream) (defBody sStream) (defScope sStream) .none kV10 dc10 pm10 an10 cd10 ct10), sl10⟩)
    (c10 : PySem.W.codeIn K cd10 "_law_stream" = true)
    (k10 : PySem.W.keepIn K (.ref f10) = true)
    (a11 : PySem.W.nsIn K mainGlobals "_law_view" = some (some (.ref f11)))
    (l11 : K.lookup f11 = some ⟨oc11, od11, .func (PySem.W.fnOf "_law_view" "_law_view" (defArgs sView) (defBody sView) (defScope sView) .none kV11 dc11 pm11 an11 cd11 ct11), sl11⟩)
    (c11 : PySem.W.codeIn K cd11 "_law_view" = true)
    (k11 : PySem.W.keepIn K (.ref f11) = true)
    (a12 : PySem.W.nsIn K mainGlobals "_law_copy" = some (some (.ref f12)))
    (l12 : K.lookup f12 = some ⟨oc12, od12, .func (PySem.W.fnOf "_law_copy" "_law_copy" (defArgs sCopy) (defBody sCopy) (defScope sCopy) .none kV12 dc12 pm12 an12 cd12 ct12), sl12⟩)
    (c12 : PySem.W.codeIn K cd12 "_law_copy" = true)
    (k12 : PySem.W.keepIn K (.ref f12) = true)
    (a13 : PySem.W.nsIn K mainGlobals "_law_ways" = some (some (.ref f13)))
    (l13 : K.lookup f13 = some ⟨oc13, od13, .func (PySem.W.fnOf "_law_ways" "_law_ways" (defArgs sWays) (defBody sWays) (defScope sWays) .none kV13 dc13 pm13 an13 cd13 ct13), sl13⟩)
    (c13 : PySem.W.codeIn K cd13 "_law_ways" = true)
    (k13 : PySem.W.keepIn K (.ref f13) = true)
    (a14 : PySem.W.nsIn K mainGlobals "_law_due" = some (some (.ref f14)))
    (l14 : K.lookup f14 = some ⟨oc14, od14, .func (PySem.W.fnOf "_law_due" "_law_due" (defArgs sDue) (defBody sDue) (defScope sDue) .none kV14 dc14 pm14 an14 cd14 ct14), sl14⟩)
    (c14 : PySem.W.codeIn K cd14 "_law_due" = true)
    (k14 : PySem.W.keepIn K (.ref f14) = true)
    (a15 : PySem.W.nsIn K mainGlobals "paper_judged" = some (some (.ref f15)))
    (l15 : K.lookup f15 = some ⟨oc15, od15, .func (PySem.W.fnOf "paper_judged" "paper_judged" (defArgs sJudged) (defBody sJudged) (defScope sJudged) .none kV15 dc15 pm15 an15 cd15 ct15), sl15⟩)
    (c15 : PySem.W.codeIn K cd15 "paper_judged" = true)
    (k15 : PySem.W.keepIn K (.ref f15) = true)
    (a17 : PySem.W.nsIn K mainGlobals "is_step" = some (some (.ref f17)))
    (l17 : K.lookup f17 = some ⟨oc17, od17, .func (PySem.W.fnOf "is_step" "is_step" (defArgs sStep) (defBody sStep) (defScope sStep) .none kV17 dc17 pm17 an17 cd17 ct17), sl17⟩)
    (c17 : PySem.W.codeIn K cd17 "is_step" = true)
    (k17 : PySem.W.keepIn K (.ref f17) = true)
    (a18 : PySem.W.nsIn K mainGlobals "tells_at" = some (some (.ref f18)))
    (l18 : K.lookup f18 = some ⟨oc18, od18, .func (PySem.W.fnOf "tells_at" "tells_at" (defArgs sTells) (defBody sTells) (defScope sTells) .none kV18 dc18 pm18 an18 cd18 ct18), sl18⟩)
    (c18 : PySem.W.codeIn K cd18 "tells_at" = true)
    (k18 : PySem.W.keepIn K (.ref f18) = true)
    (a16 : PySem.W.nsIn K mainGlobals "law" = some (some (.ref f16)))
    (l16 : K.lookup f16 = some ⟨oc16, od16, .func (PySem.W.fnOf "law" "law" (defArgs sLaw) (defBody sLaw) (defScope sLaw) .none kV16 dc16 pm16 an16 cd16 ct16), sl16⟩)
    (c16 : PySem.W.codeIn K cd16 "law" = true)
    (k16 : PySem.W.keepIn K (.ref f16) = true)
    (z_isinstance : PySem.W.nsIn K mainGlobals "isinstance" = some none)
    (z_bool : PySem.W.nsIn K mainGlobals "bool" = some none)
    (z_int : PySem.W.nsIn K mainGlobals "int" = some none)
    (z_list : PySem.W.nsIn K mainGlobals "list" = some none)
    (z_len : PySem.W.nsIn K mainGlobals "len" = some none)
    (z_range : PySem.W.nsIn K mainGlobals "range" = some none)
    (z_sorted : PySem.W.nsIn K mainGlobals "sorted" = some none)
    (z_set : PySem.W.nsIn K mainGlobals "set" = some none)
    (z_enumerate : PySem.W.nsIn K mainGlobals "enumerate" = some none)
    (z_all : PySem.W.nsIn K mainGlobals "all" = some none)
    (z_tuple : PySem.W.nsIn K mainGlobals "tuple" = some none) :
    ∃ fd : FuncData, (∀ (s : Shared) (v : Value), BindsTo s fd ⟨[v], []⟩ [("script", v)]) ∧ ∀ base : Heap, K.In base → base.Ns mainGlobals mg → FnOk l.prog w K mg base (CXE l.prog w) 4 fa fd ["script"] (spLaw K) := by
  have e := hfa.symm.trans (PySem.W.mg_of X G a16)
  cases e
  have m := fun {n : Str} {v : Value} (q : PySem.W.nsIn K mainGlobals n = some (some v)) => PySem.W.mg_of X G q
  have z := fun {n : Str} (q : PySem.W.nsIn K mainGlobals n = some none) => PySem.W.mg_none_of X G q
  have F1 := fun_mk (st := sReach) l1 c1 k1
  have F2 := fun_mk (st := sIn) l2 c2 k2
  have F3 := fun_mk (st := sLook) l3 c3 k3
  have F4 := fun_mk (st := sLTold) l4 c4 k4
  have F5 := fun_mk (st := sWithin) l5 c5 k5
  have F6 := fun_mk (st := sSteps) l6 c6 k6
  have F7 := fun_mk (st := sCell) l7 c7 k7
  have F8 := fun_mk (st := sWhole) l8 c8 k8
  have F9 := fun_mk (st := sDigits) l9 c9 k9
  have F10 := fun_mk (st := sStream) l10 c10 k10
  have F11 := fun_mk (st := sView) l11 c11 k11
  have F12 := fun_mk (st := sCopy) l12 c12 k12
  have F13 := fun_mk (st := sWays) l13 c13 k13
  have F14 := fun_mk (st := sDue) l14 c14 k14
  have F15 := fun_mk (st := sJudged) l15 c15 k15
  have F17 := fun_mk (st := sStep) l17 c17 k17
  have F18 := fun_mk (st := sTells) l18 c18 k18
  have F16 := fun_mk (st := sLaw) l16 c16 k16
  have b1 := F1.binds (ps := ["view"]) fun _ _ _ _ _ _ us hl => match us, hl with | [_], _ => rfl
  have b2 := F2.binds (ps := ["view", "things"]) fun _ _ _ _ _ _ us hl => match us, hl with | [_, _], _ => rfl
  have b3 := F3.binds (ps := ["view"]) fun _ _ _ _ _ _ us hl => match us, hl with | [_], _ => rfl
  have b4 := F4.binds (ps := ["told", "fields"]) fun _ _ _ _ _ _ us hl => match us, hl with | [_, _], _ => rfl
  have b5 := F5.binds (ps := ["told", "inside"]) fun _ _ _ _ _ _ us hl => match us, hl with | [_, _], _ => rfl
  have b6 := F6.binds (ps := ["view"]) fun _ _ _ _ _ _ us hl => match us, hl with | [_], _ => rfl
  have b7 := F7.binds (ps := ["script", "k"]) fun _ _ _ _ _ _ us hl => match us, hl with | [_, _], _ => rfl
  have b8 := F8.binds (ps := ["found"]) fun _ _ _ _ _ _ us hl => match us, hl with | [_], _ => rfl
  have b9 := F9.binds (ps := ["cell"]) fun _ _ _ _ _ _ us hl => match us, hl with | [_], _ => rfl
  have b10 := F10.binds (ps := ["script", "many"]) fun _ _ _ _ _ _ us hl => match us, hl with | [_, _], _ => rfl
  have b11 := F11.binds (ps := ["script"]) fun _ _ _ _ _ _ us hl => match us, hl with | [_], _ => rfl
  have b12 := F12.binds (ps := ["view"]) fun _ _ _ _ _ _ us hl => match us, hl with | [_], _ => rfl
  have b13 := F13.binds (ps := ["view"]) fun _ _ _ _ _ _ us hl => match us, hl with | [_], _ => rfl
  have b14 := F14.binds (ps := ["view"]) fun _ _ _ _ _ _ us hl => match us, hl with | [_], _ => rfl
  have b15 := F15.binds (ps := ["view", "triples"]) fun _ _ _ _ _ _ us hl => match us, hl with | [_, _], _ => rfl
  have b17 := F17.binds (ps := ["view", "ahead", "triple"]) fun _ _ _ _ _ _ us hl => match us, hl with | [_, _, _], _ => rfl
  have b18 := F18.binds (ps := ["told", "place", "thing"]) fun _ _ _ _ _ _ us hl => match us, hl with | [_, _, _], _ => rfl
  refine ⟨PySem.W.fnOf "law" "law" (defArgs sLaw) (defBody sLaw) (defScope sLaw) .none kV16 dc16 pm16 an16 cd16 ct16, fun s v => .of_eq rfl, fun base _ _ => ?_⟩
  have G4 := ok_ltold (P := l.prog) (w := w) (mg := mg) (base := base) F4
  have G3 := ok_look (P := l.prog) (w := w) (mg := mg) (base := base) F3 G4 (m a4) k4 b4
  have G6 := ok_steps (P := l.prog) (w := w) (mg := mg) (base := base) F6 (z z_list) (z z_enumerate) (z z_len)
  have G7 := ok_cell (P := l.prog) (w := w) (mg := mg) (base := base) F7 (z z_len)
  have G8 := ok_whole (P := l.prog) (w := w) (mg := mg) (base := base) F8 (z z_isinstance) (z z_int) (z z_bool)
  have G9 := ok_digits (P := l.prog) (w := w) (mg := mg) (base := base) F9 (z z_range)
  have G10 := ok_stream (P := l.prog) (w := w) (mg := mg) (base := base) F10 (z z_range) (z z_enumerate) G9 (m a9) k9 b9
  have G11 := ok_view (P := l.prog) (w := w) (mg := mg) (base := base) F11 (z z_range) (z z_len) G7 (m a7) k7 b7 G10 (m a10) k10 b10
  have G12 := ok_copy (P := l.prog) (w := w) (mg := mg) (base := base) F12 (z z_list)
  have G5 := ok_within (P := l.prog) (w := w) (mg := mg) (base := base) F5 (z z_all)
  have G2 := ok_in (P := l.prog) (w := w) (mg := mg) (base := base) F2 (z z_all) G5 (m a5) k5 b5
  have G18 := ok_tells (P := l.prog) (w := w) (mg := mg) (base := base) F18 (z z_len)
  have G17 := ok_step (P := l.prog) (w := w) (mg := mg) (base := base) F17 G18 (m a18) k18 b18
  have G15 := ok_judged (P := l.prog) (w := w) (mg := mg) (base := base) F15 (z z_sorted) G3 (m a3) k3 b3 G17 (m a17) k17 b17 G2 (m a2) k2 b2
  have G1 := ok_reach (P := l.prog) (w := w) (mg := mg) (base := base) F1 G3 (m a3) k3 b3 G6 (m a6) k6 b6
  have G13 := ok_ways (P := l.prog) (w := w) (mg := mg) (base := base) F13 (z z_list) (z z_enumerate) (z z_len) (z z_range)
  have G14 := ok_due (P := l.prog) (w := w) (mg := mg) (base := base) F14 (z z_sorted) G13 (m a13) k13 b13
  exact ok_law F16 (z z_isinstance) (z z_list) (z z_tuple) (z z_range) G11 (m a11) k11 b11 G12 (m a12) k12 b12 G14 (m a14) k14 b14 G1 (m a1) k1 b1 G8 (m a8) k8 b8 G15 (m a15) k15 b15
theorem walk {l : PySem.W.OpenLaw} {q : Program} {loose : List Str} {XP : (Str → Option Value) → Heap → Prop} {YP : World → Heap → Prop} {d : DefRec} {K : Params → PySem.W.Frag} (hn : l.most = some 63) (hdf : d.params.defaults = [])
    (hY : ∀ (w : World) (h : Heap), YP w h → (K w.params).In h)
    (F : ∀ (w : World) (mg : Str → Option Value) (fa : Addr) (h : Heap), (K w.params).In h → h.Ns mainGlobals mg → mg d.name = some (.ref fa) →
      ∃ fd : FuncData, (∀ (s : Shared) (u : Value), BindsTo s fd ⟨[u], []⟩ [("script", u)]) ∧ ∀ base : Heap, (K w.params).In base → base.Ns mainGlobals mg → FnOk l.prog w (K w.params) mg base (CXE l.prog w) 4 fa fd ["script"] (spLaw (K w.params))) :
    PySem.W.WalkO q loose XP YP l.row.toRowW d [] (fun f vs => PySem.call f vs) :=
  L2.walk_of (n := 63) (k := 4) (x := "script") (CX := fun w => CXE l.prog w) (sp := fun w => spLaw (K w.params)) hn (by decide) hdf ⟨rfl, by decide, by decide⟩ hY F (fun _ _ a ns hl _ hS => ⟨a, ns, rfl, hS, hl, fun _ => rfl⟩) fun _ _ _ _ _ z => noneE z
end K17
open PySem PySem.W PyProof.Rows
set_option maxRecDepth 100000 in
set_option maxHeartbeats 0 in
theorem PySem.Challenge.cw_stillheap_k17_reach_papers_told_holds : PySem.Challenge.rw_stillheap_k17_reach_papers_told.Holds := by
  w_on; o_law; k_head; (case hw => w_witness2)
  k_fill
  refine K17.walk (l := PySem.Challenge.rw_stillheap_k17_reach_papers_told) rfl rfl (fun w h Y => PySem.W.kIn_of Y) ?F
  case F =>
    intro w mg fa h KX G hmg
    refine' K17.all_mk KX G hmg ?a1 ?l1 ?c1 ?k1 ?a2 ?l2 ?c2 ?k2 ?a3 ?l3 ?c3 ?k3 ?a4 ?l4 ?c4 ?k4 ?a5 ?l5 ?c5 ?k5 ?a6 ?l6 ?c6 ?k6 ?a7 ?l7 ?c7 ?k7 ?a8 ?l8 ?c8 ?k8 ?a9 ?l9 ?c9 ?k9 ?a10 ?l10 ?c10 ?k10 ?a11 ?l11 ?c11 ?k11 ?a12 ?l12 ?c12 ?k12 ?a13 ?l13 ?c13 ?k13 ?a14 ?l14 ?c14 ?k14 ?a15 ?l15 ?c15 ?k15 ?a17 ?l17 ?c17 ?k17 ?a18 ?l18 ?c18 ?k18 ?a16 ?l16 ?c16 ?k16 ?z_isinstance ?z_bool ?z_int ?z_list ?z_len ?z_range ?z_sorted ?z_set ?z_enumerate ?z_all ?z_tuple
    (case a1 => k_is)
    (case l1 => k_is)
    (case c1 => k_is)
    (case k1 => k_is)
    (case a2 => k_is)
    (case l2 => k_is)
    (case c2 => k_is)
    (case k2 => k_is)
    (case a3 => k_is)
    (case l3 => k_is)
    (case c3 => k_is)
    (case k3 => k_is)
    (case a4 => k_is)
    (case l4 => k_is)
    (case c4 => k_is)
    (case k4 => k_is)
    (case a5 => k_is)
    (case l5 => k_is)
    (case c5 => k_is)
    (case k5 => k_is)
    (case a6 => k_is)
    (case l6 => k_is)
    (case c6 => k_is)
    (case k6 => k_is)
    (case a7 => k_is)
    (case l7 => k_is)
    (case c7 => k_is)
    (case k7 => k_is)
    (case a8 => k_is)
    (case l8 => k_is)
    (case c8 => k_is)
    (case k8 => k_is)
    (case a9 => k_is)
    (case l9 => k_is)
    (case c9 => k_is)
    (case k9 => k_is)
    (case a10 => k_is)
    (case l10 => k_is)
    (case c10 => k_is)
    (case k10 => k_is)
    (case a11 => k_is)
    (case l11 => k_is)
    (case c11 => k_is)
    (case k11 => k_is)
    (case a12 => k_is)
    (case l12 => k_is)
    (case c12 => k_is)
    (case k12 => k_is)
    (case a13 => k_is)
    (case l13 => k_is)
    (case c13 => k_is)
    (case k13 => k_is)
    (case a14 => k_is)
    (case l14 => k_is)
    (case c14 => k_is)
    (case k14 => k_is)
    (case a15 => k_is)
    (case l15 => k_is)
    (case c15 => k_is)
    (case k15 => k_is)
    (case a17 => k_is)
    (case l17 => k_is)
    (case c17 => k_is)
    (case k17 => k_is)
    (case a18 => k_is)
    (case l18 => k_is)
    (case c18 => k_is)
    (case k18 => k_is)
    (case a16 => k_is)
    (case l16 => k_is)
    (case c16 => k_is)
    (case k16 => k_is)
    (case z_isinstance => k_is)
    (case z_bool => k_is)
    (case z_int => k_is)
    (case z_list => k_is)
    (case z_len => k_is)
    (case z_range => k_is)
    (case z_sorted => k_is)
    (case z_set => k_is)
    (case z_enumerate => k_is)
    (case z_all => k_is)
    (case z_tuple => k_is)
#print axioms PySem.Challenge.cw_stillheap_k17_reach_papers_told_holds
end
