import PyProof.Rows.All
import Wide.All
import OpenK.AllK
import Wide.FinOn
import PyProof.EqAt
import PyProof.EqKinds
import PyProof.TupleCall
import OpenK.KCls
import PyProof.ExcClass2
import PyProof.ExcBaseAll.ValueError
import PyProof.ExcArgs
import PyProof.Rows.Exc
import KE.KIsAll
import PyProof.StationsW
import PyProof.EnumFor
import PyProof.EnumStmt
import PyProof.EnumMake
import PyProof.NeKinds
import PyProof.Rows.SumAny
import KE.KDictSum
import PyProof.Rows.SortWalk
import PyProof.Rows.Range3
import PyProof.Rows.SetFrom
import KE.KEqDict
import PyProof.Rows.DictUnroll
import KE.KRevSl
import PyProof.AutoListH
import PySem.Challenge.RW_stillheap_k20_held_only_by
section
set_option Elab.async false
set_option linter.all false
set_option maxRecDepth 100000
/-! THE HAND LAYER, for ints, bools, texts, own classes, LISTS and tuples (index, slices, in, append, pop ..), calls, loops. Paste it whole ahead of your own text; what your proof does not reach may be deleted. -/
namespace L2
open PySem PySem.Spec PyProof.Rows

/-- a key: an int or a str -/
abbrev Key := Sum Int Str
def keyIs : Key → Value → Bool
  | .inl k, v => Value.isInt k v
  | .inr x, v => Value.isStrOf x v
def keyH (w : World) : Key → Int
  | .inl k => hashInt k
  | .inr x => hashStr w x
theorem keyIs_shape : ∀ {k : Key} {v : Value}, keyIs k v = true → (∃ i t, k = Sum.inl i ∧ v = Value.int i t) ∨ (∃ x t, k = Sum.inr x ∧ v = Value.str x t)
  | .inl i, v, h => by
    obtain ⟨t, e⟩ := Value.isInt_shape (k := i) (v := v) h
    exact .inl ⟨i, t, rfl, e⟩
  | .inr x, v, h => by
    obtain ⟨t, e⟩ := Value.isStrOf_shape (x := x) (v := v) h
    exact .inr ⟨x, t, rfl, e⟩
theorem keyIs_int (i : Int) (t : Tok) : keyIs (.inl i) (.int i t) = true := by simp [keyIs, Value.isInt]
theorem keyIs_str (x : Str) (t : Tok) : keyIs (.inr x) (.str x t) = true := by simp [keyIs, Value.isStrOf]
theorem key_ll (a b : Int) : decide ((Sum.inl a : Key) = Sum.inl b) = (a == b) := by
  by_cases e : a = b
  · subst e; simp
  · have h : ¬ (Sum.inl a : Key) = Sum.inl b := fun q => e (Sum.inl.inj q)
    rw [decide_eq_false h]
    exact (beq_eq_false_iff_ne.mpr e).symm
theorem key_rr (a b : Str) : decide ((Sum.inr a : Key) = Sum.inr b) = decide (a = b) := by
  by_cases e : a = b
  · subst e; simp
  · have h : ¬ (Sum.inr a : Key) = Sum.inr b := fun q => e (Sum.inr.inj q)
    rw [decide_eq_false h, decide_eq_false e]
theorem key_lr (a : Int) (b : Str) : decide ((Sum.inl a : Key) = Sum.inr b) = false := decide_eq_false (fun q => nomatch q)
theorem key_rl (a : Str) (b : Int) : decide ((Sum.inr a : Key) = Sum.inl b) = false := decide_eq_false (fun q => nomatch q)

def mixKind (prog : Program) (w : World) : PySem.KeyKind prog w Key where
  is := keyIs
  hash := keyH w
  inj := fun v a b ha hb => by
    rcases keyIs_shape ha with ⟨i, t, rfl, rfl⟩ | ⟨x, t, rfl, rfl⟩
    · rcases keyIs_shape hb with ⟨j, u, rfl, e⟩ | ⟨y, u, rfl, e⟩
      · injection e with e1 _; rw [e1]
      · exact nomatch e
    · rcases keyIs_shape hb with ⟨j, u, rfl, e⟩ | ⟨y, u, rfl, e⟩
      · exact nomatch e
      · injection e with e1 _; rw [e1]
  byValue := fun k v h => by
    rcases keyIs_shape h with ⟨i, t, rfl, rfl⟩ | ⟨x, t, rfl, rfl⟩ <;> rfl
  pyHash := fun hv h => by
    rcases keyIs_shape hv with ⟨i, t, rfl, rfl⟩ | ⟨x, t, rfl, rfl⟩
    · exact wpAny_pyHash_int h
    · exact wpAny_pyHash_str h
  eqBool := fun hu hv h => by
    rcases keyIs_shape hu with ⟨i, t, rfl, rfl⟩ | ⟨x, t, rfl, rfl⟩
    · rcases keyIs_shape hv with ⟨j, u, rfl, rfl⟩ | ⟨y, u, rfl, rfl⟩
      · rw [key_ll] at h; exact wpAny_eqBool_int h
      · rw [key_lr] at h; exact SeqAt.EqAt.int_str i t y u _ _ _ _ h
    · rcases keyIs_shape hv with ⟨j, u, rfl, rfl⟩ | ⟨y, u, rfl, rfl⟩
      · rw [key_rl] at h; exact SeqAt.EqAt.str_int x t j u _ _ _ _ h
      · rw [key_rr] at h; exact wpAny_eqBool_str h
  «strs» := fun k x t v h => by
    rcases keyIs_shape h with ⟨i, u, rfl, e⟩ | ⟨y, u, rfl, e⟩
    · exact nomatch e
    · injection e with e1 _
      subst e1
      cases v <;> rfl

theorem mixKind_is (prog : Program) (w : World) (k : Key) (v : Value) : (mixKind prog w).is k v = keyIs k v := rfl
theorem mixKind_int (prog : Program) (w : World) (i : Int) (t : Tok) : (mixKind prog w).is (.inl i) (.int i t) = true := keyIs_int i t
theorem mixKind_str (prog : Program) (w : World) (x : Str) (t : Tok) : (mixKind prog w).is (.inr x) (.str x t) = true := keyIs_str x t
end L2

namespace L2
open PySem PySem.Spec PyProof.Rows

/-- a value, without the heap -/
inductive V where
  | non | bl (b : Bool) | int (i : Int) | str (x : Str) | byt (b : Array UInt8) | flt (b : UInt64) | ref (a : Addr) | ty (n : String)
  deriving DecidableEq

def RelV : V → Value → Prop
  | .non, u => u = Value.none
  | .bl b, u => u = Value.bool b
  | .int i, u => ∃ t, u = Value.int i t
  | .str x, u => ∃ t, u = Value.str x t
  | .byt b, u => ∃ t, u = Value.bytes b t
  | .flt b, u => ∃ t, u = Value.float b t
  | .ref a, u => u = Value.ref a
  | .ty n, u => u = Value.type n

abbrev Vals : List V → List Value → Prop := Paired RelV
theorem Vals.length {xs : List V} {us : List Value} (r : Vals xs us) : xs.length = us.length := Paired.length r
theorem Vals.get : ∀ {xs : List V} {us : List Value} {i : Nat} {x : V}, Vals xs us → xs[i]? = some x → ∃ u, us[i]? = some u ∧ RelV x u
  | _, _, _, _, .nil, e => by simp at e
  | _, _, 0, _, .cons r _, e => by simp at e; subst e; exact ⟨_, rfl, r⟩
  | _, _, i + 1, x, .cons _ t, e => by
    obtain ⟨u, h1, h2⟩ := Vals.get (i := i) (x := x) t (by simpa using e)
    exact ⟨u, by simpa using h1, h2⟩
theorem Vals.set {x : V} {u : Value} (r : RelV x u) : ∀ {xs : List V} {us : List Value} (i : Nat), Vals xs us → Vals (xs.set i x) (us.set i u)
  | _, _, _, .nil => .nil
  | _, _, 0, .cons _ t => .cons r t
  | _, _, i + 1, .cons q t => .cons q (Vals.set r i t)
theorem Vals.append : ∀ {xs ys : List V} {us ws : List Value}, Vals xs us → Vals ys ws → Vals (xs ++ ys) (us ++ ws)
  | _, _, _, _, .nil, s => s
  | _, _, _, _, .cons r t, s => .cons r (Vals.append t s)
theorem Vals.take : ∀ {xs : List V} {us : List Value} (n : Nat), Vals xs us → Vals (xs.take n) (us.take n)
  | _, _, 0, _ => .nil
  | _, _, _ + 1, .nil => .nil
  | _, _, n + 1, .cons r t => .cons r (Vals.take n t)
theorem Vals.drop : ∀ {xs : List V} {us : List Value} (n : Nat), Vals xs us → Vals (xs.drop n) (us.drop n)
  | _, _, 0, r => r
  | _, _, _ + 1, .nil => .nil
  | _, _, n + 1, .cons _ t => Vals.drop n t
theorem Vals.none_of : ∀ {xs : List V} {us : List Value} {i : Nat}, Vals xs us → xs[i]? = none → us[i]? = none := fun {xs us i} r e => by
  have h1 := r.length
  have h2 : xs.length ≤ i := List.getElem?_eq_none_iff.mp e
  exact List.getElem?_eq_none_iff.mpr (by omega)

def RelO : Option V → Option Value → Prop
  | some v, some u => RelV v u
  | none, none => True
  | _, _ => False
def KV {κ : Type} : List (κ × V) → List (κ × Value) → Prop := Paired fun (p : κ × V) (q : κ × Value) => p.1 = q.1 ∧ RelV p.2 q.2

/-- a key of a dict (00_mix): an int or a text -/
def kV : Key → V
  | .inl i => .int i
  | .inr x => .str x

/-- what stands at a tracked address -/
inductive HO where
  /-- a list -/
  | lst (xs : List V)
  /-- a tuple (never changes) -/
  | tup (xs : List V)
  /-- a dict whose keys are ints and texts; one whose keys are tuples of ints and texts (the empty one is both) -/
  | dK (kvs : List (Key × V)) | dT (kvs : List (List Key × V))
  /-- a set of ints: its members, its size -/
  | set (S : Int → Bool) (n : Nat)
  /-- an instance of the class at C, its dict at dx, its attributes -/
  | ins (C dx : Addr) (fs : List (Str × V))
  /-- the dict of the instance at x -/
  | own (x : Addr)
  /-- the dict of an exception -/
  | xd (fs : List (Str × V))
  /-- a bound method, f of x -/
  | met (f x : Addr)
  /-- a range object lo, lo + 1, .. below hi -/
  | rng (lo hi : Int)
  /-- a thing that is known to the object (the script; a dict while a loop walks it): read, never written while it is so -/
  | frz (o : Obj) (u : HO)
  /-- a code object's table -/
  | tbl (ps : Array Value)
  /-- any other thing, by what is true of its one object (a def of one's own: SetO a S n := HO.ext fun h => ..) -/
  | ext (φ : Heap → Prop)

abbrev Hp := Addr → Option HO
def upd (H : Hp) (a : Addr) (o : HO) : Hp := fun b => if b = a then some o else H b
theorem upd_same {H : Hp} {a : Addr} {o : HO} : upd H a o a = some o := by unfold upd; rw [if_pos rfl]
theorem upd_ne {H : Hp} {a b : Addr} {o : HO} (h : b ≠ a) : upd H a o b = H b := by unfold upd; rw [if_neg h]
theorem upd_upd {H : Hp} {a : Addr} {o u : HO} : upd (upd H a o) a u = upd H a u := by
  funext b; unfold upd; split <;> rfl
/-- two objects of different content stand apart -/
theorem ne_of {H : Hp} {a b : Addr} {o u : HO} (h : H a = some o) (h' : H b = some u) (d : o ≠ u) : a ≠ b := by
  intro e; subst e; rw [h] at h'; exact d (Option.some.inj h')
theorem ne_of_none {H : Hp} {a b : Addr} {o : HO} (h : H a = some o) (h' : H b = none) : a ≠ b := by
  intro e; subst e; rw [h] at h'; cases h'

section
variable (P : Program) (w : World)
def ObjOk (H : Hp) (h : Heap) (a : Addr) : HO → Prop
  | .lst xs => xs.length ≤ sizeLine ∧ ∃ (its : List Value) (n : Nat), Vals xs its ∧ h.get? a = some { cls := .type "list", data := .seq its.toArray n }
  | .tup xs => xs.length ≤ sizeLine ∧ ∃ its : List Value, Vals xs its ∧ IsTup h a its.toArray
  | .dK kvs => kvs.length ≤ sizeLine ∧ (a == sysModules) = false ∧ ∃ vs, KV kvs vs ∧ h.DictOf (mixKind P w) a vs
  | .dT kvs => kvs.length ≤ sizeLine ∧ (a == sysModules) = false ∧ ∃ xs : List (List Key × Addr × Value),
      Paired (fun (p : List Key × V) (q : List Key × Addr × Value) => p.1 = q.1 ∧ H q.2.1 = some (.tup (p.1.map kV)) ∧ RelV p.2 q.2.2) kvs xs ∧
      ∃ o es ep, h.get? a = some o ∧ o.ExactDict ∧ o.data = .dict es ep ∧ es.toList = xs.map (entryOfKey (tupleKind (mixKind P w))) ∧ (xs.map (·.1)).Nodup
  | .set S n => h.SetOf (intKind P w) a S n
  | .ins C dx fs => H dx = some (.own a) ∧ fs.length ≤ 1000 ∧ dx ≠ a ∧ h.get? a = some (PySem.W.instObj C dx) ∧
      ∃ mA, h.Ns1 dx mA ∧ (∀ f, RelO (fs.lookup f) (mA f)) ∧ PySem.Within mA (fs.map (·.1))
  | .own _ => ∃ o, h.get? a = some o
  | .xd fs => ∃ mA, h.Ns1 a mA ∧ ∀ f, RelO (fs.lookup f) (mA f)
  | .rng lo hi => ∃ t u v, h.get? a = some { cls := .type "range", data := .fields #[.int lo t, .int hi u, .int 1 v] }
  | .frz o u => h.get? a = some o ∧ ObjOk H h a u
  | .tbl ps => h.get? a = some { cls := .none, data := .fields ps }
  | .met f x => h.get? a = some (PySem.W.methodObj (.ref f) (.ref x))
  | .ext φ => φ h ∧ (∃ o, h.get? a = some o) ∧ ∀ h1 h2 : Heap, φ h1 → (∀ o, h1.get? a = some o → h2.get? a = some o) → φ h2
/-- the abstract heap is held -/
def HOk (H : Hp) (h : Heap) : Prop := ∀ a o, H a = some o → ObjOk P w H h a o
end

section
variable {P : Program} {w : World} {H H' : Hp} {h h' : Heap} {a : Addr} {o : HO}
theorem ObjOk.lt (x : ObjOk P w H h a o) : a < h.objs.size := by
  cases o with
  | lst xs => obtain ⟨_, _, _, _, e⟩ := x; exact Heap.lt_size e
  | tup xs => obtain ⟨_, _, _, p⟩ := x; exact p.lt
  | dK kvs => obtain ⟨_, _, _, _, o, _, _, e, _⟩ := x; exact Heap.lt_size e
  | dT kvs => obtain ⟨_, _, _, _, o, _, _, e, _⟩ := x; exact Heap.lt_size e
  | set S n => obtain ⟨o, _, _, _, e, _⟩ := x; exact Heap.lt_size e
  | ins C dx fs => obtain ⟨_, _, _, e, _⟩ := x; exact Heap.lt_size e
  | own y => obtain ⟨_, e⟩ := x; exact Heap.lt_size e
  | xd fs => obtain ⟨_, ⟨_, _, _, e, _⟩, _⟩ := x; exact Heap.lt_size e
  | rng lo hi => obtain ⟨_, _, _, e⟩ := x; exact Heap.lt_size e
  | frz ob u => obtain ⟨e, _⟩ := x; exact Heap.lt_size e
  | tbl ps => exact Heap.lt_size (show h.get? a = some _ from x)
  | met f y => exact Heap.lt_size (show h.get? a = some _ from x)
  | ext φ => obtain ⟨_, ⟨_, e⟩, _⟩ := x; exact Heap.lt_size e
theorem Paired.mapP {α β : Type} {F G : α → β → Prop} : ∀ {l₁ : List α} {l₂ : List β}, Paired F l₁ l₂ → (∀ a b, F a b → G a b) → Paired G l₁ l₂
  | _, _, .nil, _ => .nil
  | _, _, .cons r t, f => .cons (f _ _ r) (Paired.mapP t f)
theorem Paired.imp' {α β : Type} {F G : α → β → Prop} (f : ∀ a b, F a b → G a b) {l₁ : List α} {l₂ : List β} (r : Paired F l₁ l₂) : Paired G l₁ l₂ := Paired.mapP r f
/-- what an object's description leans on: its own object, its own dict, the tuples -/
theorem ObjOk.stay (x : ObjOk P w H h a o) (k : ∀ b u, (b = a ∨ H b = some (.own a)) → h.get? b = some u → h'.get? b = some u)
    (ho : ∀ b, H b = some (.own a) → H' b = some (.own a)) (ht : ∀ b xs, H b = some (.tup xs) → H' b = some (.tup xs)) : ObjOk P w H' h' a o := by
  induction o with
  | lst xs => obtain ⟨z, its, n, r, e⟩ := x; exact ⟨z, its, n, r, k _ _ (.inl rfl) e⟩
  | tup xs => obtain ⟨z, its, r, ob, e, c⟩ := x; exact ⟨z, its, r, ob, k _ _ (.inl rfl) e, c⟩
  | dK kvs => obtain ⟨z, y, vs, r, ob, es, ep, e, c⟩ := x; exact ⟨z, y, vs, r, ob, es, ep, k _ _ (.inl rfl) e, c⟩
  | dT kvs =>
    obtain ⟨z, y, xs, r, ob, es, ep, e, c⟩ := x
    exact ⟨z, y, xs, Paired.mapP r fun p q z => ⟨z.1, ht _ _ z.2.1, z.2.2⟩, ob, es, ep, k _ _ (.inl rfl) e, c⟩
  | set S n => obtain ⟨ob, es, ep, t, e, c⟩ := x; exact ⟨ob, es, ep, t, k _ _ (.inl rfl) e, c⟩
  | ins C dx fs =>
    obtain ⟨d, z, ne, e, mA, ⟨od, es, ep, e2, c⟩, r⟩ := x
    exact ⟨ho _ d, z, ne, k _ _ (.inl rfl) e, mA, ⟨od, es, ep, k _ _ (.inr d) e2, c⟩, r⟩
  | own y => obtain ⟨ob, e⟩ := x; exact ⟨ob, k _ _ (.inl rfl) e⟩
  | xd fs => obtain ⟨mA, ⟨od, es, ep, e, c⟩, r⟩ := x; exact ⟨mA, ⟨od, es, ep, k _ _ (.inl rfl) e, c⟩, r⟩
  | rng lo hi => obtain ⟨t, u, v, e⟩ := x; exact ⟨t, u, v, k _ _ (.inl rfl) e⟩
  | frz ob u ih => obtain ⟨e, q⟩ := x; exact ⟨k _ _ (.inl rfl) e, ih q⟩
  | tbl ps =>
    have e : h.get? a = some { cls := .none, data := .fields ps } := x
    show h'.get? a = some { cls := .none, data := .fields ps }
    exact k a _ (.inl rfl) e
  | met f y =>
    have e : h.get? a = some (PySem.W.methodObj (.ref f) (.ref y)) := x
    show h'.get? a = some (PySem.W.methodObj (.ref f) (.ref y))
    exact k a _ (.inl rfl) e
  | ext φ => obtain ⟨p, ⟨o, e⟩, st⟩ := x; exact ⟨st _ _ p fun o q => k _ _ (.inl rfl) q, ⟨o, k _ _ (.inl rfl) e⟩, st⟩
theorem HOk.lt (x : HOk P w H h) (e : H a = some o) : a < h.objs.size := (x a o e).lt
theorem HOk.fresh (x : HOk P w H h) (e : h.objs.size ≤ a) : H a = none := by
  cases q : H a with
  | none => rfl
  | some u => exact absurd (Nat.lt_of_lt_of_le (x.lt q) e) (Nat.lt_irrefl _)
/-- every object of the heap is kept -/
theorem HOk.kept (x : HOk P w H h) (k : ∀ b u, h.get? b = some u → h'.get? b = some u) : HOk P w H h' := fun a o e =>
  (x a o e).stay (fun b u _ q => k b u q) (fun _ q => q) fun _ _ q => q
/-- a new object is laid and tracked -/
theorem HOk.laid (x : HOk P w H h) (k : ∀ b u, h.get? b = some u → h'.get? b = some u) (hp : h.objs.size ≤ a) (new : ObjOk P w (upd H a o) h' a o) : HOk P w (upd H a o) h' := fun b u e => by
  have hn := x.fresh hp
  by_cases hb : b = a
  · subst hb; rw [upd_same] at e; cases e; exact new
  · rw [upd_ne hb] at e
    exact (x b u e).stay (fun c v _ q => k c v q) (fun c q => by rw [upd_ne (ne_of_none q hn)]; exact q) fun c xs q => by rw [upd_ne (ne_of_none q hn)]; exact q
end

/-- what may be read as u: it is u, or a known u -/
def Rd (H : Hp) (a : Addr) (u : HO) : Prop := H a = some u ∨ ∃ o, H a = some (.frz o u)
theorem Rd.of {H : Hp} {a : Addr} {u : HO} (h : H a = some u) : Rd H a u := .inl h
theorem Rd.ok {P : Program} {w : World} {H : Hp} {h : Heap} {a : Addr} {u : HO} (r : Rd H a u) (x : HOk P w H h) : ObjOk P w H h a u := by
  rcases r with r | ⟨o, r⟩
  · exact x a u r
  · obtain ⟨_, q⟩ := x a _ r
    exact q
/-- what may be written -/
def Mut : Option HO → Prop
  | some (.lst _) => True
  | some (.dK _) => True
  | some (.dT _) => True
  | some (.set _ _) => True
  | some (.ins _ _ _) => True
  | some (.ext _) => True
  | _ => False
section
variable {P : Program} {w : World} {H : Hp} {h h' : Heap} {x e : Addr} {o' : HO}
/-- the object at e is changed: x itself, or the dict of the instance x -/
theorem HOk.write (ok : HOk P w H h) (mu : Mut (H x)) (he : e = x ∨ H e = some (.own x)) (k : ∀ b u, b ≠ e → h.get? b = some u → h'.get? b = some u) (heo : ∃ u, h'.get? e = some u)
    (new : ObjOk P w (upd H x o') h' x o') : HOk P w (upd H x o') h' := fun b u q => by
  have nown : ∀ c y, H c = some (.own y) → c ≠ x := fun c y r z => by subst z; rw [r] at mu; exact mu
  have ntup : ∀ c xs, H c = some (.tup xs) → c ≠ x := fun c xs r z => by subst z; rw [r] at mu; exact mu
  by_cases hb : b = x
  · subst hb; rw [upd_same] at q; cases q; exact new
  · rw [upd_ne hb] at q
    by_cases hbe : b = e
    · have q' : H b = some (.own x) := by
        rcases he with z | z
        · exact absurd (hbe.trans z) hb
        · rw [hbe]; exact z
      rw [q] at q'; cases q'
      obtain ⟨v, hv⟩ := heo
      exact ⟨v, by rw [hbe]; exact hv⟩
    · refine (ok b u q).stay (fun c v hc r => k c v ?_ r) (fun c r => by rw [upd_ne (nown c b r)]; exact r) fun c xs r => by rw [upd_ne (ntup c xs r)]; exact r
      rcases hc with rfl | hc
      · exact hbe
      · rintro rfl
        rcases he with z | z
        · exact nown c b hc z
        · rw [hc] at z; cases z; exact hb rfl
end

/-! ### kept unless tracked; of the frames at fs (the callers') the slots may change (an exception that passes writes there); of the records at ex (iterators) nothing is said -/
structure Un (fs ex : List Addr) (H H' : Hp) (h h' : Heap) : Prop where
  keep : ∀ b o, h.get? b = some o → H b = none → b ∉ fs → b ∉ ex → h'.get? b = some o
  slot : ∀ b o, h.get? b = some o → H b = none → b ∈ fs → b ∉ ex → ∃ sl, h'.get? b = some { o with slots := sl }
  free : ∀ b o, h.get? b = some o → H b = none → b ∉ ex → H' b = none
  there : ∀ b o, h.get? b = some o → b ∉ ex → ∃ o', h'.get? b = some o'
  tups : ∀ b xs, H b = some (.tup xs) → H' b = some (.tup xs)
  frzs : ∀ b o u, H b = some (.frz o u) → H' b = some (.frz o u)
  tbls : ∀ b ps, H b = some (.tbl ps) → ∃ more, H' b = some (.tbl (ps ++ more))
section
variable {fs fs' ex ex' : List Addr} {H H1 H2 : Hp} {h h1 h2 h' : Heap} {a x e : Addr} {o : HO}
theorem Un.any (u : Un fs ex H H1 h h1) {b : Addr} {ob : Obj} (q : h.get? b = some ob) (n : H b = none) (hx : b ∉ ex) : ∃ sl, h1.get? b = some { ob with slots := sl } := by
  by_cases hb : b ∈ fs
  · exact u.slot b ob q n hb hx
  · exact ⟨ob.slots, u.keep b ob q n hb hx⟩
theorem Un.trans (a : Un fs ex H H1 h h1) (b : Un fs ex H1 H2 h1 h2) : Un fs ex H H2 h h2 where
  keep := fun c ob q n hc hx => b.keep c ob (a.keep c ob q n hc hx) (a.free c ob q n hx) hc hx
  slot := fun c ob q n hc hx => by
    obtain ⟨sl, e1⟩ := a.slot c ob q n hc hx
    obtain ⟨sl', e2⟩ := b.slot c _ e1 (a.free c ob q n hx) hc hx
    exact ⟨sl', e2⟩
  free := fun c ob q n hx => by
    obtain ⟨o', e1⟩ := a.there c ob q hx
    exact b.free c o' e1 (a.free c ob q n hx) hx
  there := fun c ob q hx => by
    obtain ⟨o', e1⟩ := a.there c ob q hx
    exact b.there c o' e1 hx
  tups := fun c xs q => b.tups c xs (a.tups c xs q)
  frzs := fun c ob xs q => b.frzs c ob xs (a.frzs c ob xs q)
  tbls := fun c ps q => by
    obtain ⟨m1, e1⟩ := a.tbls c ps q
    obtain ⟨m2, e2⟩ := b.tbls c _ e1
    exact ⟨m1 ++ m2, by rw [e2, Array.append_assoc]⟩
theorem Un.kept (k : ∀ b u, h.get? b = some u → h'.get? b = some u) : Un fs ex H H h h' :=
  ⟨fun b ob q _ _ _ => k b ob q, fun b ob q _ _ _ => ⟨ob.slots, k b ob q⟩, fun _ _ _ n _ => n, fun b ob q _ => ⟨ob, k b ob q⟩, fun _ _ q => q, fun _ _ _ q => q, fun _ ps q => ⟨#[], by rw [q]; simp⟩⟩
theorem Un.refl : Un fs ex H H h h := Un.kept fun _ _ q => q
theorem Un.laid (k : ∀ b u, h.get? b = some u → h'.get? b = some u) (hp : h.objs.size ≤ a) (hn : H a = none) : Un fs ex H (upd H a o) h h' where
  keep := fun b u q _ _ _ => k b u q
  slot := fun b u q _ _ _ => ⟨u.slots, k b u q⟩
  free := fun b u q n _ => by rw [upd_ne (Nat.ne_of_lt (Nat.lt_of_lt_of_le (Heap.lt_size q) hp))]; exact n
  there := fun b u q _ => ⟨u, k b u q⟩
  tups := fun b xs q => by rw [upd_ne (ne_of_none q hn)]; exact q
  frzs := fun b u xs q => by rw [upd_ne (ne_of_none q hn)]; exact q
  tbls := fun b ps q => ⟨#[], by rw [upd_ne (ne_of_none q hn), q]; simp⟩
theorem Un.write (mu : Mut (H x)) (he : e = x ∨ H e = some (.own x)) (k : ∀ b u, b ≠ e → h.get? b = some u → h'.get? b = some u) (heo : ∃ u, h'.get? e = some u) : Un fs ex H (upd H x o) h h' := by
  have hx : ∀ b, H b = none → b ≠ x := fun b n z => by subst z; rw [n] at mu; exact mu
  have hb : ∀ b, H b = none → b ≠ e := fun b n z => by
    subst z
    rcases he with r | r
    · exact hx b n r
    · rw [n] at r; cases r
  have hm : ∀ b u, H b = some u → ¬ Mut (some u) → b ≠ x := fun b u q nm z => by subst z; rw [q] at mu; exact nm mu
  refine ⟨fun b u q n _ _ => k b u (hb b n) q, fun b u q n _ _ => ⟨u.slots, k b u (hb b n) q⟩, fun b u q n _ => by rw [upd_ne (hx b n)]; exact n, fun b u q _ => ?_,
    fun b xs q => by rw [upd_ne (hm b _ q fun z => z)]; exact q, fun b u xs q => by rw [upd_ne (hm b _ q fun z => z)]; exact q, fun b ps q => ⟨#[], by rw [upd_ne (hm b _ q fun z => z), q]; simp⟩⟩
  by_cases hbe : b = e
  · subst hbe; exact heo
  · exact ⟨u, k b u hbe q⟩
theorem Un.mono (u : Un fs ex H H1 h h1) (hs : ∀ b ∈ fs, b ∈ fs') (hx : ∀ b ∈ ex, b ∈ ex') : Un fs' ex' H H1 h h1 :=
  ⟨fun b ob q n hb he => u.keep b ob q n (fun z => hb (hs b z)) fun z => he (hx b z), fun _ _ q n _ he => u.any q n fun z => he (hx _ z), fun b ob q n he => u.free b ob q n fun z => he (hx b z), fun b ob q he => u.there b ob q fun z => he (hx b z), u.tups, u.frzs, u.tbls⟩
end

/-! ### the heap without what is tracked -/
def trk (h : Heap) (H : Hp) : List Addr := (List.range h.objs.size).filter fun a => (H a).isSome
def hidT (h : Heap) (H : Hp) : Heap := PySem.W.hideAll h (trk h H)
theorem hidT_size (h : Heap) (H : Hp) : (hidT h H).objs.size = h.objs.size := PySem.W.hideAll_size _ _
theorem hidT_get {h : Heap} {H : Hp} {b : Addr} {o : Obj} (e : h.get? b = some o) (n : H b = none) : (hidT h H).get? b = some o :=
  PySem.W.hideAll_get _ e fun hm => by
    have q : (H b).isSome = true := (List.mem_filter.mp hm).2
    rw [n] at q; simp at q
theorem of_hidT {h : Heap} {H : Hp} {b : Addr} {o : Obj} (e : (hidT h H).get? b = some o) : h.get? b = some o ∧ H b = none := by
  have e' : h.get? b = some o := PySem.W.of_hideAll (trk h H) e
  refine ⟨e', ?_⟩
  cases q : H b with
  | none => rfl
  | some x =>
    have hm : b ∈ trk h H := List.mem_filter.mpr ⟨List.mem_range.mpr (Heap.lt_size e'), by simp [q]⟩
    have z : (hidT h H).get? b = none := PySem.W.hideAll_none (trk h H) hm
    rw [z] at e; cases e

/-! ### OpenK's ledger, filled with every new object but one -/
def allNews (g h : Heap) (L : Addr) : List (Addr × Obj) := (List.range h.objs.size).filterMap fun a => if a = L ∨ (g.get? a).isSome = true then none else (h.get? a).map fun o => (a, o)
theorem mem_allNews {g h : Heap} {L a : Addr} {o : Obj} (h1 : a ≠ L) (h2 : g.get? a = none) (h3 : h.get? a = some o) : (a, o) ∈ allNews g h L :=
  List.mem_filterMap.mpr ⟨a, List.mem_range.mpr (Heap.lt_size h3), by simp [h1, h2, h3]⟩
theorem of_mem_allNews {g h : Heap} {L : Addr} {p : Addr × Obj} (hp : p ∈ allNews g h L) : p.1 ≠ L ∧ g.get? p.1 = none ∧ h.get? p.1 = some p.2 := by
  obtain ⟨b, _, e⟩ := List.mem_filterMap.mp hp
  split at e
  · cases e
  · rename_i hn
    cases q : h.get? b with
    | none => rw [q] at e; simp at e
    | some u =>
      rw [q] at e
      simp only [Option.map_some, Option.some.injEq] at e
      subst e
      refine ⟨fun z => hn (.inl z), ?_, q⟩
      show g.get? b = none
      cases r : g.get? b with
      | none => rfl
      | some v => exact (hn (.inr (by simp [r]))).elim
def rest (g h : Heap) (L d : Addr) : List (Addr × Obj) := (allNews g h L).filter fun p => decide (p.1 ≠ d)
theorem rest_ne {g h : Heap} {L d : Addr} : ∀ p ∈ rest g h L d, p.1 ≠ d := fun p hp => of_decide_eq_true (List.mem_filter.mp hp).2
theorem mem_rest {g h : Heap} {L d a : Addr} {o : Obj} (h1 : a ≠ L) (h2 : g.get? a = none) (h3 : h.get? a = some o) (h4 : a ≠ d) : (a, o) ∈ rest g h L d :=
  List.mem_filter.mpr ⟨mem_allNews h1 h2 h3, decide_eq_true h4⟩
theorem news_all {g h : Heap} {L : Addr} : News g L h (allNews g h L) := fun p hp => let ⟨a, b, c⟩ := of_mem_allNews hp; ⟨c, a, b⟩
theorem news_at {g h : Heap} {L d : Addr} {o : Obj} (h1 : d ≠ L) (h2 : g.get? d = none) (h3 : h.get? d = some o) : News g L h ((d, o) :: rest g h L d) := fun p hp => by
  rcases List.mem_cons.mp hp with rfl | hp
  · exact ⟨h3, h1, h2⟩
  · exact news_all p (List.mem_filter.mp hp).1
/-- behind a rule that changed d alone: all else but the frame is kept -/
theorem kept_of_news {g h h' : Heap} {L d : Addr} {m : Str → Option Value} (k : ∀ b o, g.get? b = some o → h.get? b = some o) (F : Fr g L h' m) (N : News g L h' (rest g h L d)) :
    ∀ b o, b ≠ L → b ≠ d → h.get? b = some o → h'.get? b = some o := fun b o h1 h2 e => by
  cases q : g.get? b with
  | some u =>
    have := k b u q
    rw [e] at this; cases this
    exact F.keep b _ q
  | none => exact (N (b, o) (mem_rest h1 q e h2)).1
end L2

namespace L2
open PySem PySem.Spec PyProof.Rows

/-- the module's facts, over the base: the heap at the law's entry without what is tracked there -/
structure Mod (K : PySem.W.Frag) (mg : Str → Option Value) (base : Heap) : Prop where
  kin : K.In base
  glob : base.Ns mainGlobals mg
  blt : ∃ mb, base.Ns builtinsNs mb ∧ ∀ x : Str, x ≠ "__name__" → mb x = bootBuiltins x
  nolimit : base.NoLimit

/-- the context: a def's body (or a comprehension's block) running. base: fixed through the whole law; s₀, H₀: the entry; outer: the frames whose slots others may change (a def's callers); stack: all frames that run;
   ex: iterators that were made ahead of the entry and are walked here (a comprehension's); fn: the names whose cells were made at the entry (a def: all; a comprehension's block: its own); calm: not within an except suite; pn: pins that every state bears; xe: what is wanted of an exception that leaves the code -/
structure Cx where
  prog : Program
  w : World
  K : PySem.W.Frag
  mg : Str → Option Value
  base : Heap
  A : Around
  N : List Str
  s₀ : Shared
  H₀ : Hp
  env : Env
  outer : List Env
  stack : List Env
  ex : List Addr
  fn : Str → Bool
  calm : Bool
  pn : List (Addr × Obj)
  xe : Value → Shared → Prop
/-- the callers' frames -/
def frs (l : List Env) : List Addr := l.filterMap (·.frame)
abbrev Cx.fs (X : Cx) : List Addr := frs X.outer

def Vis (sc : Scope) (x : Str) : Prop := sc.names.lookup x = some .local ∨ sc.names.lookup x = some .cell ∨ sc.names.lookup x = some .free
def Loc (sc : Scope) (x : Str) : Prop := sc.names.lookup x = some .local ∨ sc.names.lookup x = some .cell
def Look (env : Env) (h : Heap) (m : Str → Option Value) (x : Str) (u : Value) : Prop :=
  (env.kindOf x = some .local ∧ m x = some u) ∨ ((env.kindOf x = some .cell ∨ env.kindOf x = some .free) ∧ ∃ c, env.cells.lookup x = some c ∧ h.IsCell c (some u))

structure Cx.Ok (X : Cx) : Prop where
  mod : Mod X.K X.mg X.base
  kind : X.env.scope.kind = .function
  glob : X.env.globals = mainGlobals
  blt : X.env.builtins = builtinsNs
  above : X.s₀.heap.objs.size ≤ X.env.locals
  inj : ∀ x y c, X.env.cells.lookup x = some c → X.env.cells.lookup y = some c → x = y
  has : ∀ x, (X.env.kindOf x = some .cell ∨ X.env.kindOf x = some .free) → ∃ c, X.env.cells.lookup x = some c
  cab : ∀ x c, X.fn x = true → X.env.cells.lookup x = some c → X.s₀.heap.objs.size ≤ c
  hd : X.calm = true → X.A.handled = none
  frames : X.A.frames = some X.stack
  stk : X.stack = X.outer ∨ (X.stack = X.env :: X.outer ∧ X.env.frame = some X.env.locals)
  exf : ∀ b ∈ X.ex, b ≠ X.env.locals ∧ ∀ x c, X.env.cells.lookup x = some c → c ≠ b
  bs : ∀ b o, X.base.get? b = some o → X.s₀.heap.get? b = some o ∧ X.H₀ b = none
  bsz : X.base.objs.size ≤ X.s₀.heap.objs.size
  noex : ∀ b o, X.base.get? b = some o → b ∉ X.ex
  exfs : ∀ b ∈ X.ex, b ∉ X.fs
  funs : X.s₀.heap.FunFrames X.base X.outer
  frf : ∀ b ∈ X.fs, X.H₀ b = none

structure Inv (X : Cx) (pins : List (Addr × Obj)) (σ : List (Option V)) (H : Hp) (s : Shared) : Prop where
  ok : X.Ok
  os : s.os = X.s₀.os
  bare : AllBare s.gens
  base : Un X.fs X.ex X.H₀ H X.s₀.heap s.heap
  loc : ∃ m, s.heap.Ns X.env.locals m ∧ ∀ (i : Nat) (x : Str) (v : V), X.N[i]? = some x → σ[i]? = some (some v) → Vis X.env.scope x → ∃ u, RelV v u ∧ Look X.env s.heap m x u
  cell : ∀ x c, X.env.cells.lookup x = some c → ∃ v, s.heap.IsCell c v
  free : H X.env.locals = none
  freeC : ∀ x c, X.env.cells.lookup x = some c → H c = none
  pin : ∀ p ∈ X.pn ++ pins, s.heap.get? p.1 = some p.2 ∧ H p.1 = none ∧ p.1 ≠ X.env.locals ∧ p.1 ∉ X.fs ∧ ∀ v, p.2.data ≠ .cell v
  hok : HOk X.prog X.w H s.heap
  len : σ.length = X.N.length

section
variable {X : Cx} {pins : List (Addr × Obj)} {σ : List (Option V)} {H H' : Hp} {s : Shared} {h' : Heap}

theorem Cx.Ok.nofr (ok : X.Ok) {b : Addr} {o : Obj} (e : X.base.get? b = some o) : b ∉ X.fs := fun hb => by
  have := (ok.funs.mem hb).1
  rw [e] at this; cases this
theorem Inv.bs (I : Inv X pins σ H s) : ∀ b o, X.base.get? b = some o → s.heap.get? b = some o ∧ H b = none := fun b o e =>
  ⟨I.base.keep b o (I.ok.bs b o e).1 (I.ok.bs b o e).2 (I.ok.nofr e) (I.ok.noex b o e), I.base.free b o (I.ok.bs b o e).1 (I.ok.bs b o e).2 (I.ok.noex b o e)⟩
theorem Inv.bk (I : Inv X pins σ H s) : ∀ b o, X.base.get? b = some o → s.heap.get? b = some o := fun b o e => (I.bs b o e).1
theorem Inv.mod (I : Inv X pins σ H s) : Mod X.K X.mg X.base := I.ok.mod
theorem Inv.kIn (I : Inv X pins σ H s) : X.K.In s.heap := I.ok.mod.kin.keeps I.bk
theorem Inv.nolimit (I : Inv X pins σ H s) : s.heap.NoLimit := I.ok.mod.nolimit.keeps I.bk
/-- the frame over the base: for OpenK's rules (K.In X.base is I.mod.kin) -/
theorem Inv.fr (I : Inv X pins σ H s) : ∃ m, Fr X.base X.env.locals s.heap m :=
  let ⟨m, hn, _⟩ := I.loc
  ⟨m, hn, I.bk, Nat.le_trans I.ok.bsz I.ok.above⟩
theorem Inv.lt (I : Inv X pins σ H s) : X.env.locals < s.heap.objs.size := let ⟨_, hn, _⟩ := I.loc; hn.lt
theorem Inv.sz (I : Inv X pins σ H s) : X.s₀.heap.objs.size ≤ s.heap.objs.size := Nat.le_trans I.ok.above (Nat.le_of_lt I.lt)
theorem Inv.nofs (I : Inv X pins σ H s) {a : Addr} (h : s.heap.objs.size ≤ a) : a ∉ X.fs := fun hb => by
  obtain ⟨_, o, ho, _⟩ := I.ok.funs.mem hb
  exact absurd (Nat.lt_of_lt_of_le (Heap.lt_size ho) (Nat.le_trans I.sz h)) (Nat.lt_irrefl _)
theorem Inv.cne (I : Inv X pins σ H s) : ∀ x c, X.env.cells.lookup x = some c → c ≠ X.env.locals := fun x c e z => by
  obtain ⟨v, o, ho, hd⟩ := I.cell x c e
  obtain ⟨m, ⟨o', es, ep, ho', hd', _⟩, _⟩ := I.loc
  rw [z, ho'] at ho; cases ho; rw [hd'] at hd; cases hd
theorem Inv.funs (I : Inv X pins σ H s) : s.heap.FunFrames X.base X.outer := by
  have all : ∀ (l : List Env), (∀ b ∈ frs l, b ∈ X.fs) → X.s₀.heap.FunFrames X.base l → s.heap.FunFrames X.base l := by
    intro l
    induction l with
    | nil => intro _ _; trivial
    | cons env r ih =>
      intro hs hl
      obtain ⟨hk, ⟨L, o, hf, hn, ho, hd⟩, hr⟩ := hl
      have hL : L ∈ X.fs := hs L (by unfold frs; rw [List.filterMap_cons, hf]; exact List.mem_cons_self)
      obtain ⟨sl, e⟩ := I.base.slot L o ho (I.ok.frf L hL) hL fun z => I.ok.exfs L z hL
      exact ⟨hk, ⟨L, _, hf, hn, e, hd⟩, ih (fun b hb => hs b (by unfold frs; rw [List.filterMap_cons, hf]; exact List.mem_cons_of_mem _ hb)) hr⟩
  exact all X.outer (fun _ hb => hb) I.ok.funs

/-- the frames that run, for a call -/
theorem Inv.stack (I : Inv X pins σ H s) : s.heap.FunFrames X.base X.stack := by
  rcases I.ok.stk with e | ⟨e, hf⟩
  · rw [e]; exact I.funs
  · rw [e]
    obtain ⟨m, hn, _⟩ := I.loc
    refine .cons (by rw [I.ok.kind]; decide) hf hn ?_ I.funs
    exact Heap.get?_none_of_le (Nat.le_trans I.ok.bsz I.ok.above)
theorem Inv.stkSub (I : Inv X pins σ H s) : ∀ b ∈ frs X.stack, b ∈ X.env.locals :: X.fs := fun b hb => by
  rcases I.ok.stk with e | ⟨e, hf⟩
  · rw [e] at hb; exact List.mem_cons_of_mem _ hb
  · rw [e] at hb
    unfold frs at hb
    rw [List.filterMap_cons, hf] at hb
    exact hb
theorem Inv.stkFree (I : Inv X pins σ H s) : ∀ b ∈ frs X.stack, H b = none := fun b hb => by
  rcases List.mem_cons.mp (I.stkSub b hb) with e | hb
  · rw [e]; exact I.free
  · obtain ⟨_, o, ho, _⟩ := I.ok.funs.mem hb
    exact I.base.free b o ho (I.ok.frf b hb) fun z => I.ok.exfs b z hb

/-- THE STEP: the untracked objects but the frame and the records at ch are kept (the callers' frames up to slots), the frame's map is kept, the new abstract heap is held -/
theorem Inv.step {g' : Array GenState} {t' : Nat} {d' : Drawn} {ch : List Addr} (I : Inv X pins σ H s)
    (hch : ∀ b ∈ ch, (b ∈ X.ex ∨ X.s₀.heap.objs.size ≤ b) ∧ b ≠ X.env.locals ∧ (∀ x c, X.env.cells.lookup x = some c → c ≠ b) ∧ ∀ p ∈ X.pn ++ pins, p.1 ≠ b)
    (keep : ∀ b o, b ≠ X.env.locals → b ∉ X.fs → b ∉ ch → s.heap.get? b = some o → H b = none → h'.get? b = some o)
    (slot : ∀ b o, b ≠ X.env.locals → b ∈ X.fs → b ∉ ch → s.heap.get? b = some o → H b = none → ∃ sl, h'.get? b = some { o with slots := sl }) (free : ∀ b o, b ∉ ch → s.heap.get? b = some o → H b = none → H' b = none)
    (there : ∀ b o, b ∉ ch → s.heap.get? b = some o → ∃ o', h'.get? b = some o')
    (tups : ∀ b xs, H b = some (.tup xs) → H' b = some (.tup xs)) (frzs : ∀ b o u, H b = some (.frz o u) → H' b = some (.frz o u)) (tbls : ∀ b ps, H b = some (.tbl ps) → ∃ more, H' b = some (.tbl (ps ++ more)))
    (ns : ∀ m, s.heap.Ns X.env.locals m → h'.Ns X.env.locals m) (hok : HOk X.prog X.w H' h') (hg : AllBare g') :
    Inv X pins σ H' { s with heap := h', gens := g', drawn := d', toks := t' } := by
  have neL : ∀ b o, X.s₀.heap.get? b = some o → b ≠ X.env.locals := fun b o e => Nat.ne_of_lt (Nat.lt_of_lt_of_le (Heap.lt_size e) I.ok.above)
  have neC : ∀ b o, X.s₀.heap.get? b = some o → b ∉ X.ex → b ∉ ch := fun b o e hx hb => by
    rcases (hch b hb).1 with z | z
    · exact hx z
    · exact absurd (Nat.lt_of_lt_of_le (Heap.lt_size e) z) (Nat.lt_irrefl _)
  have cellK : ∀ x c, X.env.cells.lookup x = some c → ∀ v, s.heap.IsCell c v → h'.IsCell c v := fun x c e v ⟨o, ho, hd⟩ => by
    have nch : c ∉ ch := fun z => (hch c z).2.2.1 x c e rfl
    by_cases hc : c ∈ X.fs
    · obtain ⟨sl, q⟩ := slot c o (I.cne x c e) hc nch ho (I.freeC x c e)
      exact ⟨_, q, hd⟩
    · exact ⟨o, keep c o (I.cne x c e) hc nch ho (I.freeC x c e), hd⟩
  refine ⟨I.ok, I.os, hg, ⟨fun b o e n hb hx => ?_, fun b o e n hb hx => ?_, fun b o e n hx => ?_, fun b o e hx => ?_, fun b xs e => tups b xs (I.base.tups b xs e), fun b o xs e => frzs b o xs (I.base.frzs b o xs e), fun b ps e => ?_⟩, ?_, fun x c e => ?_, ?_, fun x c e => ?_, fun p hp => ?_, hok, I.len⟩
  · exact keep b o (neL b o e) hb (neC b o e hx) (I.base.keep b o e n hb hx) (I.base.free b o e n hx)
  · obtain ⟨sl, e1⟩ := I.base.slot b o e n hb hx
    obtain ⟨sl', e2⟩ := slot b _ (neL b o e) hb (neC b o e hx) e1 (I.base.free b o e n hx)
    exact ⟨sl', e2⟩
  · obtain ⟨o', e1⟩ := I.base.there b o e hx
    exact free b o' (neC b o e hx) e1 (I.base.free b o e n hx)
  · obtain ⟨o', e1⟩ := I.base.there b o e hx
    exact there b o' (neC b o e hx) e1
  · obtain ⟨m1, e1⟩ := I.base.tbls b ps e
    obtain ⟨m2, e2⟩ := tbls b _ e1
    exact ⟨m1 ++ m2, by rw [e2, Array.append_assoc]⟩
  · obtain ⟨m, hn, hl⟩ := I.loc
    refine ⟨m, ns m hn, fun i x v e1 e2 e3 => ?_⟩
    obtain ⟨u, r, l⟩ := hl i x v e1 e2 e3
    refine ⟨u, r, ?_⟩
    rcases l with l | ⟨k, c, e, z⟩
    · exact .inl l
    · exact .inr ⟨k, c, e, cellK x c e _ z⟩
  · obtain ⟨v, z⟩ := I.cell x c e
    exact ⟨v, cellK x c e v z⟩
  · obtain ⟨m, ⟨o, _, _, ho, _⟩, _⟩ := I.loc
    exact free _ o (fun z => (hch _ z).2.1 rfl) ho I.free
  · obtain ⟨v, o, ho, hd⟩ := I.cell x c e
    exact free c o (fun z => (hch c z).2.2.1 x c e rfl) ho (I.freeC x c e)
  · obtain ⟨e, n, ne, nf, d⟩ := I.pin p hp
    have nch : p.1 ∉ ch := fun z => (hch p.1 z).2.2.2 p hp rfl
    exact ⟨keep p.1 p.2 ne nf nch e n, free p.1 p.2 nch e n, ne, nf, d⟩
/-- .. where the frame's own object is kept too -/
theorem Inv.un {t' : Nat} (I : Inv X pins σ H s) (u : Un X.fs [] H H' s.heap h') (hok : HOk X.prog X.w H' h') : Inv X pins σ H' { s with heap := h', toks := t' } := by
  obtain ⟨m, ⟨o, es, ep, ho, r⟩, _⟩ := id I.loc
  obtain ⟨sl, hL⟩ := u.any ho I.free (by simp)
  exact I.step (g' := s.gens) (d' := s.drawn) (ch := []) (fun _ z => nomatch z) (fun b o _ hb _ e n => u.keep b o e n hb (by simp)) (fun b o _ hb _ e n => u.slot b o e n hb (by simp)) (fun b o _ e n => u.free b o e n (by simp)) (fun b o _ e => u.there b o e (by simp)) u.tups u.frzs u.tbls (fun m' hm => by
    obtain ⟨o', es', ep', ho', r'⟩ := hm
    rw [ho] at ho'; cases ho'
    exact ⟨_, es', ep', hL, r'⟩) hok I.bare
/-- behind a call (or a comprehension's block): the slots of this frame may have changed too, the records at ch may have turned -/
theorem Inv.call {g' : Array GenState} {t' : Nat} {d' : Drawn} {ch : List Addr} (I : Inv X pins σ H s) (u : Un (frs X.stack) ch H H' s.heap h') (hok : HOk X.prog X.w H' h') (hg : AllBare g')
    (hch : ∀ b ∈ ch, (b ∈ X.ex ∨ X.s₀.heap.objs.size ≤ b) ∧ b ≠ X.env.locals ∧ (∀ x c, X.env.cells.lookup x = some c → c ≠ b) ∧ ∀ p ∈ X.pn ++ pins, p.1 ≠ b) :
    Inv X pins σ H' { s with heap := h', gens := g', drawn := d', toks := t' } := by
  obtain ⟨m, ⟨o, es, ep, ho, r⟩, _⟩ := id I.loc
  obtain ⟨sl, hL⟩ := u.any ho I.free fun z => (hch _ z).2.1 rfl
  exact I.step (ch := ch) hch (fun b o hL hb hc e n => u.keep b o e n (fun z => (List.mem_cons.mp (I.stkSub b z)).elim hL hb) hc) (fun b o _ _ hc e n => u.any e n hc) (fun b o hc e n => u.free b o e n hc) (fun b o hc e => u.there b o e hc) u.tups u.frzs u.tbls (fun m' hm => by
    obtain ⟨o', es', ep', ho', r'⟩ := hm
    rw [ho] at ho'; cases ho'
    exact ⟨_, es', ep', hL, r'⟩) hok hg
/-- an untracked record of ours (an iterator) has turned -/
theorem Inv.turned {t' : Nat} {it : Addr} (I : Inv X pins σ H s) (k : ∀ b o, b ≠ it → s.heap.get? b = some o → h'.get? b = some o) (hn : H it = none) (hL : it ≠ X.env.locals)
    (h1 : it ∈ X.ex ∨ X.s₀.heap.objs.size ≤ it) (h2 : ∀ x c, X.env.cells.lookup x = some c → c ≠ it) (h3 : ∀ p ∈ X.pn ++ pins, p.1 ≠ it) : Inv X pins σ H { s with heap := h', toks := t' } := by
  have nit : ∀ b u, H b = some u → b ≠ it := fun b u e z => by rw [z, hn] at e; cases e
  refine I.step (g' := s.gens) (d' := s.drawn) (ch := [it]) (fun b hb => ?_) (fun b o _ _ hc e _ => k b o (fun z => hc (by simp [z])) e) (fun b o _ _ hc e _ => ⟨o.slots, k b o (fun z => hc (by simp [z])) e⟩) (fun _ _ _ _ n => n)
    (fun b o hc e => ⟨o, k b o (fun z => hc (by simp [z])) e⟩) (fun _ _ e => e) (fun _ _ _ e => e) (fun b ps e => ⟨#[], by rw [e]; simp⟩) (fun m hm => ?_) (fun b u e => ?_) I.bare
  · have e : b = it := by simpa using hb
    subst e
    exact ⟨h1, hL, h2, h3⟩
  · obtain ⟨o, es, ep, ho, r⟩ := hm
    exact ⟨o, es, ep, k _ o (Ne.symm hL) ho, r⟩
  · refine (I.hok b u e).stay (fun c v hc q => k c v ?_ q) (fun _ q => q) fun _ _ q => q
    rcases hc with z | z
    · rw [z]; exact nit b u e
    · exact nit c _ z
theorem Inv.tok (I : Inv X pins σ H s) (t : Nat) : Inv X pins σ H { s with toks := t } := I.un (h' := s.heap) (t' := t) Un.refl I.hok
/-- all objects kept -/
theorem Inv.kept {t' : Nat} (I : Inv X pins σ H s) (k : ∀ b u, s.heap.get? b = some u → h'.get? b = some u) : Inv X pins σ H { s with heap := h', toks := t' } := I.un (Un.kept k) (I.hok.kept k)
/-- a new object laid and tracked -/
theorem Inv.laid {a : Addr} {o : HO} {t' : Nat} (I : Inv X pins σ H s) (k : ∀ b u, s.heap.get? b = some u → h'.get? b = some u) (hp : s.heap.objs.size ≤ a) (new : ObjOk X.prog X.w (upd H a o) h' a o) :
    Inv X pins σ (upd H a o) { s with heap := h', toks := t' } := I.un (Un.laid k hp (I.hok.fresh hp)) (I.hok.laid k hp new)
/-- an object written -/
theorem Inv.write {x e : Addr} {o : HO} {t' : Nat} (I : Inv X pins σ H s) (mu : Mut (H x)) (he : e = x ∨ H e = some (.own x)) (k : ∀ b u, b ≠ e → s.heap.get? b = some u → h'.get? b = some u) (heo : ∃ u, h'.get? e = some u)
    (new : ObjOk X.prog X.w (upd H x o) h' x o) : Inv X pins σ (upd H x o) { s with heap := h', toks := t' } := I.un (Un.write mu he k heo) (I.hok.write mu he k heo new)
/-- forgetting slots, pins -/
theorem Inv.weak {σ' : List (Option V)} (I : Inv X pins σ H s) (hl : σ'.length = σ.length) (w : ∀ (i : Nat) v, σ'[i]? = some (some v) → σ[i]? = some (some v)) : Inv X pins σ' H s :=
  ⟨I.ok, I.os, I.bare, I.base, let ⟨m, hn, hl'⟩ := I.loc; ⟨m, hn, fun i x v e1 e2 e3 => hl' i x v e1 (w i v e2) e3⟩, I.cell, I.free, I.freeC, I.pin, I.hok, hl.trans I.len⟩
theorem Inv.pins_of {pins' : List (Addr × Obj)} (I : Inv X pins σ H s) (h : ∀ p ∈ pins', s.heap.get? p.1 = some p.2 ∧ H p.1 = none ∧ p.1 ≠ X.env.locals ∧ p.1 ∉ X.fs ∧ ∀ v, p.2.data ≠ .cell v) : Inv X pins' σ H s :=
  ⟨I.ok, I.os, I.bare, I.base, I.loc, I.cell, I.free, I.freeC, fun p hp => (List.mem_append.mp hp).elim (fun z => I.pin p (List.mem_append_left _ z)) (h p), I.hok, I.len⟩

theorem nodup_ix {N : List Str} (hN : N.Nodup) {i j : Nat} {x : Str} (a : N[i]? = some x) (b : N[j]? = some x) : i = j := by
  obtain ⟨h1, e1⟩ := List.getElem?_eq_some_iff.mp a
  obtain ⟨h2, e2⟩ := List.getElem?_eq_some_iff.mp b
  exact (List.getElem_inj hN).mp (e1.trans e2.symm)

/-- a name is stored; what changed -/
theorem store_ok2 {M : Model} {A : Around} {E : Value → Shared → Prop} {i : Nat} {x : Str} {v : V} {u : Value} {Q : Unit → Shared → Prop} (I : Inv X pins σ H s) (hN : X.N.Nodup) (hi : X.N[i]? = some x) (hx : Loc X.env.scope x) (r : RelV v u)
    (h : ∀ s', Inv X pins (σ.set i (some v)) H s' → (∃ a, Heap.SameBut a s.heap s'.heap ∧ (a = X.env.locals ∨ X.env.cells.lookup x = some a)) → Q () s') (hf : X.fn x = true ∨ X.env.scope.names.lookup x = some .local := by first | exact .inl rfl | exact .inr rfl | assumption) : wpAny M A (storeName X.env x u) Q E s := by
  obtain ⟨m, hn, hl⟩ := id I.loc
  have hcls : (X.env.scope.kind == .class || (X.env.scope.kind == .module && X.env.locals != X.env.globals)) = false := by rw [I.ok.kind]; rfl
  have hiσ : i < σ.length := by rw [I.len]; exact (List.getElem?_eq_some_iff.mp hi).1
  have cne := I.cne
  have tracked : ∀ {a : Addr} {h' : Heap}, (∃ o, s.heap.get? a = some o ∧ H a = none) → Heap.SameBut a s.heap h' → HOk X.prog X.w H h' := fun {a h'} ha hs b ob e => by
    obtain ⟨_, _, hfree⟩ := ha
    refine (I.hok b ob e).stay (fun c w' hc q => (hs.2 c ?_).trans q) (fun _ q => q) fun _ _ q => q
    rintro rfl
    rcases hc with rfl | hc
    · rw [hfree] at e; cases e
    · rw [hfree] at hc; cases hc
  rcases hx with hk | hk
  · refine wpAny_storeName_local hk hn (fun h' hn' hs => ?_) hcls
    obtain ⟨oL, _, _, hoL, _⟩ := id hn
    refine h _ ⟨I.ok, I.os, I.bare, ⟨fun b o e n hb hx => ?_, fun b o e n hb hx => ?_, I.base.free, fun b o e hx => ?_, I.base.tups, I.base.frzs, I.base.tbls⟩, ⟨_, hn', fun j y v' e1 e2 e3 => ?_⟩, fun y c e => ?_, I.free, I.freeC, fun p hp => ?_, tracked ⟨oL, hoL, I.free⟩ hs, by simpa using I.len⟩ ⟨_, hs, .inl rfl⟩
    · exact (hs.2 b (Nat.ne_of_lt (Nat.lt_of_lt_of_le (Heap.lt_size e) I.ok.above))).trans (I.base.keep b o e n hb hx)
    · obtain ⟨sl, e1⟩ := I.base.slot b o e n hb hx
      exact ⟨sl, (hs.2 b (Nat.ne_of_lt (Nat.lt_of_lt_of_le (Heap.lt_size e) I.ok.above))).trans e1⟩
    · obtain ⟨o', e1⟩ := I.base.there b o e hx
      exact ⟨o', (hs.2 b (Nat.ne_of_lt (Nat.lt_of_lt_of_le (Heap.lt_size e) I.ok.above))).trans e1⟩
    · by_cases hj : j = i
      · subst hj
        rw [hi] at e1; cases e1
        rw [List.getElem?_set_self hiσ] at e2
        cases e2
        exact ⟨u, r, .inl ⟨hk, by simp⟩⟩
      · rw [List.getElem?_set_ne (Ne.symm hj)] at e2
        obtain ⟨u', r', q⟩ := hl j y v' e1 e2 e3
        refine ⟨u', r', ?_⟩
        rcases q with ⟨k, e⟩ | ⟨k, c, e, z⟩
        · refine .inl ⟨k, ?_⟩
          have : y ≠ x := fun e => hj (nodup_ix hN e1 (e ▸ hi))
          simp [this, e]
        · exact .inr ⟨k, c, e, z.sameBut hs (cne y c e)⟩
    · obtain ⟨w', z⟩ := I.cell y c e
      exact ⟨w', z.sameBut hs (cne y c e)⟩
    · obtain ⟨e, n, ne, nf, d⟩ := I.pin p hp
      exact ⟨(hs.2 p.1 ne).trans e, n, ne, nf, d⟩
  · have hfn : X.fn x = true := by
      rcases hf with z | z
      · exact z
      · rw [z] at hk; cases hk
    obtain ⟨c, hc⟩ := I.ok.has x (.inl hk)
    obtain ⟨w', z⟩ := I.cell x c hc
    refine wpAny_storeName_cell I.ok.kind hk hc z (fun h' hc' hs => ?_)
    obtain ⟨oc, hoc, hocd⟩ := id z
    refine h { s with heap := h' } ⟨I.ok, I.os, I.bare, ⟨fun b o e n hb hx => ?_, fun b o e n hb hx => ?_, I.base.free, fun b o e hx => ?_, I.base.tups, I.base.frzs, I.base.tbls⟩, ⟨m, hn.sameBut hs (Ne.symm (cne x c hc)), fun j y v' e1 e2 e3 => ?_⟩, fun y c' e => ?_, I.free, I.freeC, fun p hp => ?_, tracked ⟨oc, hoc, I.freeC x c hc⟩ hs, by simpa using I.len⟩ ⟨c, hs, .inr hc⟩
    · exact (hs.2 b (Nat.ne_of_lt (Nat.lt_of_lt_of_le (Heap.lt_size e) (I.ok.cab x c hfn hc)))).trans (I.base.keep b o e n hb hx)
    · obtain ⟨sl, e1⟩ := I.base.slot b o e n hb hx
      exact ⟨sl, (hs.2 b (Nat.ne_of_lt (Nat.lt_of_lt_of_le (Heap.lt_size e) (I.ok.cab x c hfn hc)))).trans e1⟩
    · obtain ⟨o', e1⟩ := I.base.there b o e hx
      exact ⟨o', (hs.2 b (Nat.ne_of_lt (Nat.lt_of_lt_of_le (Heap.lt_size e) (I.ok.cab x c hfn hc)))).trans e1⟩
    · by_cases hj : j = i
      · subst hj
        rw [hi] at e1; cases e1
        rw [List.getElem?_set_self hiσ] at e2
        cases e2
        exact ⟨u, r, .inr ⟨.inl hk, c, hc, hc'⟩⟩
      · rw [List.getElem?_set_ne (Ne.symm hj)] at e2
        obtain ⟨u', r', q⟩ := hl j y v' e1 e2 e3
        refine ⟨u', r', ?_⟩
        rcases q with q | ⟨k, c', e, z'⟩
        · exact .inl q
        · refine .inr ⟨k, c', e, z'.sameBut hs ?_⟩
          rintro rfl
          exact hj (nodup_ix hN e1 (I.ok.inj _ _ _ e hc ▸ hi))
    · by_cases hcc : c' = c
      · subst hcc; exact ⟨_, hc'⟩
      · obtain ⟨w2, z2⟩ := I.cell y c' e
        exact ⟨w2, z2.sameBut hs hcc⟩
    · obtain ⟨e, n, ne, nf, d⟩ := I.pin p hp
      refine ⟨(hs.2 p.1 ?_).trans e, n, ne, nf, d⟩
      intro q
      rw [q, hoc] at e
      have q' : oc = p.2 := Option.some.inj e
      exact d w' (by rw [← q']; exact hocd)
theorem store_ok {M : Model} {A : Around} {E : Value → Shared → Prop} {i : Nat} {x : Str} {v : V} {u : Value} {Q : Unit → Shared → Prop} (I : Inv X pins σ H s) (hN : X.N.Nodup) (hi : X.N[i]? = some x) (hx : Loc X.env.scope x) (r : RelV v u)
    (h : ∀ s', Inv X pins (σ.set i (some v)) H s' → Q () s') (hf : X.fn x = true ∨ X.env.scope.names.lookup x = some .local := by first | exact .inl rfl | exact .inr rfl | assumption) : wpAny M A (storeName X.env x u) Q E s :=
  store_ok2 I hN hi hx r (fun s' I' _ => h s' I') hf
/-- behind a call or a block, the state as it is -/
theorem Inv.call' {s' : Shared} {ch : List Addr} (I : Inv X pins σ H s) (ho : s'.os = s.os) (u : Un (frs X.stack) ch H H' s.heap s'.heap) (hok : HOk X.prog X.w H' s'.heap) (hg : AllBare s'.gens)
    (hch : ∀ b ∈ ch, (b ∈ X.ex ∨ X.s₀.heap.objs.size ≤ b) ∧ b ≠ X.env.locals ∧ (∀ x c, X.env.cells.lookup x = some c → c ≠ b) ∧ ∀ p ∈ X.pn ++ pins, p.1 ≠ b) : Inv X pins σ H' s' := by
  obtain ⟨h', g', d', t', o'⟩ := s'
  have e : o' = s.os := ho
  subst e
  exact I.call (g' := g') (t' := t') (d' := d') u hok hg hch
end

/-! ### the judgements -/
/-- an exception: its class, its own dict's address (where it has one), the abstract heap behind it -/
abbrev XK := Value → Option Addr → Hp → Prop
abbrev St := List (Option V)
abbrev VK := V → Hp → Prop
/-- an expression's reading; a test's; an argument list's -/
abbrev TE := St → Hp → VK → Prop
abbrev TT := St → Hp → (Bool → Hp → Prop) → Prop
abbrev TA := St → Hp → (List V → Hp → Prop) → Prop
/-- what is wanted behind a statement -/
structure Ends where
  nx : St → Hp → Prop
  rt : VK
  bk : St → Hp → Prop := fun _ _ => False
  ct : St → Hp → Prop := fun _ _ => False
abbrev TS := Ends → St → Hp → Prop

def EP (X : Cx) (pins : List (Addr × Obj)) (σ : St) (Q : VK) (u : Value) (s' : Shared) : Prop := ∃ v H', Inv X pins σ H' s' ∧ RelV v u ∧ Q v H'
def TP (X : Cx) (pins : List (Addr × Obj)) (σ : St) (Q : Bool → Hp → Prop) (b : Bool) (s' : Shared) : Prop := ∃ H', Inv X pins σ H' s' ∧ Q b H'
def AP (X : Cx) (pins : List (Addr × Obj)) (σ : St) (Q : List V → Hp → Prop) (us : List Value) (s' : Shared) : Prop := ∃ vs H', Inv X pins σ H' s' ∧ Vals vs us ∧ Q vs H'
def SP (X : Cx) (pins : List (Addr × Obj)) (D : Ends) (f : Flow) (s' : Shared) : Prop :=
  match f with
  | .next => ∃ σ' H', Inv X pins σ' H' s' ∧ D.nx σ' H'
  | .brk => ∃ σ' H', Inv X pins σ' H' s' ∧ D.bk σ' H'
  | .cont => ∃ σ' H', Inv X pins σ' H' s' ∧ D.ct σ' H'
  | .ret u => ∃ v σ' H', Inv X pins σ' H' s' ∧ RelV v u ∧ D.rt v H'

def PE (X : Cx) (e : Expr) (t : TE) : Prop :=
  ∀ (pins : List (Addr × Obj)) (s : Shared) (σ : St) (H : Hp) (Q : VK), Inv X pins σ H s → t σ H Q → wpAny (model X.prog X.w) X.A (eval e X.env) (EP X pins σ Q) X.xe s
def PT (X : Cx) (e : Expr) (t : TT) : Prop :=
  ∀ (pins : List (Addr × Obj)) (s : Shared) (σ : St) (H : Hp) (Q : Bool → Hp → Prop), Inv X pins σ H s → t σ H Q → wpAny (model X.prog X.w) X.A (isTrue e X.env (eval e X.env)) (TP X pins σ Q) X.xe s
/-- a test whatever its 'whole' is (and, or) -/
def PW (X : Cx) (e : Expr) (t : TT) : Prop :=
  ∀ (whole : Sem Value) (pins : List (Addr × Obj)) (s : Shared) (σ : St) (H : Hp) (Q : Bool → Hp → Prop), Inv X pins σ H s → t σ H Q → wpAny (model X.prog X.w) X.A (isTrue e X.env whole) (TP X pins σ Q) X.xe s
theorem PW.pt {X : Cx} {e : Expr} {t : TT} (h : PW X e t) : PT X e t := h _
/-- an argument list (no star), from the left -/
def PA (X : Cx) (es : List Expr) (t : TA) : Prop :=
  ∀ (pos : Pos) (pins : List (Addr × Obj)) (s : Shared) (σ : St) (H : Hp) (Q : List V → Hp → Prop), Inv X pins σ H s → t σ H Q → wpAny (model X.prog X.w) X.A (spliced (backTo pos (starEach es X.env))) (AP X pins σ Q) X.xe s
def PS (X : Cx) (st : Stmt) (t : TS) : Prop :=
  ∀ (pins : List (Addr × Obj)) (s : Shared) (σ : St) (H : Hp) (D : Ends), Inv X pins σ H s → t D σ H → wpAny (model X.prog X.w) X.A (exec st X.env) (SP X pins D) X.xe s
def PSs (X : Cx) (st : List Stmt) (t : TS) : Prop :=
  ∀ (pins : List (Addr × Obj)) (s : Shared) (σ : St) (H : Hp) (D : Ends), Inv X pins σ H s → t D σ H → wpAny (model X.prog X.w) X.A (execs st X.env) (SP X pins D) X.xe s
/-- weaken the end -/
theorem thn {α : Type} {t : Sem α} {Q Q' : α → Shared → Prop} {M : Model} {A : Around} {E : Value → Shared → Prop} {s : Shared} (h : wpAny M A t Q E s) (hQ : ∀ a s, Q a s → Q' a s) : wpAny M A t Q' E s := wpAny_mono h hQ fun _ _ x => x
end L2

namespace L2
open PySem PySem.Spec PyProof.Rows
section
variable {X : Cx}

/-- two expressions in a row -/
theorem bin {a b : Expr} {ta tb : TE} (ha : PE X a ta) (hb : PE X b tb) {pins : List (Addr × Obj)} {s : Shared} {σ : St} {H : Hp} {R : V → V → Hp → Prop} (I : Inv X pins σ H s) (h : ta σ H fun x H1 => tb σ H1 fun y H2 => R x y H2)
    {α : Type} {Q : α → Shared → Prop} {f : Value → Value → Sem α}
    (hf : ∀ v u s2 x y H2, Inv X pins σ H2 s2 → RelV x v → RelV y u → R x y H2 → wpAny (model X.prog X.w) X.A (f v u) Q X.xe s2) :
    wpAny (model X.prog X.w) X.A (eval a X.env) (fun v s₁ => wpAny (model X.prog X.w) X.A (eval b X.env) (fun u s₂ => wpAny (model X.prog X.w) X.A (f v u) Q X.xe s₂) X.xe s₁) X.xe s := by
  refine thn (ha pins s σ H _ I h) fun v s1 ⟨x, H1, I1, r1, q1⟩ => ?_
  refine thn (hb pins s1 σ H1 _ I1 q1) fun u s2 ⟨y, H2, I2, r2, q2⟩ => ?_
  exact hf v u s2 x y H2 I2 r1 r2 q2

/-! ### names and constants -/
def tVar (i : Nat) : TE := fun σ H Q => ∃ v, σ[i]? = some (some v) ∧ Q v H
def tC (v : V) : TE := fun _ H Q => Q v H
theorem pe_var {i : Nat} {x : Str} {pos : Pos} (hN : X.N[i]? = some x) (hv : Vis X.env.scope x) (hd : (x == ("__debug__" : Str)) = false := by decide) (hcd : (x == ("__classdict__" : Str)) = false := by decide) : PE X (.Name x pos) (tVar i) := by
  intro pins s σ H Q I h
  obtain ⟨v, e, h⟩ := h
  obtain ⟨m, hn, hl⟩ := I.loc
  obtain ⟨u, r, l⟩ := hl i x v hN e hv
  have fin : EP X pins σ Q u s := ⟨v, H, I, r, h⟩
  rcases l with ⟨hk, hm⟩ | ⟨hk, c, hc, hcell⟩
  · exact wpAny_Name (wpAny_loadName_local I.ok.kind hk hn hm fin) hd
  · rcases hk with hk | hk
    · exact wpAny_Name (wpAny_loadName_cell I.ok.kind hk hc hcell fin) hd
    · exact wpAny_Name (wpAny_loadName_free I.ok.kind hk hc hcell fin hcd) hd
theorem pe_int {i j pos} : PE X (.Constant (.int i) j pos) (tC (.int i)) := fun _ _ _ H _ I h => wpAny_Constant_int ⟨.int i, H, I.tok _, ⟨_, rfl⟩, h⟩
theorem pe_bl {b j pos} : PE X (.Constant (.bool b) j pos) (tC (.bl b)) := fun _ _ _ H _ I h => Constant_bool ⟨.bl b, H, I, rfl, h⟩
theorem pe_non {j pos} : PE X (.Constant .none j pos) (tC .non) := fun _ _ _ H _ I h => Constant_none ⟨.non, H, I, rfl, h⟩
theorem pe_str {x j pos} : PE X (.Constant (.str x) j pos) (tC (.str x)) := fun _ _ _ H _ I h => Calls.Constant_str ⟨.str x, H, I.tok _, ⟨_, rfl⟩, h⟩

/-- a global name of the def -/
def Gl (X : Cx) (x : Str) : Prop := X.env.kindOf x = some .globalImplicit
theorem ld_glob {E : Value → Shared → Prop} {pins : List (Addr × Obj)} {s : Shared} {σ : St} {H : Hp} {x : Str} {u : Value} {pos : Pos} {Q : Value → Shared → Prop} (I : Inv X pins σ H s) (hg : Gl X x) (hm : X.mg x = some u) (h : Q u s)
    (hd : (x == ("__debug__" : Str)) = false := by decide) : wpAny (model X.prog X.w) X.A (eval (.Name x pos) X.env) Q E s :=
  Calls.Name_function_global I.ok.kind hg (Calls.loadGlobal_global (by rw [I.ok.glob]; exact I.mod.glob.keeps I.bk) hm h) hd
theorem ld_blt {E : Value → Shared → Prop} {pins : List (Addr × Obj)} {s : Shared} {σ : St} {H : Hp} {x : Str} {u : Value} {pos : Pos} {Q : Value → Shared → Prop} (I : Inv X pins σ H s) (hg : Gl X x) (hm : X.mg x = none) (hv : bootBuiltins x = some u) (h : Q u s)
    (hn : x ≠ "__name__" := by decide) (hd : (x == ("__debug__" : Str)) = false := by decide) : wpAny (model X.prog X.w) X.A (eval (.Name x pos) X.env) Q E s := by
  obtain ⟨mb, h1, h2⟩ := I.mod.blt
  exact Calls.Name_function_global I.ok.kind hg (Calls.loadGlobal_builtin (by rw [I.ok.glob]; exact I.mod.glob.keeps I.bk) hm (by rw [I.ok.blt]; exact h1.keeps I.bk) ((h2 x hn).trans hv) h) hd
/-- a module's constant, a class, a function, as a value -/
theorem pe_glob {x : Str} {v : V} {u : Value} {pos : Pos} (hg : Gl X x) (hm : X.mg x = some u) (r : RelV v u) (hd : (x == ("__debug__" : Str)) = false := by decide) : PE X (.Name x pos) (tC v) :=
  fun _ _ _ H _ I h => ld_glob I hg hm ⟨v, H, I, r, h⟩ hd
theorem pe_bltn {x : Str} {v : V} {u : Value} {pos : Pos} (hg : Gl X x) (hm : X.mg x = none) (hv : bootBuiltins x = some u) (r : RelV v u) (hn : x ≠ "__name__" := by decide) (hd : (x == ("__debug__" : Str)) = false := by decide) : PE X (.Name x pos) (tC v) :=
  fun _ _ _ H _ I h => ld_blt I hg hm hv ⟨v, H, I, r, h⟩ hn hd

/-! ### arithmetic -/
/-- two ints -/
def t2I (ta tb : TE) (k : Int → Int → Hp → Prop) : St → Hp → Prop := fun σ H => ta σ H fun x H1 => tb σ H1 fun y H2 => ∃ i j, x = .int i ∧ y = .int j ∧ k i j H2
def tAdd (ta tb : TE) : TE := fun σ H Q => t2I ta tb (fun i j H2 => Q (.int (i + j)) H2) σ H
def tSub (ta tb : TE) : TE := fun σ H Q => t2I ta tb (fun i j H2 => Q (.int (i - j)) H2) σ H
/-- the left factor below 2^64 -/
def tMul (ta tb : TE) : TE := fun σ H Q => t2I ta tb (fun i j H2 => (-(2 ^ 64) < i ∧ i < 2 ^ 64) ∧ Q (.int (i * j)) H2) σ H
variable {a b : Expr} {ta tb : TE} {pos : Pos}
theorem pe_add (ha : PE X a ta) (hb : PE X b tb) : PE X (.BinOp a .Add b pos) (tAdd ta tb) := by
  intro pins s σ H Q I h
  refine wpAny_BinOp (bin ha hb I h fun v u s2 x y H2 I2 rx ry q => ?_)
  obtain ⟨i, j, rfl, rfl, q⟩ := q
  obtain ⟨t, rfl⟩ := rx
  obtain ⟨t', rfl⟩ := ry
  exact add_int ⟨.int _, H2, I2.tok _, ⟨_, rfl⟩, q⟩
theorem pe_sub (ha : PE X a ta) (hb : PE X b tb) : PE X (.BinOp a .Sub b pos) (tSub ta tb) := by
  intro pins s σ H Q I h
  refine wpAny_BinOp (bin ha hb I h fun v u s2 x y H2 I2 rx ry q => ?_)
  obtain ⟨i, j, rfl, rfl, q⟩ := q
  obtain ⟨t, rfl⟩ := rx
  obtain ⟨t', rfl⟩ := ry
  exact sub_int ⟨.int _, H2, I2.tok _, ⟨_, rfl⟩, q⟩
theorem pe_mul (ha : PE X a ta) (hb : PE X b tb) : PE X (.BinOp a .Mult b pos) (tMul ta tb) := by
  intro pins s σ H Q I h
  refine wpAny_BinOp (bin ha hb I h fun v u s2 x y H2 I2 rx ry q => ?_)
  obtain ⟨i, j, rfl, rfl, ⟨q1, q2⟩, q⟩ := q
  obtain ⟨t, rfl⟩ := rx
  obtain ⟨t', rfl⟩ := ry
  exact mul_int ⟨.int _, H2, I2.tok _, ⟨_, rfl⟩, q⟩ (.of_left (intBits_le_64 q1 q2))

/-! ### comparisons -/
def PC (X : Cx) (op : CmpOp) (a b : Expr) (t : TE) : Prop :=
  ∀ (pins : List (Addr × Obj)) (s : Shared) (σ : St) (H : Hp) (Q : VK), Inv X pins σ H s → t σ H Q →
    wpAny (model X.prog X.w) X.A (eval a X.env) (fun v s₁ => wpAny (model X.prog X.w) X.A (eval b X.env) (fun u s₂ => wpAny (model X.prog X.w) X.A (compareOp op v u) (EP X pins σ Q) X.xe s₂) X.xe s₁) X.xe s
theorem nobehind (b : Expr) {op : CmpOp} (h : op ≠ .In) (h2 : op ≠ .NotIn) : behindInMarks op b = false := by
  have e1 : (op == CmpOp.In) = false := by cases op <;> first | rfl | exact absurd rfl h
  have e2 : (op == CmpOp.NotIn) = false := by cases op <;> first | rfl | exact absurd rfl h2
  cases b <;> simp [behindInMarks, e1, e2]
def tCmp (p : Int → Int → Bool) (ta tb : TE) : TE := fun σ H Q => t2I ta tb (fun i j H2 => Q (.bl (p i j)) H2) σ H
abbrev tLt : TE → TE → TE := tCmp fun i j => decide (i < j)
abbrev tLe : TE → TE → TE := tCmp fun i j => decide (i ≤ j)
abbrev tGt : TE → TE → TE := tCmp fun i j => decide (j < i)
abbrev tGe : TE → TE → TE := tCmp fun i j => decide (j ≤ i)
abbrev tEqI : TE → TE → TE := tCmp fun i j => decide (i = j)
abbrev tNeI : TE → TE → TE := tCmp fun i j => !decide (i = j)
/-- a comparison of two ints, by its rule -/
theorem pc_int {op : CmpOp} {p : Int → Int → Bool} (ha : PE X a ta) (hb : PE X b tb)
    (rule : ∀ (i j : Int) (t u : Tok) (Q : Value → Shared → Prop) (s : Shared), Q (.bool (p i j)) s → wpAny (model X.prog X.w) X.A (compareOp op (.int i t) (.int j u)) Q X.xe s) : PC X op a b (tCmp p ta tb) := by
  intro pins s σ H Q I h
  refine bin ha hb I h fun v u s2 x y H2 I2 rx ry q => ?_
  obtain ⟨i, j, rfl, rfl, q⟩ := q
  obtain ⟨t, rfl⟩ := rx
  obtain ⟨t', rfl⟩ := ry
  exact rule i j t t' _ s2 ⟨.bl _, H2, I2, rfl, q⟩
theorem pc_lt (ha : PE X a ta) (hb : PE X b tb) : PC X .Lt a b (tLt ta tb) := pc_int ha hb fun _ _ _ _ _ _ h => lt_int h
theorem pc_le (ha : PE X a ta) (hb : PE X b tb) : PC X .LtE a b (tLe ta tb) := pc_int ha hb fun _ _ _ _ _ _ h => le_int h
theorem pc_gt (ha : PE X a ta) (hb : PE X b tb) : PC X .Gt a b (tGt ta tb) := pc_int ha hb fun _ _ _ _ _ _ h => gt_int h
theorem pc_ge (ha : PE X a ta) (hb : PE X b tb) : PC X .GtE a b (tGe ta tb) := pc_int ha hb fun _ _ _ _ _ _ h => ge_int h
theorem pc_eqI (ha : PE X a ta) (hb : PE X b tb) : PC X .Eq a b (tEqI ta tb) := pc_int ha hb fun _ _ _ _ _ _ h => eq_int (by rw [Bool.beq_eq_decide_eq]; exact h)
theorem pc_neI (ha : PE X a ta) (hb : PE X b tb) : PC X .NotEq a b (tNeI ta tb) := pc_int ha hb fun _ _ _ _ _ _ h => ne_int (by rw [bne, Bool.beq_eq_decide_eq]; exact h)
/-- is None -/
def tIsN (ta : TE) : TE := fun σ H Q => ta σ H fun x H1 => Q (.bl (decide (x = .non))) H1
def tNotN (ta : TE) : TE := fun σ H Q => ta σ H fun x H1 => Q (.bl (!decide (x = .non))) H1
theorem RelV.none_iff {x : V} {v : Value} (r : RelV x v) : (v == Value.none) = decide (x = .non) := by
  cases x with
  | non => cases r; rfl
  | bl _ => cases r; rfl
  | int _ => obtain ⟨t, rfl⟩ := r; rfl
  | str _ => obtain ⟨t, rfl⟩ := r; rfl
  | byt _ => obtain ⟨t, rfl⟩ := r; rfl
  | flt _ => obtain ⟨t, rfl⟩ := r; rfl
  | ref _ => cases r; rfl
  | ty _ => cases r; rfl
theorem pc_isN {j pos'} (ha : PE X a ta) : PC X .Is a (.Constant .none j pos') (tIsN ta) := by
  intro pins s σ H Q I h
  refine thn (ha pins s σ H _ I h) fun v s1 ⟨x, H1, I1, r1, q1⟩ => ?_
  exact Constant_none (is_none_gen ⟨.bl _, H1, I1, by rw [r1.none_iff]; rfl, q1⟩)
theorem pc_notN {j pos'} (ha : PE X a ta) : PC X .IsNot a (.Constant .none j pos') (tNotN ta) := by
  intro pins s σ H Q I h
  refine thn (ha pins s σ H _ I h) fun v s1 ⟨x, H1, I1, r1, q1⟩ => ?_
  exact Constant_none (isnot_none_gen ⟨.bl _, H1, I1, by rw [r1.none_iff]; rfl, q1⟩)
/-- a comparison as a value, as a test -/
def tB (t : TE) : TT := fun σ H Q => t σ H fun x H1 => ∃ c, x = .bl c ∧ Q c H1
theorem pe_cmp {op : CmpOp} {t : TE} (h : PC X op a b t) (h1 : behindInMarks op b = false := by first | exact nobehind _ (by decide) (by decide) | rfl) : PE X (.Compare a [op] [b] pos) t := fun pins s σ H Q I hw => wpAny_Compare1 (h pins s σ H Q I hw) h1
theorem pt_cmp {op : CmpOp} {t : TE} (h : PC X op a b t) (h1 : behindInMarks op b = false := by first | exact nobehind _ (by decide) (by decide) | rfl) : PT X (.Compare a [op] [b] pos) (tB t) := by
  intro pins s σ H Q I hw
  refine wpAny_isTrue_Compare1 (thn (h pins s σ H _ I hw) fun v s1 h1 => thn h1 fun u s2 h2 => thn h2 fun c s3 ⟨x, H1, I1, r1, q1⟩ => ?_) h1
  obtain ⟨d, rfl, q⟩ := q1
  cases r1
  exact wpAny_truthy_bool ⟨H1, I1, q⟩
/-- an expression whose value is a bool, as a test -/
theorem pt_val {e : Expr} {t : TE} (h : PE X e t) (he : ∀ whole, isTrue e X.env whole = (do let v ← whole; standAt e.pos; holding [v] (truthy v)) := by intro _; rfl) : PT X e (tB t) := by
  intro pins s σ H Q I hw
  refine isTrue_plain (thn (h pins s σ H _ I hw) fun v s1 ⟨x, H1, I1, r1, q1⟩ => ?_) (he _)
  obtain ⟨d, rfl, q⟩ := q1
  cases r1
  exact wpAny_truthy_bool ⟨H1, I1, q⟩

/-! ### and, or, not -/
variable {tA tB' : TT} {rest : List Expr}
def tAnd (t u : TT) : TT := fun σ H Q => t σ H fun c H1 => if c = true then u σ H1 Q else Q false H1
def tOr (t u : TT) : TT := fun σ H Q => t σ H fun c H1 => if c = true then Q true H1 else u σ H1 Q
def tNot (t : TT) : TT := fun σ H Q => t σ H fun c H1 => Q (!c) H1
theorem pw_and1 (ha : PT X a tA) : PW X (.BoolOp .And [a] pos) tA := by
  intro wh pins s σ H Q I h
  refine isTrue_and (thn (ha pins s σ H Q I h) fun c s1 e => ?_)
  cases c with
  | true => exact isTrue_and_nil e
  | false => exact e
theorem pw_or1 (ha : PT X a tA) : PW X (.BoolOp .Or [a] pos) tA := by
  intro wh pins s σ H Q I h
  refine isTrue_or (thn (ha pins s σ H Q I h) fun c s1 e => ?_)
  cases c with
  | false => exact isTrue_or_nil e
  | true => exact e
theorem pw_and (ha : PT X a tA) (hb : PW X (.BoolOp .And (b :: rest) pos) tB') : PW X (.BoolOp .And (a :: b :: rest) pos) (tAnd tA tB') := by
  intro wh pins s σ H Q I h
  refine isTrue_and (thn (ha pins s σ H _ I h) fun c s1 ⟨H1, I1, q1⟩ => ?_)
  cases c with
  | true => exact hb wh pins s1 σ H1 Q I1 q1
  | false => exact ⟨H1, I1, q1⟩
theorem pw_or (ha : PT X a tA) (hb : PW X (.BoolOp .Or (b :: rest) pos) tB') : PW X (.BoolOp .Or (a :: b :: rest) pos) (tOr tA tB') := by
  intro wh pins s σ H Q I h
  refine isTrue_or (thn (ha pins s σ H _ I h) fun c s1 ⟨H1, I1, q1⟩ => ?_)
  cases c with
  | true => exact ⟨H1, I1, q1⟩
  | false => exact hb wh pins s1 σ H1 Q I1 q1
theorem pt_not (ha : PT X a tA) : PT X (.UnaryOp .Not a pos) (tNot tA) := by
  intro pins s σ H Q I h
  exact isTrue_not (ha pins s σ H (fun c H1 => Q (!c) H1) I h)
/-- .. as values (bools) -/
def tAndV (ta tb : TE) : TE := fun σ H Q => ta σ H fun x H1 => ∃ c, x = .bl c ∧ if c = true then tb σ H1 Q else Q (.bl false) H1
def tOrV (ta tb : TE) : TE := fun σ H Q => ta σ H fun x H1 => ∃ c, x = .bl c ∧ if c = true then Q (.bl true) H1 else tb σ H1 Q
def tNotV (ta : TE) : TE := fun σ H Q => ta σ H fun x H1 => ∃ c, x = .bl c ∧ Q (.bl (!c)) H1
theorem pe_one {op} {t : TE} (h : PE X a t) : PE X (.BoolOp op [a] pos) t := fun pins s σ H Q I hw => BoolOp_one (h pins s σ H Q I hw)
theorem pe_and (ha : PE X a ta) (hb : PE X (.BoolOp .And (b :: rest) pos) tb) : PE X (.BoolOp .And (a :: b :: rest) pos) (tAndV ta tb) := by
  intro pins s σ H Q I h
  refine BoolOp_and (thn (ha pins s σ H _ I h) fun v s1 ⟨x, H1, I1, r1, q1⟩ => ?_)
  obtain ⟨c, rfl, q1⟩ := q1
  cases r1
  refine wpAny_truthy_bool ?_
  cases c with
  | true => exact hb pins s1 σ H1 Q I1 q1
  | false => exact ⟨.bl false, H1, I1, rfl, q1⟩
theorem pe_or (ha : PE X a ta) (hb : PE X (.BoolOp .Or (b :: rest) pos) tb) : PE X (.BoolOp .Or (a :: b :: rest) pos) (tOrV ta tb) := by
  intro pins s σ H Q I h
  refine BoolOp_or (thn (ha pins s σ H _ I h) fun v s1 ⟨x, H1, I1, r1, q1⟩ => ?_)
  obtain ⟨c, rfl, q1⟩ := q1
  cases r1
  refine wpAny_truthy_bool ?_
  cases c with
  | false => exact hb pins s1 σ H1 Q I1 q1
  | true => exact ⟨.bl true, H1, I1, rfl, q1⟩
theorem pe_not (ha : PE X a ta) : PE X (.UnaryOp .Not a pos) (tNotV ta) := by
  intro pins s σ H Q I h
  refine UnaryOp_ (thn (ha pins s σ H _ I h) fun v s1 ⟨x, H1, I1, r1, q1⟩ => ?_)
  obtain ⟨c, rfl, q1⟩ := q1
  cases r1
  exact not_of (wpAny_truthy_bool ⟨.bl (!c), H1, I1, rfl, q1⟩)
/-- a if t else b -/
def tIf (t : TT) (ta tb : TE) : TE := fun σ H Q => t σ H fun c H1 => if c = true then ta σ H1 Q else tb σ H1 Q
theorem pe_ifExp {c : Expr} (hc : PT X c tA) (ha : PE X a ta) (hb : PE X b tb) : PE X (.IfExp c a b pos) (tIf tA ta tb) := by
  intro pins s σ H Q I h
  refine wpAny_IfExp (thn (hc pins s σ H _ I h) fun d s1 ⟨H1, I1, q1⟩ => ?_)
  cases d with
  | true => exact ha pins s1 σ H1 Q I1 q1
  | false => exact hb pins s1 σ H1 Q I1 q1
end
end L2

namespace L2
open PySem PySem.Spec PyProof.Rows

/-! ### a list, a tuple that is read: tracked, frozen, or an object of the module -/
def SqL (K : PySem.W.Frag) (H : Hp) (a : Addr) (xs : List V) : Prop :=
  Rd H a (.lst xs) ∨
    ∃ (o : Obj) (its : Array Value) (n : Nat), K.lookup a = some o ∧ o.cls = .type "list" ∧ o.dict = none ∧ o.data = .seq its n ∧ its.size ≤ sizeLine ∧ Vals xs its.toList
def SqT (K : PySem.W.Frag) (H : Hp) (a : Addr) (xs : List V) : Prop :=
  Rd H a (.tup xs) ∨
    ∃ (o : Obj) (its : Array Value) (n : Nat), K.lookup a = some o ∧ o.cls = .type "tuple" ∧ o.data = .seq its n ∧ its.size ≤ sizeLine ∧ Vals xs its.toList
def absV : Value → Option V
  | .none => some .non
  | .bool b => some (.bl b)
  | .int i _ => some (.int i)
  | .str x _ => some (.str x)
  | .bytes b _ => some (.byt b)
  | .float b _ => some (.flt b)
  | .ref a => some (.ref a)
  | .type n => some (.ty n)
  | _ => none
theorem RelV.abs {x : V} {u : Value} (r : RelV x u) : absV u = some x := by
  cases x with
  | non => cases r; rfl
  | bl _ => cases r; rfl
  | int _ => obtain ⟨t, rfl⟩ := r; rfl
  | str _ => obtain ⟨t, rfl⟩ := r; rfl
  | byt _ => obtain ⟨t, rfl⟩ := r; rfl
  | flt _ => obtain ⟨t, rfl⟩ := r; rfl
  | ref _ => cases r; rfl
  | ty _ => cases r; rfl
theorem RelV.inj {x y : V} {u : Value} (r : RelV x u) (q : RelV y u) : x = y := Option.some.inj (r.abs.symm.trans q.abs)
theorem Vals.inj : ∀ {xs ys : List V} {us : List Value}, Vals xs us → Vals ys us → xs = ys
  | _, _, _, .nil, .nil => rfl
  | _, _, _, .cons r t, .cons r' t' => by rw [r.inj r', Vals.inj t t']
section
variable {X : Cx} {pins : List (Addr × Obj)} {σ : St} {H : Hp} {s : Shared} {a : Addr} {xs ys : List V}
theorem SqL.of {K : PySem.W.Frag} (h : H a = some (.lst xs)) : SqL K H a xs := .inl (.inl h)
theorem SqT.of {K : PySem.W.Frag} (h : H a = some (.tup xs)) : SqT K H a xs := .inl (.inl h)
theorem Inv.list (I : Inv X pins σ H s) (h : SqL X.K H a xs) : ∃ its : List Value, Vals xs its ∧ PlainL s.heap a its.toArray ∧ xs.length ≤ sizeLine := by
  rcases h with h | ⟨o, its, n, hk, hc, hd, hs, hz, r⟩
  · obtain ⟨z, its, n, r, e⟩ := h.ok I.hok
    exact ⟨its, r, ⟨_, n, e, rfl, rfl, rfl⟩, z⟩
  · refine ⟨its.toList, r, ⟨o, n, I.kIn a o hk, hc, hd, by simpa using hs⟩, ?_⟩
    have e := r.length
    simp only [Array.length_toList] at e
    omega
theorem Inv.tuple (I : Inv X pins σ H s) (h : SqT X.K H a xs) : ∃ its : List Value, Vals xs its ∧ IsTup s.heap a its.toArray ∧ xs.length ≤ sizeLine := by
  rcases h with h | ⟨o, its, n, hk, hc, hs, hz, r⟩
  · obtain ⟨z, its, r, p⟩ := h.ok I.hok
    exact ⟨its, r, p, z⟩
  · refine ⟨its.toList, r, ⟨o, I.kIn a o hk, hc, n, by simpa using hs⟩, ?_⟩
    have e := r.length
    simp only [Array.length_toList] at e
    omega
theorem Inv.list_inj (I : Inv X pins σ H s) (h : SqL X.K H a xs) (h' : SqL X.K H a ys) : xs = ys := by
  obtain ⟨its, r, ⟨o, n, e, _, _, d⟩, _⟩ := I.list h
  obtain ⟨its', r', ⟨o', n', e', _, _, d'⟩, _⟩ := I.list h'
  rw [e] at e'; cases e'
  rw [d] at d'
  injection d' with d1 _
  have : its = its' := by simpa using congrArg Array.toList d1
  subst this
  exact r.inj r'
theorem Inv.tuple_inj (I : Inv X pins σ H s) (h : SqT X.K H a xs) (h' : SqT X.K H a ys) : xs = ys := by
  obtain ⟨its, r, ⟨o, e, _, n, d⟩, _⟩ := I.tuple h
  obtain ⟨its', r', ⟨o', e', _, n', d'⟩, _⟩ := I.tuple h'
  rw [e] at e'; cases e'
  rw [d] at d'
  injection d' with d1 _
  have : its = its' := by simpa using congrArg Array.toList d1
  subst this
  exact r.inj r'
end

/-! ### another wish about exceptions -/
abbrev Cx.wish (X : Cx) (E : Value → Shared → Prop) : Cx := { X with xe := E }
/-- no exception leaves -/
abbrev Cx.nox (X : Cx) : Cx := X.wish fun _ _ => False
theorem Cx.Ok.wish {X : Cx} (ok : X.Ok) (E : Value → Shared → Prop) : (X.wish E).Ok :=
  ⟨ok.mod, ok.kind, ok.glob, ok.blt, ok.above, ok.inj, ok.has, ok.cab, ok.hd, ok.frames, ok.stk, ok.exf, ok.bs, ok.bsz, ok.noex, ok.exfs, ok.funs, ok.frf⟩
theorem Cx.Ok.unwish {X : Cx} {E : Value → Shared → Prop} (ok : (X.wish E).Ok) : X.Ok :=
  ⟨ok.mod, ok.kind, ok.glob, ok.blt, ok.above, ok.inj, ok.has, ok.cab, ok.hd, ok.frames, ok.stk, ok.exf, ok.bs, ok.bsz, ok.noex, ok.exfs, ok.funs, ok.frf⟩
section
variable {X : Cx} {pins : List (Addr × Obj)} {σ : St} {H : Hp} {s : Shared} {E : Value → Shared → Prop}
theorem Inv.wish (I : Inv X pins σ H s) (E : Value → Shared → Prop) : Inv (X.wish E) pins σ H s := ⟨I.ok.wish E, I.os, I.bare, I.base, I.loc, I.cell, I.free, I.freeC, I.pin, I.hok, I.len⟩
theorem Inv.unwish (I : Inv (X.wish E) pins σ H s) : Inv X pins σ H s := ⟨I.ok.unwish, I.os, I.bare, I.base, I.loc, I.cell, I.free, I.freeC, I.pin, I.hok, I.len⟩
theorem SP.unwish {D : Ends} {f : Flow} {s' : Shared} (h : SP (X.wish E) pins D f s') : SP X pins D f s' := by
  cases f with
  | next => obtain ⟨σ', H', I, q⟩ := h; exact ⟨σ', H', I.unwish, q⟩
  | brk => obtain ⟨σ', H', I, q⟩ := h; exact ⟨σ', H', I.unwish, q⟩
  | cont => obtain ⟨σ', H', I, q⟩ := h; exact ⟨σ', H', I.unwish, q⟩
  | ret u => obtain ⟨v, σ', H', I, r, q⟩ := h; exact ⟨v, σ', H', I.unwish, r, q⟩
theorem PE.nox {e : Expr} {t : TE} (h : PE X.nox e t) : PE X e t := fun pins s σ H Q I hw =>
  wpAny_mono (h pins s σ H Q (I.wish _) hw) (fun _ _ ⟨v, H', I', r, q⟩ => ⟨v, H', I'.unwish, r, q⟩) fun _ _ z => False.elim z
theorem PT.nox {e : Expr} {t : TT} (h : PT X.nox e t) : PT X e t := fun pins s σ H Q I hw =>
  wpAny_mono (h pins s σ H Q (I.wish _) hw) (fun _ _ ⟨H', I', q⟩ => ⟨H', I'.unwish, q⟩) fun _ _ z => False.elim z
theorem PSs.nox {st : List Stmt} {t : TS} (h : PSs X.nox st t) : PSs X st t := fun pins s σ H D I hw =>
  wpAny_mono (h pins s σ H D (I.wish _) hw) (fun _ _ q => q.unwish) fun _ _ z => False.elim z
end

/-! ### blocks and small statements -/
section
variable {X : Cx} {st : Stmt} {rest : List Stmt} {t u : TS} {e : Expr} {te : TE} {pos : Pos}
def tNext : TS := fun D σ H => D.nx σ H
def tSeq (t u : TS) : TS := fun D σ H => t { D with nx := u D } σ H
theorem pss_nil : PSs X [] tNext := fun _ _ σ H _ I h => wpAny_execs_nil ⟨σ, H, I, h⟩
theorem pss_cons (h1 : PS X st t) (h2 : PSs X rest u) : PSs X (st :: rest) (tSeq t u) := by
  intro pins s σ H D I h
  refine wpAny_execs_cons (thn (h1 pins s σ H { D with nx := u D } I h) fun f s1 q => ?_)
  cases f with
  | next =>
    obtain ⟨σ', H', I', q⟩ := q
    exact h2 pins s1 σ' H' D I' q
  | ret v => exact q
  | brk => exact q
  | cont => exact q
theorem pss_one (h1 : PS X st t) : PSs X [st] t := by
  intro pins s σ H D I h
  refine wpAny_execs_cons (thn (h1 pins s σ H D I h) fun f s1 q => ?_)
  cases f with
  | next => exact wpAny_execs_nil q
  | ret v => exact q
  | brk => exact q
  | cont => exact q
def tBreak : TS := fun D σ H => D.bk σ H
def tCont : TS := fun D σ H => D.ct σ H
theorem ps_pass : PS X (.Pass pos) tNext := fun _ _ σ H _ I h => wpAny_Pass ⟨σ, H, I, h⟩
theorem ps_break : PS X (.Break pos) tBreak := fun _ _ σ H _ I h => wpAny_Break ⟨σ, H, I, h⟩
theorem ps_continue : PS X (.Continue pos) tCont := fun _ _ σ H _ I h => wpAny_Continue ⟨σ, H, I, h⟩
/-- in a def's body nothing is shown -/
theorem Inv.quiet {pins : List (Addr × Obj)} {σ : St} {H : Hp} {s : Shared} (I : Inv X pins σ H s) : interactive X.env = false := by simp [interactive, I.ok.kind]
/-- a docstring -/
theorem ps_doc {x j pos pos'} : PS X (.Expr (.Constant (.str x) j pos) pos') tNext := fun _ s σ H _ I h => wpAny_Expr (Calls.Constant_str (show SP X _ _ .next { s with toks := s.toks + 1 } from ⟨σ, H, I.tok _, h⟩)) I.quiet
/-- an expression whose value is dropped -/
def tDrop (te : TE) : TS := fun D σ H => te σ H fun _ H1 => D.nx σ H1
theorem ps_expr (he : PE X e te) (hs : swapsWith e none pos.line X.env = pure false := by rfl) : PS X (.Expr e pos) (tDrop te) := by
  intro pins s σ H D I h
  exact wpAny_Expr_any (thn (he pins s σ H _ I h) fun v s1 ⟨x, H1, I1, r1, q1⟩ => ⟨σ, H1, I1, q1⟩) I.quiet hs
def tRet (te : TE) : TS := fun D σ H => te σ H D.rt
theorem ps_ret (he : PE X e te) : PS X (.Return (some e) pos) (tRet te) := by
  intro pins s σ H D I h
  exact wpAny_Return_some (thn (he pins s σ H _ I h) fun v s1 ⟨x, H1, I1, r1, q1⟩ => ⟨x, σ, H1, I1, r1, q1⟩)
def tRetN : TS := fun D _ H => D.rt .non H
theorem ps_retN : PS X (.Return none pos) tRetN := fun _ _ σ H _ I h => wpAny_Return_none ⟨.non, σ, H, I, rfl, h⟩
def tIfS (c : TT) (t u : TS) : TS := fun D σ H => c σ H fun b H1 => if b = true then t D σ H1 else u D σ H1
theorem ps_if {c : Expr} {a b : List Stmt} {tc : TT} (hc : PT X c tc) (ha : PSs X a t) (hb : PSs X b u) : PS X (.If c a b pos) (tIfS tc t u) := by
  intro pins s σ H D I h
  refine wpAny_If (thn (hc pins s σ H _ I h) fun d s1 ⟨H1, I1, q1⟩ => ?_)
  cases d with
  | true => exact ha pins s1 σ H1 D I1 q1
  | false => exact hb pins s1 σ H1 D I1 q1
/-- code that the proof never comes to -/
def tNever : TS := fun _ _ _ => False
theorem ps_never : PS X st tNever := fun _ _ _ _ _ _ h => h.elim
theorem pss_never {sts : List Stmt} : PSs X sts tNever := fun _ _ _ _ _ _ h => h.elim
end

/-! ### targets -/
abbrev TG := V → St → Hp → (St → Hp → Prop) → Prop
abbrev TGs := List V → St → Hp → (St → Hp → Prop) → Prop
def PG (X : Cx) (target : Expr) (t : TG) : Prop :=
  ∀ (pins : List (Addr × Obj)) (s : Shared) (σ : St) (H : Hp) (v : V) (u : Value) (Q : St → Hp → Prop), Inv X pins σ H s → RelV v u → t v σ H Q →
    wpAny (model X.prog X.w) X.A (assign target X.env u) (fun _ s' => ∃ σ' H', Inv X pins σ' H' s' ∧ Q σ' H') X.xe s
/-- several targets, one after another -/
def PGs (X : Cx) (ts : List Expr) (t : TGs) : Prop :=
  ∀ (pins : List (Addr × Obj)) (s : Shared) (σ : St) (H : Hp) (vs : List V) (us : List Value) (Q : St → Hp → Prop), Inv X pins σ H s → Vals vs us → t vs σ H Q →
    wpAny (model X.prog X.w) X.A (assignInOrder ((assignEach ts X.env).map (·.2)) us) (fun _ s' => ∃ σ' H', Inv X pins σ' H' s' ∧ Q σ' H') X.xe s
/-- o[i] = v, by values -/
abbrev TSet := V → V → V → Hp → (Hp → Prop) → Prop
def PSet (X : Cx) (t : TSet) : Prop :=
  ∀ (pins : List (Addr × Obj)) (s : Shared) (σ : St) (H : Hp) (o i v : V) (ov iv u : Value) (Q : Hp → Prop), Inv X pins σ H s → RelV o ov → RelV i iv → RelV v u → t o i v H Q →
    wpAny (model X.prog X.w) X.A (setItem ov iv u) (fun _ s' => ∃ H', Inv X pins σ H' s' ∧ Q H') X.xe s
/-- a op= b, by values -/
abbrev TIp := V → V → Hp → VK → Prop
def PIp (X : Cx) (op : Operator) (t : TIp) : Prop :=
  ∀ (pins : List (Addr × Obj)) (s : Shared) (σ : St) (H : Hp) (x y : V) (v u : Value) (Q : VK), Inv X pins σ H s → RelV x v → RelV y u → t x y H Q →
    wpAny (model X.prog X.w) X.A (inplaceOp op v u) (EP X pins σ Q) X.xe s
section
variable {X : Cx} {pos : Pos}
def gName (i : Nat) : TG := fun v σ H Q => Q (σ.set i (some v)) H
theorem pg_name {i : Nat} {x : Str} (hN : X.N.Nodup) (hi : X.N[i]? = some x) (hx : Loc X.env.scope x) (hf : X.fn x = true ∨ X.env.scope.names.lookup x = some .local := by first | exact .inl rfl | exact .inr rfl | assumption) : PG X (.Name x pos) (gName i) := by
  intro pins s σ H v u Q I r h
  exact wpAny_assign_Name (store_ok I hN hi hx r (fun s' I' => ⟨_, H, I', h⟩) hf)
def gNil : TGs := fun vs σ H Q => vs = [] ∧ Q σ H
def gCons (t : TG) (u : TGs) : TGs := fun vs σ H Q => ∃ v r, vs = v :: r ∧ t v σ H fun σ' H' => u r σ' H' Q
theorem pgs_nil : PGs X [] gNil := by
  intro pins s σ H vs us Q I r h
  obtain ⟨e, h⟩ := h
  subst e
  cases r
  exact assignInOrder_nil ⟨σ, H, I, h⟩
theorem pgs_cons {e : Expr} {es : List Expr} {t : TG} {u : TGs} (h1 : PG X e t) (h2 : PGs X es u)
    (hs : (assignEach (e :: es) X.env).map (·.2) = assign e X.env :: (assignEach es X.env).map (·.2) := by rfl) : PGs X (e :: es) (gCons t u) := by
  intro pins s σ H vs us Q I r h
  obtain ⟨v, vr, e1, h⟩ := h
  subst e1
  cases r with
  | cons r rr =>
    rw [hs]
    refine assignInOrder_cons (thn (h1 pins s σ H _ _ _ I r h) fun _ s1 ⟨σ1, H1, I1, q1⟩ => ?_)
    exact h2 pins s1 σ1 H1 _ _ Q I1 rr q1
/-- (a, b, ..) = a tuple of that length -/
def gTup (K : PySem.W.Frag) (n : Nat) (t : TGs) : TG := fun v σ H Q => ∃ a xs, v = .ref a ∧ SqT K H a xs ∧ xs.length = n ∧ t xs σ H Q
theorem pg_tup {es : List Expr} {k : Nat} {t : TGs} {n : Nat} (hc : X.calm = true) (h : PGs X es t)
    (hn : (assignEach es X.env).length = n := by rfl) (hst : (assignEach es X.env).findIdx? (·.1) = none := by rfl) : PG X (.Tuple es k pos) (gTup X.K n t) := by
  intro pins s σ H v u Q I r hw
  obtain ⟨a, xs, e1, hq, hl, hw⟩ := hw
  subst e1
  cases r
  obtain ⟨its, rv, ht, hz⟩ := I.tuple hq
  refine assign_Tuple_tuple (I.ok.hd hc) ht (by simp [hn, ← hl, rv.length]) hst fun h' hx => ?_
  have I1 : Inv X pins σ H { s with heap := h' } := I.kept (t' := s.toks) fun b o e => hx b o (Nat.ne_of_lt (Heap.lt_size e)) e
  exact h pins _ σ H xs _ Q I1 (by simpa using rv) hw
/-- o[i] = .. -/
def gSub (to ti : TE) (t : TSet) : TG := fun v σ H Q => to σ H fun o H1 => ti σ H1 fun i H2 => t o i v H2 fun H3 => Q σ H3
theorem pg_sub {o i : Expr} {to ti : TE} {t : TSet} (ho : PE X o to) (hi : PE X i ti) (hs : PSet X t)
    (ha : ∀ v, assign (.Subscript o i pos) X.env v = (do
      let ov ← holding [v] (eval o X.env)
      let iv ← holding [v, ov] (eval i X.env)
      standAt pos
      holding [v, ov, iv] (setItem ov iv v)
      release [v, ov, iv] []) := by intro _; rfl) : PG X (.Subscript o i pos) (gSub to ti t) := by
  intro pins s σ H v u Q I r h
  rw [ha]
  refine wpAny_bind (wpAny_holding (thn (ho pins s σ H _ I h) fun ov s1 ⟨x, H1, I1, r1, q1⟩ => ?_))
  refine wpAny_bind (wpAny_holding (thn (hi pins s1 σ H1 _ I1 q1) fun iv s2 ⟨y, H2, I2, r2, q2⟩ => ?_))
  refine wpAny_bind (wpAny_standAt (wpAny_bind (wpAny_holding (thn (hs pins s2 σ H2 x y v ov iv u _ I2 r1 r2 r q2) fun _ s3 ⟨H3, I3, q3⟩ => ?_))))
  exact wpAny_release ⟨σ, H3, I3, q3⟩
/-- target = value -/
def tAsg (te : TE) (g : TG) : TS := fun D σ H => te σ H fun x H1 => g x σ H1 D.nx
theorem ps_asg {tg e : Expr} {te : TE} {g : TG} (he : PE X e te) (hg : PG X tg g) (hs : swapsWithSole [tg] e pos.line X.env = pure false := by rfl) (hw : swappedStores [tg] e X.env = pure none := by rfl)
    (h1 : (assignEach [tg] X.env).map (·.2) = [assign tg X.env] := by rfl) : PS X (.Assign [tg] e pos) (tAsg te g) := by
  intro pins s σ H D I h
  refine wpAny_Assign_stores (thn (he pins s σ H _ I h) fun v s1 ⟨x, H1, I1, r1, q1⟩ => ?_) hs hw
  rw [h1]
  exact thn (hg pins s1 σ H1 x v _ I1 r1 q1) fun _ s2 q => q
/-- name = value -/
theorem ps_set {i : Nat} {x : Str} {e : Expr} {te : TE} {pos' : Pos} (hN : X.N.Nodup) (hi : X.N[i]? = some x) (hx : Loc X.env.scope x) (he : PE X e te) (hs : swapsWith e (some (.Name x pos')) pos.line X.env = pure false := by rfl) (hf : X.fn x = true ∨ X.env.scope.names.lookup x = some .local := by first | exact .inl rfl | exact .inr rfl | assumption) :
    PS X (.Assign [.Name x pos'] e pos) (tAsg te (gName i)) := by
  intro pins s σ H D I h
  refine wpAny_Assign_Name (thn (he pins s σ H _ I h) fun v s1 ⟨y, H1, I1, r1, q1⟩ => ?_) hs
  exact store_ok I1 hN hi hx r1 (fun s2 I2 => ⟨_, H1, I2, q1⟩) hf
/-- a, b = x, y with plain local names: stored from the right; the pair itself is not tracked (the opening rows as in PyProof/Rows/TupAssign.lean:23) -/
def tPar (i j : Nat) (ta : TA) : TS := fun D σ H => ta σ H fun vs H1 => ∃ v w, vs = [v, w] ∧ D.nx ((σ.set i (some v)).set j (some w)) H1
theorem ps_par {i j : Nat} {x y : Str} {a b : Expr} {ta : TA} {px py pt : Pos} {kt k2 pt2} (hc : X.calm = true) (hN : X.N.Nodup) (hi : X.N[i]? = some x) (hj : X.N[j]? = some y) (hij : i ≠ j)
    (hx : X.env.scope.names.lookup x = some .local) (hy : X.env.scope.names.lookup y = some .local) (ha : PA X [a, b] ta)
    (hw : swappedStores [.Tuple [.Name x px, .Name y py] kt pt] (.Tuple [a, b] k2 pt2) X.env = pure (some [x, y]))
    (hs : swapsWithSole [.Tuple [.Name x px, .Name y py] kt pt] (.Tuple [a, b] k2 pt2) pos.line X.env = pure false := by rfl) :
    PS X (.Assign [.Tuple [.Name x px, .Name y py] kt pt] (.Tuple [a, b] k2 pt2) pos) (tPar i j ta) := by
  intro pins s σ H D I h
  rw [exec_Assign_arm]
  refine wpAny_bind (wpAny_standAt ?_)
  rw [hs]
  refine wpAny_bind (wpAny_pure ?_)
  rw [if_neg (by decide)]
  refine wpAny_bind (Tuple_ (thn (ha _ pins s σ H _ I h) fun us s1 ⟨vs, H1, I1, r1, q1⟩ => ?_))
  obtain ⟨v, w, e1, q1⟩ := q1
  subst e1
  obtain ⟨u1, u2, rfl, rv, rw'⟩ : ∃ u1 u2, us = [u1, u2] ∧ RelV v u1 ∧ RelV w u2 := by
    cases r1 with
    | cons p q =>
      cases q with
      | cons p' q' =>
        cases q'
        exact ⟨_, _, rfl, p, p'⟩
  refine wpAny_newObj_type ?_ (by show 2 ≤ sizeLine; decide)
  have I2 : Inv X pins σ H1 { s1 with heap := s1.heap.push { cls := .type "tuple", data := .seq [u1, u2].toArray } } := I1.kept (t' := s1.toks) fun b o e => Heap.get?_push_of_some _ e
  rw [hw]
  refine wpAny_bind (wpAny_pure ?_)
  show wpAny (model X.prog X.w) X.A (do rule "assign.swapped-stores"; let items ← unpackItems (.ref s1.heap.objs.size) 2 none; assignInOrder [fun v => bindName X.env y v, fun v => bindName X.env x v] items.reverse; pure Flow.next) _ _ _
  refine wpAny_bind (wpAny_rule (wpAny_bind (unpackItems_tuple (items := #[u1, u2]) (I.ok.hd hc) (IsTup.new s1.heap _) fun h' hx' => ?_)))
  have I3 := I2.kept (h' := h') (t' := s1.toks) fun b o e => hx' b o (Nat.ne_of_lt (Heap.lt_size e)) e
  show wpAny _ _ (assignInOrder [fun v => bindName X.env y v, fun v => bindName X.env x v] [u2, u1] >>= fun _ => pure Flow.next) _ _ _
  refine wpAny_bind (assignInOrder_cons (wpAny_bindName (store_ok I3 hN hj (.inl hy) rw' (fun s2 I4 => ?_) (.inr hy))))
  refine assignInOrder_cons (wpAny_bindName (store_ok I4 hN hi (.inl hx) rv (fun s3 I5 => assignInOrder_nil (wpAny_pure ?_)) (.inr hx)))
  rw [List.set_comm _ _ (Ne.symm hij)] at I5
  exact ⟨_, H1, I5, q1⟩
/-- name op= e -/
def tAug (i : Nat) (te : TE) (ti : TIp) : TS := fun D σ H => ∃ x, σ[i]? = some (some x) ∧ te σ H fun y H1 => ti x y H1 fun z H2 => D.nx (σ.set i (some z)) H2
theorem ps_aug {i : Nat} {x : Str} {e : Expr} {te : TE} {op : Operator} {ti : TIp} {pos' : Pos} (hN : X.N.Nodup) (hi : X.N[i]? = some x) (hx : Loc X.env.scope x) (he : PE X e te) (ho : PIp X op ti) (hf : X.fn x = true ∨ X.env.scope.names.lookup x = some .local := by first | exact .inl rfl | exact .inr rfl | assumption) :
    PS X (.AugAssign (.Name x pos') op e pos) (tAug i te ti) := by
  intro pins s σ H D I h
  obtain ⟨v, e1, h⟩ := h
  obtain ⟨m, hn, hl⟩ := I.loc
  have vis : Vis X.env.scope x := by rcases hx with k | k; exact .inl k; exact .inr (.inl k)
  obtain ⟨u, r, l⟩ := hl i x v hi e1 vis
  refine wpAny_AugAssign_Name ?_
  have go : wpAny (model X.prog X.w) X.A (eval e X.env) (fun w s₂ => wpAny (model X.prog X.w) X.A (inplaceOp op u w) (fun r s₃ => wpAny (model X.prog X.w) X.A (storeName X.env x r) (fun _ => SP X pins D .next) X.xe s₃) X.xe s₂) X.xe s := by
    refine thn (he pins s σ H _ I h) fun w s1 ⟨y, H1, I1, r1, q1⟩ => ?_
    refine thn (ho pins s1 σ H1 v y u w _ I1 r r1 q1) fun z s2 ⟨zv, H2, I2, r2, q2⟩ => ?_
    exact store_ok I2 hN hi hx r2 (fun s3 I3 => ⟨_, H2, I3, q2⟩) hf
  rcases l with ⟨hk, hm⟩ | ⟨hk, c, hc, hcell⟩
  · exact wpAny_loadName_local I.ok.kind hk hn hm go
  · rcases hk with hk | hk
    · exact wpAny_loadName_cell I.ok.kind hk hc hcell go
    · rcases hx with k | k
      · have : X.env.scope.names.lookup x = some .free := hk
        rw [k] at this; cases this
      · have : X.env.scope.names.lookup x = some .free := hk
        rw [k] at this; cases this
/-- o[i] op= e -/
def tAugS (to ti te : TE) (tget : V → V → Hp → VK → Prop) (tip : TIp) (tset : TSet) : TS := fun D σ H => to σ H fun o H1 => ti σ H1 fun i H2 => tget o i H2 fun x H3 => te σ H3 fun y H4 => tip x y H4 fun z H5 => tset o i z H5 fun H6 => D.nx σ H6
/-- o[i], by values -/
def PGet (X : Cx) (t : V → V → Hp → VK → Prop) : Prop :=
  ∀ (pins : List (Addr × Obj)) (s : Shared) (σ : St) (H : Hp) (o i : V) (ov iv : Value) (Q : VK), Inv X pins σ H s → RelV o ov → RelV i iv → t o i H Q →
    wpAny (model X.prog X.w) X.A (getItem ov iv) (EP X pins σ Q) X.xe s
theorem ps_augS {o i e : Expr} {to ti te : TE} {tget : V → V → Hp → VK → Prop} {tip : TIp} {tset : TSet} {op : Operator} {tpos : Pos} (ho : PE X o to) (hi : PE X i ti) (hg : PGet X tget) (he : PE X e te) (hp : PIp X op tip) (hs : PSet X tset)
    (ha : ∀ ov iv new, augStore i ov iv new = (do holding [new, ov, iv] (setItem ov iv new); release [new, ov, iv] []; pure .next) := by intros; rfl) : PS X (.AugAssign (.Subscript o i tpos) op e pos) (tAugS to ti te tget tip tset) := by
  intro pins s σ H D I h
  refine wpAny_AugAssign_SubscriptAny (thn (ho pins s σ H _ I h) fun ov s1 ⟨x1, H1, I1, r1, q1⟩ => ?_) ha
  refine thn (hi pins s1 σ H1 _ I1 q1) fun iv s2 ⟨x2, H2, I2, r2, q2⟩ => ?_
  refine thn (hg pins s2 σ H2 x1 x2 ov iv _ I2 r1 r2 q2) fun old s3 ⟨x3, H3, I3, r3, q3⟩ => ?_
  refine thn (he pins s3 σ H3 _ I3 q3) fun v s4 ⟨x4, H4, I4, r4, q4⟩ => ?_
  refine thn (hp pins s4 σ H4 x3 x4 old v _ I4 r3 r4 q4) fun new s5 ⟨x5, H5, I5, r5, q5⟩ => ?_
  exact thn (hs pins s5 σ H5 x1 x2 x5 ov iv new _ I5 r1 r2 r5 q5) fun _ s6 ⟨H6, I6, q6⟩ => ⟨σ, H6, I6, q6⟩
/-- ints -/
def ipI (f : Int → Int → Int) : TIp := fun x y H Q => ∃ i j, x = .int i ∧ y = .int j ∧ Q (.int (f i j)) H
theorem ip_add : PIp X .Add (ipI fun i j => i + j) := by
  intro pins s σ H x y v u Q I r1 r2 h
  obtain ⟨i, j, e1, e2, q⟩ := h
  subst e1; subst e2
  obtain ⟨t, rfl⟩ := r1
  obtain ⟨t', rfl⟩ := r2
  exact iadd_int ⟨.int _, H, I.tok _, ⟨_, rfl⟩, q⟩
theorem ip_sub : PIp X .Sub (ipI fun i j => i - j) := by
  intro pins s σ H x y v u Q I r1 r2 h
  obtain ⟨i, j, e1, e2, q⟩ := h
  subst e1; subst e2
  obtain ⟨t, rfl⟩ := r1
  obtain ⟨t', rfl⟩ := r2
  exact isub_int ⟨.int _, H, I.tok _, ⟨_, rfl⟩, q⟩
end

/-! ### while -/
section
variable {X : Cx} {pos : Pos}
/-- the invariant W with its measure -/
def tWhile (c : TT) (tb : TS) : TS := fun D σ H => ∃ W : Nat → St → Hp → Prop, (∃ m, W m σ H) ∧ ∀ m σ H, W m σ H →
  c σ H fun b H1 => if b = true then ∃ N : St → Hp → Prop, (∀ σ' H', N σ' H' → ∃ m', m' < m ∧ W m' σ' H') ∧ tb { D with nx := N, ct := N, bk := D.nx } σ H1 else D.nx σ H1
theorem ps_while {c : Expr} {body : List Stmt} {tc : TT} {tb : TS} (hp : PassesOwn (model X.prog X.w) X.A X.env X.xe) (hc : PT X c tc) (hb : PSs X body tb) : PS X (.While c body [] pos) (tWhile tc tb) := by
  intro pins s σ H D I h
  obtain ⟨W, ⟨m0, w0⟩, turn⟩ := h
  refine wpAny_While (codeAny_whileLoop (fun n s' => ∃ σ' H', Inv X pins σ' H' s' ∧ W n σ' H') ?_ m0 ⟨σ, H, I, w0⟩)
  rintro n s1 ⟨σ1, H1, I1, w1⟩
  refine wpAny_passesOwn hp (thn (hc pins s1 σ1 H1 _ I1 (turn n σ1 H1 w1)) fun b s2 ⟨H2, I2, q2⟩ => ?_)
  cases b with
  | true =>
    obtain ⟨N, hN, q2⟩ := q2
    rw [if_pos rfl]
    refine wpAny_passesOwn hp (thn (hb pins s2 σ1 H2 _ I2 q2) fun f s3 q3 => ?_)
    cases f with
    | next =>
      obtain ⟨σ3, H3, I3, n3⟩ := q3
      obtain ⟨m', hm, w3⟩ := hN σ3 H3 n3
      exact ⟨m', hm, σ3, H3, I3, w3⟩
    | cont =>
      obtain ⟨σ3, H3, I3, n3⟩ := q3
      obtain ⟨m', hm, w3⟩ := hN σ3 H3 n3
      exact ⟨m', hm, σ3, H3, I3, w3⟩
    | brk => exact q3
    | ret v => exact q3
  | false =>
    rw [if_neg Bool.false_ne_true]
    exact wpAny_execs_nil ⟨σ1, H2, I2, q2⟩
end

/-! ### what a loop or a comprehension walks -/
/-- at turn i: it yields x (the heap may grow), or it stops -/
structure It where
  go : Nat → Hp → Prop
  yld : Nat → Hp → V → Hp → Prop
  stop : Nat → Hp → Prop
/-- the iterator's own objects may turn: they are not the frame's, not pinned, younger than the entry (or a comprehension's own) -/
def FpOk (X : Cx) (pins : List (Addr × Obj)) (H : Hp) (b : Addr) : Prop :=
  H b = none ∧ b ≠ X.env.locals ∧ b ∉ X.fs ∧ (b ∈ X.ex ∨ X.s₀.heap.objs.size ≤ b) ∧ (∀ x c, X.env.cells.lookup x = some c → c ≠ b) ∧ ∀ p ∈ X.pn ++ pins, p.1 ≠ b
theorem Inv.fpOk {X : Cx} {pins : List (Addr × Obj)} {σ : St} {H H' : Hp} {s : Shared} {b : Addr} (I : Inv X pins σ H s) (hb : s.heap.objs.size ≤ b) (hn : H' b = none) : FpOk X pins H' b := by
  refine ⟨hn, Nat.ne_of_gt (Nat.lt_of_lt_of_le I.lt hb), I.nofs hb, .inr (Nat.le_trans I.sz hb), fun x c e z => ?_, fun p hp z => ?_⟩
  · obtain ⟨v, q⟩ := I.cell x c e
    exact absurd (Nat.lt_of_lt_of_le q.lt (by rw [z]; exact hb)) (Nat.lt_irrefl _)
  · exact absurd (Nat.lt_of_lt_of_le (Heap.lt_size (I.pin p hp).1) (by rw [z]; exact hb)) (Nat.lt_irrefl _)
structure Turn (P : Program) (w : World) (K : PySem.W.Frag) (tg : Expr) (J : It) (fp : List Addr) (it : Addr) (tn : Nat → Heap → Prop) : Prop where
  mem : it ∈ fp
  obj : ∀ i h, tn i h → ∀ b ∈ fp, ∃ o, h.get? b = some o ∧ ∀ v, o.data ≠ .cell v
  keep : ∀ i h h', tn i h → (∀ b ∈ fp, ∀ o, h.get? b = some o → h'.get? b = some o) → tn i h'
  item : ∀ (X : Cx), X.prog = P → X.w = w → X.K = K → X.calm = true → ∀ (i : Nat) (pins : List (Addr × Obj)) (s : Shared) (σ : St) (H : Hp) (E : Value → Shared → Prop), Inv X pins σ H s → (∀ b ∈ fp, FpOk X pins H b) → tn i s.heap → J.go i H →
    wpAny (model P w) X.A (pyNext (.ref it)) (fun r s1 => ∃ u, r = some u ∧
      wpAny (model P w) X.A (letOwnedTupleGo tg (.ref it) u) (fun _ s2 => ∃ x H', Inv X pins σ H' s2 ∧ RelV x u ∧ J.yld i H x H' ∧ tn (i + 1) s2.heap ∧ ∀ b ∈ fp, H' b = none) E s1) E s
  done : ∀ (X : Cx), X.prog = P → X.w = w → X.K = K → X.calm = true → ∀ (i : Nat) (pins : List (Addr × Obj)) (s : Shared) (σ : St) (H : Hp) (E : Value → Shared → Prop), Inv X pins σ H s → (∀ b ∈ fp, FpOk X pins H b) → tn i s.heap → J.stop i H →
    wpAny (model P w) X.A (pyNext (.ref it)) (fun r s1 => r = none ∧ Inv X pins σ H s1) E s
  self : ∀ (A : Around) (i : Nat) (s : Shared) (Q : Value → Shared → Prop) (E : Value → Shared → Prop), tn i s.heap → Q (.ref it) s → wpAny (model P w) A (pyIter (.ref it)) Q E s
abbrev TI := St → Hp → (It → Hp → Prop) → Prop
/-- an iterator has come -/
def PIE (X : Cx) (pins : List (Addr × Obj)) (σ : St) (tg : Expr) (R : It → Hp → Prop) (itv : Value) (s2 : Shared) : Prop :=
  ∃ (it : Addr) (fp : List Addr) (tn : Nat → Heap → Prop) (J : It) (H' : Hp), itv = .ref it ∧ Inv X pins σ H' s2 ∧ Turn X.prog X.w X.K tg J fp it tn ∧ tn 0 s2.heap ∧ (∀ b ∈ fp, FpOk X pins H' b) ∧ R J H'
def PI (X : Cx) (tg iter : Expr) (wi : TI) : Prop :=
  ∀ (pins : List (Addr × Obj)) (s : Shared) (σ : St) (H : Hp) (R : It → Hp → Prop), Inv X pins σ H s → wi σ H R →
    wpAny (model X.prog X.w) X.A (eval iter X.env) (fun v s1 => wpAny (model X.prog X.w) X.A (pyIter v) (PIE X pins σ tg R) X.xe s1) X.xe s

/-- the step ahead of the store is nothing for an iterator that keeps no tuple -/
theorem go_of {M : Model} {A : Around} {E : Value → Shared → Prop} {s : Shared} {tg : Expr} {it : Addr} {u : Value} {o : Obj} {n : String} {vs : Array Value} {Q : Unit → Shared → Prop} (ho : s.heap.get? it = some o) (hc : o.cls = .type n) (hd : o.data = .fields vs)
    (hn : ["enumerate", "zip", "dict_itemiterator", "dict_reverseitemiterator", "odict_iterator", "itertools.zip_longest", "itertools.pairwise"].contains n = false) (hQ : Q () s) : wpAny M A (letOwnedTupleGo tg (.ref it) u) Q E s := by
  unfold letOwnedTupleGo
  cases tg <;> first
    | exact wpAny_pure hQ
    | (cases u <;> first
        | exact wpAny_pure hQ
        | (refine wpAny_bind (wpAny_load ho ?_)
           rw [hc, hd]
           show wpAny M A (if (["enumerate", "zip", "dict_itemiterator", "dict_reverseitemiterator", "odict_iterator", "itertools.zip_longest", "itertools.pairwise"].contains n && vs[0]? == some (rawInt _)) = true then _ else _) Q E s
           rw [if_neg (by intro h; rw [hn, Bool.false_and] at h; cases h)]
           exact wpAny_pure hQ))

/-- the list at a, as it stands at each turn (a loop may append to it) -/
def Itl (K : PySem.W.Frag) (a : Addr) : It :=
  ⟨fun i H => ∃ xs x, SqL K H a xs ∧ xs[i]? = some x, fun i H x H' => H' = H ∧ ∀ xs, SqL K H a xs → xs[i]? = some x, fun i H => ∃ xs, SqL K H a xs ∧ xs.length ≤ i⟩
def Itt (K : PySem.W.Frag) (a : Addr) : It :=
  ⟨fun i H => ∃ xs x, SqT K H a xs ∧ xs[i]? = some x, fun i H x H' => H' = H ∧ ∀ xs, SqT K H a xs → xs[i]? = some x, fun i H => ∃ xs, SqT K H a xs ∧ xs.length ≤ i⟩
/-- lo, lo + 1, .. (n of them) -/
def Itr (lo : Int) (n : Nat) : It := ⟨fun i _ => i < n, fun i H x H' => H' = H ∧ x = .int (lo + i), fun i _ => n ≤ i⟩
theorem turn_list {P : Program} {w : World} {K : PySem.W.Frag} {tg : Expr} (a it : Addr) : Turn P w K tg (Itl K a) [it] it (fun i h => h.IsListIter it a i) where
  mem := by simp
  obj := fun i h st b hb => by
    have e : b = it := by simpa using hb
    subst e
    obtain ⟨o, e, c, d⟩ := st
    exact ⟨o, e, fun v z => by rw [d] at z; cases z⟩
  keep := fun i h h' st k => st.at fun o e => k it (by simp) o e
  item := by
    intro X hP hw hK hc i pins s σ H E I hf st hg
    subst hP hw hK
    obtain ⟨xs, x, hq, hx⟩ := hg
    obtain ⟨its, rv, p, hz⟩ := I.list hq
    obtain ⟨u, hu, ru⟩ := rv.get hx
    obtain ⟨f0, f1, f2, f3, f4, f5⟩ := hf it (by simp)
    refine wpAny_pyNext_list_item st p.isList (x := u) (by simpa using hu) fun h' st' sb => ?_
    have I1 : Inv X pins σ H { s with heap := h' } := I.turned (t' := s.toks) (fun b o hb e => (sb.2 b hb).trans e) f0 f1 f3 f4 f5
    obtain ⟨o, e, c, d⟩ := id st'
    exact ⟨u, rfl, go_of (s := { s with heap := h' }) e c d (by decide) ⟨x, H, I1, ru, ⟨rfl, fun ys hy => by rw [I.list_inj hy hq]; exact hx⟩, st', fun b hb => (hf b hb).1⟩⟩
  done := by
    intro X hP hw hK hc i pins s σ H E I hf st hg
    subst hP hw hK
    obtain ⟨xs, hq, hx⟩ := hg
    obtain ⟨its, rv, p, hz⟩ := I.list hq
    obtain ⟨f0, f1, f2, f3, f4, f5⟩ := hf it (by simp)
    have hl := rv.length
    exact wpAny_pyNext_list_end (I.ok.hd hc) st p.isList (by simp; omega) fun h' eb => ⟨rfl, I.turned (t' := s.toks) (fun b o hb e => eb b o hb e) f0 f1 f3 f4 f5⟩
  self := fun _ _ _ _ _ st h => wpAny_pyIter_listiter st h
theorem turn_tuple {P : Program} {w : World} {K : PySem.W.Frag} {tg : Expr} (a it : Addr) : Turn P w K tg (Itt K a) [it] it (fun i h => h.IsTupleIter it a i) where
  mem := by simp
  obj := fun i h st b hb => by
    have e : b = it := by simpa using hb
    subst e
    obtain ⟨o, e, c, d⟩ := st
    exact ⟨o, e, fun v z => by rw [d] at z; cases z⟩
  keep := fun i h h' st k => st.at fun o e => k it (by simp) o e
  item := by
    intro X hP hw hK hc i pins s σ H E I hf st hg
    subst hP hw hK
    obtain ⟨xs, x, hq, hx⟩ := hg
    obtain ⟨its, rv, p, hz⟩ := I.tuple hq
    obtain ⟨u, hu, ru⟩ := rv.get hx
    obtain ⟨f0, f1, f2, f3, f4, f5⟩ := hf it (by simp)
    refine wpAny_pyNext_tuple_item st (show s.heap.IsTuple a its.toArray from p) (x := u) (by simpa using hu) fun h' st' sb => ?_
    have I1 : Inv X pins σ H { s with heap := h' } := I.turned (t' := s.toks) (fun b o hb e => (sb.2 b hb).trans e) f0 f1 f3 f4 f5
    obtain ⟨o, e, c, d⟩ := id st'
    exact ⟨u, rfl, go_of (s := { s with heap := h' }) e c d (by decide) ⟨x, H, I1, ru, ⟨rfl, fun ys hy => by rw [I.tuple_inj hy hq]; exact hx⟩, st', fun b hb => (hf b hb).1⟩⟩
  done := by
    intro X hP hw hK hc i pins s σ H E I hf st hg
    subst hP hw hK
    obtain ⟨xs, hq, hx⟩ := hg
    obtain ⟨its, rv, p, hz⟩ := I.tuple hq
    obtain ⟨f0, f1, f2, f3, f4, f5⟩ := hf it (by simp)
    have hl := rv.length
    exact wpAny_pyNext_tuple_end (I.ok.hd hc) st (show s.heap.IsTuple a its.toArray from p) (by simp; omega) fun h' eb => ⟨rfl, I.turned (t' := s.toks) (fun b o hb e => eb b o hb e) f0 f1 f3 f4 f5⟩
  self := fun _ _ _ _ _ st h => wpAny_pyIter_tupleiter st h
theorem turn_range {P : Program} {w : World} {K : PySem.W.Frag} {tg : Expr} (it : Addr) (lo : Int) (n : Nat) : Turn P w K tg (Itr lo n) [it] it (fun i h => IsRangeIter h it (lo + (i : Nat) * 1) ((n : Int) - (i : Nat)) 1) where
  mem := by simp
  obj := fun i h st b hb => by
    have e : b = it := by simpa using hb
    subst e
    exact ⟨_, st, fun v z => by
      have z' : Data.fields _ = Data.cell v := z
      cases z'⟩
  keep := fun i h h' st k => k it (by simp) _ st
  item := by
    intro X hP hw hK hc i pins s σ H E I hf st hg
    subst hP hw hK
    obtain ⟨f0, f1, f2, f3, f4, f5⟩ := hf it (by simp)
    have W := Walks.range (prog := X.prog) (w := X.w) (I.ok.hd hc) it lo 1 n
    refine W.item i s _ _ hg st fun v h' tk hv st' kk => ?_
    obtain ⟨t, rfl⟩ := hv
    have I1 : Inv X pins σ H { s with heap := h', toks := tk } := I.turned (fun b o hb e => kk b o (by simpa using hb) e) f0 f1 f3 f4 f5
    refine ⟨_, rfl, go_of (s := { s with heap := h', toks := tk }) (n := "range_iterator") st' rfl rfl (by decide) ⟨.int (lo + i), H, I1, ⟨t, ?_⟩, ⟨rfl, rfl⟩, st', fun b hb => (hf b hb).1⟩⟩
    rw [Int.mul_one]
  done := by
    intro X hP hw hK hc i pins s σ H E I hf st hg
    subst hP hw hK
    obtain ⟨f0, f1, f2, f3, f4, f5⟩ := hf it (by simp)
    exact wpAny_pyNext_range_end (I.ok.hd hc) st (by have : n ≤ i := hg; omega) fun h' eb => ⟨rfl, I.turned (t' := s.toks) (fun b o hb e => eb b o hb e) f0 f1 f3 f4 f5⟩
  self := fun _ _ _ _ _ st h => wpAny_pyIter_rangeiter st h
end L2

namespace L2
open PySem PySem.Spec PyProof.Rows
section
variable {X : Cx} {tg : Expr}
def iList (K : PySem.W.Frag) (tl : TE) : TI := fun σ H R => tl σ H fun x H1 => ∃ a, x = .ref a ∧ (∃ xs, SqL K H1 a xs) ∧ R (Itl K a) H1
def iTup (K : PySem.W.Frag) (tl : TE) : TI := fun σ H R => tl σ H fun x H1 => ∃ a, x = .ref a ∧ (∃ xs, SqT K H1 a xs) ∧ R (Itt K a) H1
theorem pi_list {l : Expr} {tl : TE} (hl : PE X l tl) : PI X tg l (iList X.K tl) := by
  intro pins s σ H R I h
  refine thn (hl pins s σ H _ I h) fun v s1 ⟨x, H1, I1, r1, q1⟩ => ?_
  obtain ⟨a, e, ⟨xs, hq⟩, q⟩ := q1
  subst e
  cases r1
  obtain ⟨its, rv, p, hz⟩ := I1.list hq
  refine wpAny_pyIter_list p.isList ?_
  refine ⟨s1.heap.objs.size, [s1.heap.objs.size], _, _, H1, rfl, I1.kept (t' := s1.toks) fun b o e => Heap.get?_push_of_some _ e, turn_list a _, ⟨_, Heap.get?_push_size _ rfl, rfl, rfl⟩, fun b hb => ?_, q⟩
  have e : b = s1.heap.objs.size := by simpa using hb
  subst e
  exact I1.fpOk (Nat.le_refl _) (I1.hok.fresh (Nat.le_refl _))
theorem pi_tup {l : Expr} {tl : TE} (hl : PE X l tl) : PI X tg l (iTup X.K tl) := by
  intro pins s σ H R I h
  refine thn (hl pins s σ H _ I h) fun v s1 ⟨x, H1, I1, r1, q1⟩ => ?_
  obtain ⟨a, e, ⟨xs, hq⟩, q⟩ := q1
  subst e
  cases r1
  obtain ⟨its, rv, p, hz⟩ := I1.tuple hq
  refine wpAny_pyIter_tuple (show s1.heap.IsTuple a its.toArray from p) ?_
  refine ⟨s1.heap.objs.size, [s1.heap.objs.size], _, _, H1, rfl, I1.kept (t' := s1.toks) fun b o e => Heap.get?_push_of_some _ e, turn_tuple a _, ⟨_, Heap.get?_push_size _ rfl, rfl, rfl⟩, fun b hb => ?_, q⟩
  have e : b = s1.heap.objs.size := by simpa using hb
  subst e
  exact I1.fpOk (Nat.le_refl _) (I1.hok.fresh (Nat.le_refl _))
/-- a range object just made, walked -/
theorem range_it {pins : List (Addr × Obj)} {σ : St} {H : Hp} {s : Shared} {R : It → Hp → Prop} {E : Value → Shared → Prop} {lo hi : Int} {t u v : Tok} {tk : Nat} (I : Inv X pins σ H s) (h1 : -(2 ^ 62) ≤ lo) (h2 : lo < 2 ^ 62) (h3 : -(2 ^ 62) ≤ hi) (h4 : hi < 2 ^ 62)
    (q : R (Itr lo (hi - lo).toNat) H) : wpAny (model X.prog X.w) X.A (pyIter (.ref s.heap.objs.size)) (PIE X pins σ tg R) E { s with heap := s.heap.push { cls := .type "range", data := .fields #[.int lo t, .int hi u, .int 1 v] }, toks := tk } := by
  refine wpAny_pyIter_range (IsRange.new ..) (small_one h1 h2 h3 h4) ?_
  have I1 : Inv X pins σ H { s with heap := s.heap.push { cls := .type "range", data := .fields #[.int lo t, .int hi u, .int 1 v] }, toks := tk } := I.kept fun b o e => Heap.get?_push_of_some _ e
  refine ⟨(s.heap.push { cls := .type "range", data := .fields #[.int lo t, .int hi u, .int 1 v] }).objs.size, [(s.heap.push { cls := .type "range", data := .fields #[.int lo t, .int hi u, .int 1 v] }).objs.size], _, _, H, rfl,
    I1.kept (t' := tk) fun b o e => Heap.get?_push_of_some _ e, turn_range _ lo (hi - lo).toNat, ?_, fun b hb => ?_, q⟩
  · have e1 : lo + ((0 : Nat) : Int) * 1 = lo := by simp
    have e2 : (((hi - lo).toNat : Nat) : Int) - ((0 : Nat) : Int) = Builtin.Range.rangeSize lo hi 1 := by rw [rangeSize_one]; split <;> omega
    show IsRangeIter _ _ (lo + ((0 : Nat) : Int) * 1) ((((hi - lo).toNat : Nat) : Int) - ((0 : Nat) : Int)) 1
    rw [e1, e2]
    exact Heap.get?_push_size _ rfl
  · have e : b = (s.heap.push { cls := .type "range", data := .fields #[.int lo t, .int hi u, .int 1 v] }).objs.size := by simpa using hb
    subst e
    exact I1.fpOk (Nat.le_refl _) (I1.hok.fresh (Nat.le_refl _))
def iRng1 (ta : TA) : TI := fun σ H R => ta σ H fun vs H1 => ∃ j : Int, vs = [.int j] ∧ -(2 ^ 62) ≤ j ∧ j < 2 ^ 62 ∧ R (Itr 0 j.toNat) H1
def iRng2 (ta : TA) : TI := fun σ H R => ta σ H fun vs H1 => ∃ i j : Int, vs = [.int i, .int j] ∧ (-(2 ^ 62) ≤ i ∧ i < 2 ^ 62 ∧ -(2 ^ 62) ≤ j ∧ j < 2 ^ 62) ∧ R (Itr i (j - i).toNat) H1
theorem pi_range1 {a : Expr} {ta : TA} {p pos : Pos} (hg : Gl X "range") (hm : X.mg "range" = none) (ha : PA X [a] ta) (hs : starEach [a] X.env = [(false, eval a X.env)] := by rfl) : PI X tg (.Call (.Name "range" p) [a] [] pos) (iRng1 ta) := by
  intro pins s σ H R I h
  refine Call_ (ld_blt I hg hm boot_range (PyProof.Rows.callWith_type1 (thn (ha pos pins s σ H _ I h) fun us s1 ⟨vs, H1, I1, r1, q1⟩ => ?_) hs rfl))
  obtain ⟨j, e, q1, q2, q⟩ := q1
  subst e
  cases r1 with
  | cons r rr =>
    cases rr
    obtain ⟨t, rfl⟩ := r
    exact call_range_1 (range_it I1 (by omega) (by omega) q1 q2 (by simpa using q))
theorem pi_range2 {a b : Expr} {ta : TA} {p pos : Pos} (hg : Gl X "range") (hm : X.mg "range" = none) (ha : PA X [a, b] ta) (hs : starEach [a, b] X.env = [(false, eval a X.env), (false, eval b X.env)] := by rfl) (hs2 : starEach [b] X.env = [(false, eval b X.env)] := by rfl) :
    PI X tg (.Call (.Name "range" p) [a, b] [] pos) (iRng2 ta) := by
  intro pins s σ H R I h
  refine Call_ (ld_blt I hg hm boot_range (PyProof.Rows.callWith_type1 (thn (ha pos pins s σ H _ I h) fun us s1 ⟨vs, H1, I1, r1, q1⟩ => ?_) (by rw [hs, hs2]) (by rw [hs2]; rfl)))
  obtain ⟨i, j, e, ⟨q1, q2, q3, q4⟩, q⟩ := q1
  subst e
  cases r1 with
  | cons r rr =>
    cases rr with
    | cons r' rr =>
      cases rr
      obtain ⟨t, rfl⟩ := r
      obtain ⟨t', rfl⟩ := r'
      exact call_range_2 (range_it I1 q1 q2 q3 q4 q)

/-! ### for -/
/-- W: the invariant by the turn and a measure; N: what the body is to reach -/
def tFor (wi : TI) (g : TG) (tb : TS) : TS := fun D σ H => wi σ H fun J H1 => ∃ W : Nat → Nat → St → Hp → Prop, (∃ m, W 0 m σ H1) ∧ ∀ i m σ H, W i m σ H →
  (J.stop i H ∧ D.nx σ H) ∨ (J.go i H ∧ ∃ N : St → Hp → Prop, (∀ σ' H', N σ' H' → ∃ m', m' < m ∧ W (i + 1) m' σ' H') ∧ ∀ x H', J.yld i H x H' → g x σ H' fun σ2 H2 => tb { D with nx := N, ct := N, bk := D.nx } σ2 H2)
/-- the records at fp as they stand -/
def pinsAt (fp : List Addr) (h : Heap) : List (Addr × Obj) := fp.filterMap fun b => (h.get? b).map fun o => (b, o)
theorem mem_pinsAt {fp : List Addr} {h : Heap} {b : Addr} {o : Obj} (hb : b ∈ fp) (e : h.get? b = some o) : (b, o) ∈ pinsAt fp h := List.mem_filterMap.mpr ⟨b, hb, by rw [e]; rfl⟩
theorem of_pinsAt {fp : List Addr} {h : Heap} {p : Addr × Obj} (hp : p ∈ pinsAt fp h) : p.1 ∈ fp ∧ h.get? p.1 = some p.2 := by
  obtain ⟨b, hb, e⟩ := List.mem_filterMap.mp hp
  cases q : h.get? b with
  | none => rw [q] at e; cases e
  | some o =>
    rw [q] at e
    have e' : (b, o) = p := Option.some.inj e
    subst e'
    exact ⟨hb, q⟩
theorem Inv.pinned {pins : List (Addr × Obj)} {σ : St} {H : Hp} {s : Shared} {fp : List Addr} (I : Inv X pins σ H s) (hf : ∀ b ∈ fp, FpOk X pins H b) (ho : ∀ b ∈ fp, ∃ o, s.heap.get? b = some o ∧ ∀ v, o.data ≠ .cell v) : Inv X (pins ++ pinsAt fp s.heap) σ H s :=
  I.pins_of fun p hp => (List.mem_append.mp hp).elim (fun z => I.pin p (List.mem_append_right _ z)) fun z => by
    obtain ⟨hb, e⟩ := of_pinsAt z
    obtain ⟨f0, f1, f2, _⟩ := hf p.1 hb
    obtain ⟨o, e', d⟩ := ho p.1 hb
    rw [e] at e'; cases e'
    exact ⟨e, f0, f1, f2, d⟩
theorem Inv.unpinned {pins pl : List (Addr × Obj)} {σ : St} {H : Hp} {s : Shared} (I : Inv X (pins ++ pl) σ H s) : Inv X pins σ H s := I.pins_of fun p hp => I.pin p (List.mem_append_right _ (List.mem_append_left _ hp))
theorem ps_for {iter : Expr} {body : List Stmt} {wi : TI} {g : TG} {tb : TS} {pos : Pos} (hp : PassesOwn (model X.prog X.w) X.A X.env X.xe) (hc : X.calm = true) (hi : PI X tg iter wi) (hg : PG X tg g) (hb : PSs X body tb)
    (hs : ∀ x, foldedSetIterable iter X.env x = pure x := by intro _; rfl) : PS X (.For tg iter body [] pos) (tFor wi g tb) := by
  intro pins s σ H D I h
  refine wpAny_For (thn (hi pins s σ H _ I h) fun v s1 h1 => thn h1 fun itv s2 h2 => ?_) hs
  obtain ⟨it, fp, tn, J, H2, e, I2, T, st2, f2, W, ⟨m0, w0⟩, turn⟩ := h2
  subst e
  -- what stays true of the iterator's objects through the loop
  have stat : ∀ {H' : Hp}, (∀ b ∈ fp, H' b = none) → ∀ b ∈ fp, FpOk X pins H' b := fun hn b hb => ⟨hn b hb, (f2 b hb).2⟩
  refine codeAny_forLoop_any (fun n s' => ∃ i σ' H', Inv X pins σ' H' s' ∧ tn i s'.heap ∧ (∀ b ∈ fp, H' b = none) ∧ W i n σ' H') ?_ m0 ⟨0, σ, H2, I2, st2, fun b hb => (f2 b hb).1, w0⟩
  rintro n s3 ⟨i, σ3, H3, I3, st3, fr3, w3⟩
  rcases turn i n σ3 H3 w3 with ⟨stop, qn⟩ | ⟨go, N, hN, step⟩
  · refine wpAny_passesOwn hp (thn (T.done X rfl rfl rfl hc i pins s3 σ3 H3 X.xe I3 (stat fr3) st3 stop) fun r s4 ⟨hr, I4⟩ => ?_)
    subst hr
    exact wpAny_execs_nil ⟨σ3, H3, I4, qn⟩
  · refine wpAny_passesOwn hp (thn (T.item X rfl rfl rfl hc i pins s3 σ3 H3 X.xe I3 (stat fr3) st3 go) fun r s4 ⟨u, hr, h4⟩ => ?_)
    subst hr
    refine wpAny_passesOwn hp (thn h4 fun _ s5 ⟨x, H5, I5, r5, y5, st5, fr5⟩ => ?_)
    have I5' := I5.pinned (stat fr5) (T.obj _ _ st5)
    refine wpAny_passesOwn hp (thn (hg _ s5 σ3 H5 x u _ I5' r5 (step x H5 y5)) fun _ s6 ⟨σ6, H6, I6, q6⟩ => ?_)
    refine wpAny_passesOwn hp (thn (hb _ s6 σ6 H6 _ I6 q6) fun f s7 q7 => ?_)
    have again : ∀ {σ7 : St} {H7 : Hp}, Inv X (pins ++ pinsAt fp s5.heap) σ7 H7 s7 → N σ7 H7 → ∃ m, m < n ∧ ∃ i σ' H', Inv X pins σ' H' s7 ∧ tn i s7.heap ∧ (∀ b ∈ fp, H' b = none) ∧ W i m σ' H' := fun {σ7 H7} I7 n7 => by
      obtain ⟨m', hm, w7⟩ := hN σ7 H7 n7
      refine ⟨m', hm, i + 1, σ7, H7, I7.unpinned, T.keep _ _ _ st5 fun b hb o e => (I7.pin (b, o) (List.mem_append_right _ (List.mem_append_right _ (mem_pinsAt hb e)))).1, fun b hb => ?_, w7⟩
      obtain ⟨o, e, d⟩ := T.obj _ _ st5 b hb
      exact (I7.pin (b, o) (List.mem_append_right _ (List.mem_append_right _ (mem_pinsAt hb e)))).2.1
    cases f with
    | next => obtain ⟨σ7, H7, I7, n7⟩ := q7; exact again I7 n7
    | cont => obtain ⟨σ7, H7, I7, n7⟩ := q7; exact again I7 n7
    | brk => obtain ⟨σ7, H7, I7, q7⟩ := q7; exact ⟨σ7, H7, I7.unpinned, q7⟩
    | ret v => obtain ⟨x7, σ7, H7, I7, r7, q7⟩ := q7; exact ⟨x7, σ7, H7, I7.unpinned, r7, q7⟩
end

/-! ### the forms one uses -/
/-- over a list that the body leaves as it is -/
theorem for_list {K : PySem.W.Frag} {a : Addr} {xs : List V} {g : TG} {tb : TS} {D : Ends} {σ : St} {H : Hp} (Pv : Nat → St → Hp → Prop) (h0 : Pv 0 σ H) (hl : ∀ i σ H, i ≤ xs.length → Pv i σ H → SqL K H a xs)
    (hs : ∀ i x σ H, xs[i]? = some x → Pv i σ H → g x σ H fun σ2 H2 => tb { D with nx := Pv (i + 1), ct := Pv (i + 1), bk := D.nx } σ2 H2) (hd : ∀ σ H, Pv xs.length σ H → D.nx σ H) :
    ∃ W : Nat → Nat → St → Hp → Prop, (∃ m, W 0 m σ H) ∧ ∀ i m σ H, W i m σ H →
      ((Itl K a).stop i H ∧ D.nx σ H) ∨ ((Itl K a).go i H ∧ ∃ N : St → Hp → Prop, (∀ σ' H', N σ' H' → ∃ m', m' < m ∧ W (i + 1) m' σ' H') ∧ ∀ x H', (Itl K a).yld i H x H' → g x σ H' fun σ2 H2 => tb { D with nx := N, ct := N, bk := D.nx } σ2 H2) := by
  refine ⟨fun i m σ H => m = xs.length - i ∧ i ≤ xs.length ∧ Pv i σ H, ⟨xs.length, by simp, Nat.zero_le _, h0⟩, ?_⟩
  rintro i m σ H ⟨rfl, hi, p⟩
  have q := hl i σ H hi p
  by_cases hlt : i < xs.length
  · refine .inr ⟨⟨xs, xs[i], q, by simp [hlt]⟩, Pv (i + 1), fun σ' H' p' => ⟨xs.length - (i + 1), by omega, rfl, hlt, p'⟩, fun x H' y => ?_⟩
    obtain ⟨e, y⟩ := y
    subst e
    exact hs i x σ _ (y xs q) p
  · have e : i = xs.length := by omega
    subst e
    exact .inl ⟨⟨xs, q, Nat.le_refl _⟩, hd σ H p⟩
theorem for_tup {K : PySem.W.Frag} {a : Addr} {xs : List V} {g : TG} {tb : TS} {D : Ends} {σ : St} {H : Hp} (Pv : Nat → St → Hp → Prop) (h0 : Pv 0 σ H) (hl : ∀ i σ H, i ≤ xs.length → Pv i σ H → SqT K H a xs)
    (hs : ∀ i x σ H, xs[i]? = some x → Pv i σ H → g x σ H fun σ2 H2 => tb { D with nx := Pv (i + 1), ct := Pv (i + 1), bk := D.nx } σ2 H2) (hd : ∀ σ H, Pv xs.length σ H → D.nx σ H) :
    ∃ W : Nat → Nat → St → Hp → Prop, (∃ m, W 0 m σ H) ∧ ∀ i m σ H, W i m σ H →
      ((Itt K a).stop i H ∧ D.nx σ H) ∨ ((Itt K a).go i H ∧ ∃ N : St → Hp → Prop, (∀ σ' H', N σ' H' → ∃ m', m' < m ∧ W (i + 1) m' σ' H') ∧ ∀ x H', (Itt K a).yld i H x H' → g x σ H' fun σ2 H2 => tb { D with nx := N, ct := N, bk := D.nx } σ2 H2) := by
  refine ⟨fun i m σ H => m = xs.length - i ∧ i ≤ xs.length ∧ Pv i σ H, ⟨xs.length, by simp, Nat.zero_le _, h0⟩, ?_⟩
  rintro i m σ H ⟨rfl, hi, p⟩
  have q := hl i σ H hi p
  by_cases hlt : i < xs.length
  · refine .inr ⟨⟨xs, xs[i], q, by simp [hlt]⟩, Pv (i + 1), fun σ' H' p' => ⟨xs.length - (i + 1), by omega, rfl, hlt, p'⟩, fun x H' y => ?_⟩
    obtain ⟨e, y⟩ := y
    subst e
    exact hs i x σ _ (y xs q) p
  · have e : i = xs.length := by omega
    subst e
    exact .inl ⟨⟨xs, q, Nat.le_refl _⟩, hd σ H p⟩
theorem for_range {lo : Int} {n : Nat} {g : TG} {tb : TS} {D : Ends} {σ : St} {H : Hp} (Pv : Nat → St → Hp → Prop) (h0 : Pv 0 σ H)
    (hs : ∀ i σ H, i < n → Pv i σ H → g (.int (lo + i)) σ H fun σ2 H2 => tb { D with nx := Pv (i + 1), ct := Pv (i + 1), bk := D.nx } σ2 H2) (hd : ∀ σ H, Pv n σ H → D.nx σ H) :
    ∃ W : Nat → Nat → St → Hp → Prop, (∃ m, W 0 m σ H) ∧ ∀ i m σ H, W i m σ H →
      ((Itr lo n).stop i H ∧ D.nx σ H) ∨ ((Itr lo n).go i H ∧ ∃ N : St → Hp → Prop, (∀ σ' H', N σ' H' → ∃ m', m' < m ∧ W (i + 1) m' σ' H') ∧ ∀ x H', (Itr lo n).yld i H x H' → g x σ H' fun σ2 H2 => tb { D with nx := N, ct := N, bk := D.nx } σ2 H2) := by
  refine ⟨fun i m σ H => m = n - i ∧ i ≤ n ∧ Pv i σ H, ⟨n, by simp, Nat.zero_le _, h0⟩, ?_⟩
  rintro i m σ H ⟨rfl, hi, p⟩
  by_cases hlt : i < n
  · refine .inr ⟨hlt, Pv (i + 1), fun σ' H' p' => ⟨n - (i + 1), by omega, rfl, hlt, p'⟩, fun x H' y => ?_⟩
    obtain ⟨e, y⟩ := y
    subst e y
    exact hs i σ _ hlt p
  · have e : i = n := by omega
    subst e
    exact .inl ⟨Nat.le_refl _, hd σ H p⟩
/-- while, by a word and a measure of the state -/
theorem while_by {c : TT} {tb : TS} {D : Ends} {σ : St} {H : Hp} (Pv : St → Hp → Prop) (μ : St → Hp → Nat) (h0 : Pv σ H)
    (hs : ∀ σ H, Pv σ H → c σ H fun b H1 => if b = true then tb { D with nx := fun σ' H' => Pv σ' H' ∧ μ σ' H' < μ σ H, ct := fun σ' H' => Pv σ' H' ∧ μ σ' H' < μ σ H, bk := D.nx } σ H1 else D.nx σ H1)
    (mono : ∀ σ H Q Q', (∀ b H1, Q b H1 → Q' b H1) → c σ H Q → c σ H Q') : tWhile c tb D σ H := by
  refine ⟨fun m σ H => m = μ σ H ∧ Pv σ H, ⟨_, rfl, h0⟩, ?_⟩
  rintro m σ H ⟨rfl, p⟩
  refine mono σ H _ _ (fun b H1 q => ?_) (hs σ H p)
  cases b with
  | true => exact ⟨_, fun σ' H' ⟨p', l⟩ => ⟨_, l, rfl, p'⟩, q⟩
  | false => exact q
end L2

namespace L2
open PySem PySem.Spec PyProof.Rows

abbrev R2 := V → V → Hp → VK → Prop
/-- a two-place operation on values: f is binaryOp op, inplaceOp op or compareOp op -/
def OpR (X : Cx) (f : Value → Value → Sem Value) (r : R2) : Prop :=
  ∀ (pins : List (Addr × Obj)) (s : Shared) (σ : St) (H : Hp) (x y : V) (v u : Value) (Q : VK), Inv X pins σ H s → RelV x v → RelV y u → r x y H Q →
    wpAny (model X.prog X.w) X.A (f v u) (EP X pins σ Q) X.xe s
/-- a one-place operation -/
def UnR (X : Cx) (f : Value → Sem Value) (r : V → Hp → VK → Prop) : Prop :=
  ∀ (pins : List (Addr × Obj)) (s : Shared) (σ : St) (H : Hp) (x : V) (v : Value) (Q : VK), Inv X pins σ H s → RelV x v → r x H Q →
    wpAny (model X.prog X.w) X.A (f v) (EP X pins σ Q) X.xe s
/-- a call of a value that is known (a builtin, a type) with values -/
def CallR (X : Cx) (f : Value) (r : List V → Hp → VK → Prop) : Prop :=
  ∀ (pins : List (Addr × Obj)) (s : Shared) (σ : St) (H : Hp) (xs : List V) (us : List Value) (Q : VK), Inv X pins σ H s → Vals xs us → r xs H Q →
    wpAny (model X.prog X.w) X.A (call f us) (EP X pins σ Q) X.xe s
/-- a value's truth -/
def TruR (X : Cx) (r : V → Hp → (Bool → Hp → Prop) → Prop) : Prop :=
  ∀ (pins : List (Addr × Obj)) (s : Shared) (σ : St) (H : Hp) (x : V) (v : Value) (Q : Bool → Hp → Prop), Inv X pins σ H s → RelV x v → r x H Q →
    wpAny (model X.prog X.w) X.A (truthy v) (TP X pins σ Q) X.xe s

def tOp (r : R2) (ta tb : TE) : TE := fun σ H Q => ta σ H fun x H1 => tb σ H1 fun y H2 => r x y H2 Q
def tUn (r : V → Hp → VK → Prop) (ta : TE) : TE := fun σ H Q => ta σ H fun x H1 => r x H1 Q
/-- ints in, under C, and a value out -/
def rI (C : Int → Int → Prop) (g : Int → Int → V) : R2 := fun x y H Q => ∃ i j, x = .int i ∧ y = .int j ∧ C i j ∧ Q (g i j) H
def rI0 (g : Int → Int → V) : R2 := fun x y H Q => ∃ i j, x = .int i ∧ y = .int j ∧ Q (g i j) H
def rU (g : Int → V) : V → Hp → VK → Prop := fun x H Q => ∃ i, x = .int i ∧ Q (g i) H

section
variable {X : Cx} {a b c : Expr} {ta tb tc : TE} {pos : Pos}

theorem binT (ha : PE X a ta) (hb : PE X b tb) {pins : List (Addr × Obj)} {s : Shared} {σ : St} {H : Hp} {R : V → V → Hp → Prop} (I : Inv X pins σ H s)
    (h : ta σ H fun x H1 => tb σ H1 fun y H2 => R x y H2) {Q : Value → Shared → Prop} {f : Value → Value → Sem Value}
    (hf : ∀ v u s2 x y H2, Inv X pins σ H2 s2 → RelV x v → RelV y u → R x y H2 → wpAny (model X.prog X.w) X.A (f v u) Q X.xe s2) :
    wpAny (model X.prog X.w) X.A (eval a X.env) (fun v s₁ => wpAny (model X.prog X.w) X.A (eval b X.env) (fun u s₂ => wpAny (model X.prog X.w) X.A (f v u) Q X.xe s₂) X.xe s₁) X.xe s := by
  refine thn (ha pins s σ H _ I h) fun v s1 ⟨x, H1, I1, r1, q1⟩ => ?_
  refine thn (hb pins s1 σ H1 _ I1 q1) fun u s2 ⟨y, H2, I2, r2, q2⟩ => ?_
  exact hf v u s2 x y H2 I2 r1 r2 q2

theorem pe_op {op : Operator} {r : R2} (ho : OpR X (binaryOp op) r) (ha : PE X a ta) (hb : PE X b tb) : PE X (.BinOp a op b pos) (tOp r ta tb) := by
  intro pins s σ H Q I h
  exact wpAny_BinOp (binT ha hb I h fun v u s2 x y H2 I2 rx ry q => ho pins s2 σ H2 x y v u Q I2 rx ry q)
theorem pe_un {op : UnaryOp} {r : V → Hp → VK → Prop} (ho : UnR X (unaryOp op) r) (ha : PE X a ta) : PE X (.UnaryOp op a pos) (tUn r ta) := by
  intro pins s σ H Q I h
  exact UnaryOp_ (thn (ha pins s σ H _ I h) fun v s1 ⟨x, H1, I1, r1, q1⟩ => ho pins s1 σ H1 x v Q I1 r1 q1)
/-- a op= e at a name: the name's slot i -/
theorem augR {op : Operator} {r : R2} (ho : OpR X (inplaceOp op) r) {pins : List (Addr × Obj)} {s : Shared} {σ : St} {H : Hp} {x y : V} {v u : Value} {Q : VK} (I : Inv X pins σ H s)
    (rx : RelV x v) (ry : RelV y u) (q : r x y H Q) : wpAny (model X.prog X.w) X.A (inplaceOp op v u) (EP X pins σ Q) X.xe s := ho pins s σ H x y v u Q I rx ry q

/-! ### ints -/
theorem opI {f : Value → Value → Sem Value} {C : Int → Int → Prop} {g : Int → Int → Int}
    (rule : ∀ (i j : Int) (t u : Tok) (s : Shared) (Q : Value → Shared → Prop) (E : Value → Shared → Prop), C i j → Q (.int (g i j) s.toks) { s with toks := s.toks + 1 } → wpAny (model X.prog X.w) X.A (f (.int i t) (.int j u)) Q E s) :
    OpR X f (rI C fun i j => .int (g i j)) := by
  intro pins s σ H x y v u Q I rx ry h
  obtain ⟨i, j, rfl, rfl, hc, q⟩ := h
  obtain ⟨t, rfl⟩ := rx
  obtain ⟨t', rfl⟩ := ry
  exact rule i j t t' s _ _ hc ⟨.int (g i j), H, I.tok _, ⟨_, rfl⟩, q⟩
theorem opI0 {f : Value → Value → Sem Value} {g : Int → Int → Int}
    (rule : ∀ (i j : Int) (t u : Tok) (s : Shared) (Q : Value → Shared → Prop) (E : Value → Shared → Prop), Q (.int (g i j) s.toks) { s with toks := s.toks + 1 } → wpAny (model X.prog X.w) X.A (f (.int i t) (.int j u)) Q E s) :
    OpR X f (rI0 fun i j => .int (g i j)) := by
  intro pins s σ H x y v u Q I rx ry h
  obtain ⟨i, j, rfl, rfl, q⟩ := h
  obtain ⟨t, rfl⟩ := rx
  obtain ⟨t', rfl⟩ := ry
  exact rule i j t t' s _ _ ⟨.int (g i j), H, I.tok _, ⟨_, rfl⟩, q⟩
theorem opB0 {f : Value → Value → Sem Value} {g : Int → Int → Bool}
    (rule : ∀ (i j : Int) (t u : Tok) (s : Shared) (Q : Value → Shared → Prop) (E : Value → Shared → Prop), Q (.bool (g i j)) s → wpAny (model X.prog X.w) X.A (f (.int i t) (.int j u)) Q E s) :
    OpR X f (rI0 fun i j => .bl (g i j)) := by
  intro pins s σ H x y v u Q I rx ry h
  obtain ⟨i, j, rfl, rfl, q⟩ := h
  obtain ⟨t, rfl⟩ := rx
  obtain ⟨t', rfl⟩ := ry
  exact rule i j t t' s _ _ ⟨.bl (g i j), H, I, rfl, q⟩

def CDiv (i j : Int) : Prop := 0 < j ∧ j < 1073741824
def CDivN (i j : Int) : Prop := j ≠ 0 ∧ j.natAbs < 1073741824
def CPow (i j : Int) : Prop := 0 ≤ j ∧ j ≤ 1000000 ∧ i.natAbs < 2 ^ 64
def CMul (i j : Int) : Prop := (-(2 ^ 64) < i ∧ i < 2 ^ 64) ∨ (-(2 ^ 64) < j ∧ j < 2 ^ 64)
theorem CMul.ok {i j : Int} (h : CMul i j) : IntMulOk i j := by
  rcases h with ⟨h1, h2⟩ | ⟨h1, h2⟩
  · exact .of_left (intBits_le_64 h1 h2)
  · exact .of_right (intBits_le_64 h1 h2)
theorem two_pow_nn (k : Nat) : (0 : Int) ≤ 2 ^ k := by
  rw [two_pow_cast]
  exact Int.natCast_nonneg _

theorem op_add : OpR X (binaryOp .Add) (rI0 fun i j => .int (i + j)) := opI0 fun _ _ _ _ _ _ _ q => add_int q
theorem op_sub : OpR X (binaryOp .Sub) (rI0 fun i j => .int (i - j)) := opI0 fun _ _ _ _ _ _ _ q => sub_int q
theorem op_mul : OpR X (binaryOp .Mult) (rI CMul fun i j => .int (i * j)) := opI fun _ _ _ _ _ _ _ hc q => mul_int q hc.ok
/-- // by a positive divisor -/
theorem op_fdiv : OpR X (binaryOp .FloorDiv) (rI CDiv fun i j => .int (i / j)) := opI fun i j _ _ _ _ _ hc q => by
  have h1 : (0 : Int) < j := hc.1
  have h2 : j < 1073741824 := hc.2
  exact floordiv_int (by omega) (by rw [Int.fdiv_eq_ediv_of_nonneg i (by omega)]; exact q) (.inl (PyProof.noPylong_small (by omega)))
theorem op_fdivN : OpR X (binaryOp .FloorDiv) (rI CDivN fun i j => .int (i.fdiv j)) := opI fun _ _ _ _ _ _ _ hc q => floordiv_int hc.1 q (.inl (PyProof.noPylong_small hc.2))
/-- % by a positive divisor of any size -/
theorem op_mod : OpR X (binaryOp .Mod) (rI (fun _ j => 0 < j) fun i j => .int (i % j)) := opI fun i j _ _ _ _ _ hc q => by
  have h1 : (0 : Int) < j := hc
  exact mod_int' (by omega) (by rw [Int.fmod_eq_emod_of_nonneg i (by omega)]; exact q)
theorem op_modN : OpR X (binaryOp .Mod) (rI (fun _ j => j ≠ 0) fun i j => .int (i.fmod j)) := opI fun _ _ _ _ _ _ _ hc q => mod_int' hc q
theorem op_pow : OpR X (binaryOp .Pow) (rI CPow fun i j => .int (i ^ j.toNat)) := opI fun _ _ _ _ _ _ _ hc q => pow_int_small hc.1 hc.2.1 hc.2.2 q
theorem op_shl : OpR X (binaryOp .LShift) (rI CPow fun i j => .int (i * 2 ^ j.toNat)) := opI fun _ _ _ _ _ _ _ hc q => lshift_int_small hc.1 hc.2.1 hc.2.2 q
theorem op_shr : OpR X (binaryOp .RShift) (rI (fun _ j => 0 ≤ j) fun i j => .int (i / 2 ^ j.toNat)) := opI fun i j _ _ _ _ _ hc q =>
  rshift_int hc (by rw [Int.fdiv_eq_ediv_of_nonneg i (two_pow_nn _)]; exact q)
theorem op_and : OpR X (binaryOp .BitAnd) (rI0 fun i j => .int (Builtin.bitAnd i j)) := opI0 fun _ _ _ _ _ _ _ q => and_int q
theorem op_or : OpR X (binaryOp .BitOr) (rI0 fun i j => .int (Builtin.bitOr i j)) := opI0 fun _ _ _ _ _ _ _ q => or_int q
theorem op_xor : OpR X (binaryOp .BitXor) (rI0 fun i j => .int (Builtin.bitXor i j)) := opI0 fun _ _ _ _ _ _ _ q => xor_int q

theorem iop_add : OpR X (inplaceOp .Add) (rI0 fun i j => .int (i + j)) := opI0 fun _ _ _ _ _ _ _ q => iadd_int q
theorem iop_sub : OpR X (inplaceOp .Sub) (rI0 fun i j => .int (i - j)) := opI0 fun _ _ _ _ _ _ _ q => isub_int q
theorem iop_mul : OpR X (inplaceOp .Mult) (rI CMul fun i j => .int (i * j)) := opI fun _ _ _ _ _ _ _ hc q => imul_int q hc.ok
theorem iop_fdiv : OpR X (inplaceOp .FloorDiv) (rI CDiv fun i j => .int (i / j)) := opI fun i j _ _ _ _ _ hc q => by
  have h1 : (0 : Int) < j := hc.1
  have h2 : j < 1073741824 := hc.2
  exact ifloordiv_int (by omega) (by rw [Int.fdiv_eq_ediv_of_nonneg i (by omega)]; exact q) (.inl (PyProof.noPylong_small (by omega)))
theorem iop_mod : OpR X (inplaceOp .Mod) (rI (fun _ j => 0 < j) fun i j => .int (i % j)) := opI fun i j _ _ _ _ _ hc q => by
  have h1 : (0 : Int) < j := hc
  exact imod_int (by omega) (by rw [Int.fmod_eq_emod_of_nonneg i (by omega)]; exact q)
theorem iop_shl : OpR X (inplaceOp .LShift) (rI CPow fun i j => .int (i * 2 ^ j.toNat)) := opI fun _ _ _ _ _ _ _ hc q => ilshift_int_small hc.1 hc.2.1 hc.2.2 q
theorem iop_shr : OpR X (inplaceOp .RShift) (rI (fun _ j => 0 ≤ j) fun i j => .int (i / 2 ^ j.toNat)) := opI fun i j _ _ _ _ _ hc q =>
  irshift_int hc (by rw [Int.fdiv_eq_ediv_of_nonneg i (two_pow_nn _)]; exact q)
theorem iop_and : OpR X (inplaceOp .BitAnd) (rI0 fun i j => .int (Builtin.bitAnd i j)) := opI0 fun _ _ _ _ _ _ _ q => iand_int q
theorem iop_or : OpR X (inplaceOp .BitOr) (rI0 fun i j => .int (Builtin.bitOr i j)) := opI0 fun _ _ _ _ _ _ _ q => ior_int q
theorem iop_xor : OpR X (inplaceOp .BitXor) (rI0 fun i j => .int (Builtin.bitXor i j)) := opI0 fun _ _ _ _ _ _ _ q => ixor_int q

theorem unI {f : Value → Sem Value} {g : Int → Int}
    (rule : ∀ (i : Int) (t : Tok) (s : Shared) (Q : Value → Shared → Prop) (E : Value → Shared → Prop), Q (.int (g i) s.toks) { s with toks := s.toks + 1 } → wpAny (model X.prog X.w) X.A (f (.int i t)) Q E s) :
    UnR X f (rU fun i => .int (g i)) := by
  intro pins s σ H x v Q I rx h
  obtain ⟨i, rfl, q⟩ := h
  obtain ⟨t, rfl⟩ := rx
  exact rule i t s _ _ ⟨.int (g i), H, I.tok _, ⟨_, rfl⟩, q⟩
theorem un_neg : UnR X (unaryOp .USub) (rU fun i => .int (-i)) := unI fun _ _ _ _ _ q => neg_int q
theorem un_inv : UnR X (unaryOp .Invert) (rU fun i => .int (Builtin.bitNot i)) := unI fun _ _ _ _ _ q => invert_int q

/-! ### bools among ints: n += (a < b) -/
theorem op_add_ib : OpR X (binaryOp .Add) (fun x y H Q => ∃ i k, x = .int i ∧ y = .bl k ∧ Q (.int (i + b2i k)) H) := by
  intro pins s σ H x y v u Q I rx ry h
  obtain ⟨i, k, rfl, rfl, q⟩ := h
  obtain ⟨t, rfl⟩ := rx
  cases ry
  exact add_int_bool ⟨.int (i + b2i k), H, I.tok _, ⟨_, rfl⟩, q⟩
end

/-! ### comparisons -/
/-- the scalars that == tells apart as data does -/
def scal : V → V → Bool
  | .non, .non => true | .non, .int _ => true | .int _, .non => true | .non, .bl _ => true | .bl _, .non => true | .non, .str _ => true | .str _, .non => true
  | .int _, .int _ => true | .bl _, .bl _ => true | .str _, .str _ => true | .byt _, .byt _ => true
  | .int _, .str _ => true | .str _, .int _ => true | .bl _, .str _ => true | .str _, .bl _ => true
  | _, _ => false
def rEq : R2 := fun x y H Q => scal x y = true ∧ Q (.bl (decide (x = y))) H
def rNe : R2 := fun x y H Q => scal x y = true ∧ Q (.bl (!decide (x = y))) H

theorem dec_int {i j : Int} : decide (V.int i = V.int j) = (i == j) := by
  rw [Bool.eq_iff_iff]
  simp
theorem dec_bl {i j : Bool} : decide (V.bl i = V.bl j) = (i == j) := by
  rw [Bool.eq_iff_iff]
  simp
theorem dec_str {i j : Str} : decide (V.str i = V.str j) = (i == j) := by
  rw [Bool.eq_iff_iff]
  simp
theorem dec_byt {i j : Array UInt8} : decide (V.byt i = V.byt j) = (i.toList == j.toList) := by
  rw [Bool.eq_iff_iff]
  cases i
  cases j
  simp

section
variable {X : Cx} {a b c : Expr} {ta tb tc : TE} {pos : Pos}
theorem fin_bl {pins : List (Addr × Obj)} {σ : St} {H : Hp} {s : Shared} {Q : VK} {k k' : Bool} (I : Inv X pins σ H s) (q : Q (.bl k) H) (e : k = k') : EP X pins σ Q (.bool k') s := by
  subst e
  exact ⟨.bl k, H, I, rfl, q⟩
theorem op_eq : OpR X (compareOp .Eq) rEq := by
  intro pins s σ H x y v u Q I rx ry h
  obtain ⟨hs, q⟩ := h
  cases x with
  | non =>
    cases rx
    cases y with
    | non => cases ry; exact PySem.EqNone.eq_none_none (fin_bl I q (by simp))
    | bl j => cases ry; exact PySem.EqNone.eq_none_bool (fin_bl I q (by simp))
    | int j => obtain ⟨t', rfl⟩ := ry; exact PySem.EqNone.eq_none_int (fin_bl I q (by simp))
    | str j => obtain ⟨t', rfl⟩ := ry; exact PySem.EqNone.eq_none_str (fin_bl I q (by simp))
    | _ => exact absurd (show false = true from hs) Bool.false_ne_true
  | bl i =>
    cases rx
    cases y with
    | non => cases ry; exact PySem.EqNone.eq_bool_none (fin_bl I q (by simp))
    | bl j => cases ry; exact eq_bool (fin_bl I q dec_bl)
    | str j => obtain ⟨t', rfl⟩ := ry; exact PySem.EqMixed.eq_bool_str (fin_bl I q (by simp))
    | _ => exact absurd (show false = true from hs) Bool.false_ne_true
  | int i =>
    obtain ⟨t, rfl⟩ := rx
    cases y with
    | non => cases ry; exact PySem.EqNone.eq_int_none (fin_bl I q (by simp))
    | int j => obtain ⟨t', rfl⟩ := ry; exact eq_int (fin_bl I q dec_int)
    | str j => obtain ⟨t', rfl⟩ := ry; exact PySem.EqMixed.eq_int_str (fin_bl I q (by simp))
    | _ => exact absurd (show false = true from hs) Bool.false_ne_true
  | str i =>
    obtain ⟨t, rfl⟩ := rx
    cases y with
    | non => cases ry; exact PySem.EqNone.eq_str_none (fin_bl I q (by simp))
    | bl j => cases ry; exact PySem.EqMixed.eq_str_bool (fin_bl I q (by simp))
    | int j => obtain ⟨t', rfl⟩ := ry; exact PySem.EqMixed.eq_str_int (fin_bl I q (by simp))
    | str j => obtain ⟨t', rfl⟩ := ry; exact eq_str (fin_bl I q dec_str)
    | _ => exact absurd (show false = true from hs) Bool.false_ne_true
  | byt i =>
    obtain ⟨t, rfl⟩ := rx
    cases y with
    | byt j => obtain ⟨t', rfl⟩ := ry; exact PySem.W.eq_bytes (fin_bl I q dec_byt)
    | _ => exact absurd (show false = true from hs) Bool.false_ne_true
  | _ => cases y <;> exact absurd (show false = true from hs) Bool.false_ne_true
theorem op_ne : OpR X (compareOp .NotEq) rNe := by
  intro pins s σ H x y v u Q I rx ry h
  obtain ⟨hs, q⟩ := h
  cases x with
  | non =>
    cases rx
    cases y with
    | non => cases ry; exact PySem.EqNone.ne_none_none (fin_bl I q (by simp))
    | bl j => cases ry; exact PySem.EqNone.ne_none_bool (fin_bl I q (by simp))
    | int j => obtain ⟨t', rfl⟩ := ry; exact PySem.EqNone.ne_none_int (fin_bl I q (by simp))
    | str j => obtain ⟨t', rfl⟩ := ry; exact PySem.EqNone.ne_none_str (fin_bl I q (by simp))
    | _ => exact absurd (show false = true from hs) Bool.false_ne_true
  | bl i =>
    cases rx
    cases y with
    | non => cases ry; exact PySem.EqNone.ne_bool_none (fin_bl I q (by simp))
    | bl j => cases ry; exact ne_bool (fin_bl I q (congrArg not dec_bl))
    | str j => obtain ⟨t', rfl⟩ := ry; exact PySem.EqMixed.ne_bool_str (fin_bl I q (by simp))
    | _ => exact absurd (show false = true from hs) Bool.false_ne_true
  | int i =>
    obtain ⟨t, rfl⟩ := rx
    cases y with
    | non => cases ry; exact PySem.EqNone.ne_int_none (fin_bl I q (by simp))
    | int j => obtain ⟨t', rfl⟩ := ry; exact ne_int (fin_bl I q (congrArg not dec_int))
    | str j => obtain ⟨t', rfl⟩ := ry; exact PySem.EqMixed.ne_int_str (fin_bl I q (by simp))
    | _ => exact absurd (show false = true from hs) Bool.false_ne_true
  | str i =>
    obtain ⟨t, rfl⟩ := rx
    cases y with
    | non => cases ry; exact PySem.EqNone.ne_str_none (fin_bl I q (by simp))
    | bl j => cases ry; exact PySem.EqMixed.ne_str_bool (fin_bl I q (by simp))
    | int j => obtain ⟨t', rfl⟩ := ry; exact PySem.EqMixed.ne_str_int (fin_bl I q (by simp))
    | str j => obtain ⟨t', rfl⟩ := ry; exact ne_str (fin_bl I q (congrArg not dec_str))
    | _ => exact absurd (show false = true from hs) Bool.false_ne_true
  | byt i =>
    obtain ⟨t, rfl⟩ := rx
    cases y with
    | byt j => obtain ⟨t', rfl⟩ := ry; exact PySem.W.ne_bytes (fin_bl I q (congrArg not dec_byt))
    | _ => exact absurd (show false = true from hs) Bool.false_ne_true
  | _ => cases y <;> exact absurd (show false = true from hs) Bool.false_ne_true

theorem op_lt : OpR X (compareOp .Lt) (rI0 fun i j => .bl (decide (i < j))) := opB0 fun _ _ _ _ _ _ _ q => lt_int q
theorem op_le : OpR X (compareOp .LtE) (rI0 fun i j => .bl (decide (i ≤ j))) := opB0 fun _ _ _ _ _ _ _ q => le_int q
theorem op_gt : OpR X (compareOp .Gt) (rI0 fun i j => .bl (decide (j < i))) := opB0 fun _ _ _ _ _ _ _ q => gt_int q
theorem op_ge : OpR X (compareOp .GtE) (rI0 fun i j => .bl (decide (j ≤ i))) := opB0 fun _ _ _ _ _ _ _ q => ge_int q
theorem op_lt_str : OpR X (compareOp .Lt) (fun x y H Q => ∃ i j, x = .str i ∧ y = .str j ∧ Q (.bl (decide (i.cps.toList < j.cps.toList))) H) := by
  intro pins s σ H x y v u Q I rx ry h
  obtain ⟨i, j, rfl, rfl, q⟩ := h
  obtain ⟨t, rfl⟩ := rx
  obtain ⟨t', rfl⟩ := ry
  exact lt_str (fin_bl I q rfl)
/-- the one string within the other -/
theorem op_in_str : OpR X (compareOp .In) (fun x y H Q => ∃ i j, x = .str i ∧ y = .str j ∧ Q (.bl (!(Builtin.Str.occurrences j i 0 j.length 1).isEmpty)) H) := by
  intro pins s σ H x y v u Q I rx ry h
  obtain ⟨i, j, rfl, rfl, q⟩ := h
  obtain ⟨t, rfl⟩ := rx
  obtain ⟨t', rfl⟩ := ry
  exact in_str (fin_bl I q rfl)

/-- is None, is not None: the right side a value none -/
theorem op_isN : OpR X (compareOp .Is) (fun x y H Q => y = .non ∧ Q (.bl (decide (x = .non))) H) := by
  intro pins s σ H x y v u Q I rx ry h
  obtain ⟨rfl, q⟩ := h
  cases ry
  refine is_none_gen (fin_bl I q ?_)
  cases x <;> first
    | (cases rx; rfl)
    | (obtain ⟨t, rfl⟩ := rx; rfl)
theorem op_notN : OpR X (compareOp .IsNot) (fun x y H Q => y = .non ∧ Q (.bl (!decide (x = .non))) H) := by
  intro pins s σ H x y v u Q I rx ry h
  obtain ⟨rfl, q⟩ := h
  cases ry
  refine isnot_none_gen (fin_bl I q ?_)
  cases x <;> first
    | (cases rx; rfl)
    | (obtain ⟨t, rfl⟩ := rx; rfl)

theorem op_notin_str : OpR X (compareOp .NotIn) (fun x y H Q => ∃ i j, x = .str i ∧ y = .str j ∧ Q (.bl (!(!(Builtin.Str.occurrences j i 0 j.length 1).isEmpty))) H) := by
  intro pins s σ H x y v u Q I rx ry h
  obtain ⟨i, j, rfl, rfl, q⟩ := h
  obtain ⟨t, rfl⟩ := rx
  obtain ⟨t', rfl⟩ := ry
  exact notIn_str (fin_bl I q rfl)
/-- is, is not of two objects that are tracked lists or instances -/
def isObj : HO → Bool
  | .lst _ => true
  | .ins _ _ _ => true
  | _ => false
theorem obj_there {pins : List (Addr × Obj)} {s : Shared} {σ : St} {H : Hp} {a : Addr} {o : HO} (I : Inv X pins σ H s) (h : H a = some o) (p : isObj o = true) : ∃ ob, s.heap.get? a = some ob ∧ ob.cls ≠ .type "tuple" := by
  cases o with
  | lst xs =>
    obtain ⟨_, its, n, _, e⟩ : xs.length ≤ sizeLine ∧ ∃ (its : List Value) (n : Nat), Vals xs its ∧ s.heap.get? a = some { cls := .type "list", data := .seq its.toArray n } := I.hok a _ h
    exact ⟨_, e, (by show Value.type "list" ≠ .type "tuple"; decide +kernel)⟩
  | ins C dx fs =>
    have x := I.hok a _ h
    obtain ⟨_, _, _, e, _⟩ := x
    exact ⟨_, e, (by show Value.ref C ≠ .type "tuple"; exact fun z => by cases z)⟩
  | _ => exact absurd (show false = true from p) Bool.false_ne_true
theorem op_is_ref : OpR X (compareOp .Is) (fun x y H Q => ∃ a b oa ob, x = .ref a ∧ y = .ref b ∧ H a = some oa ∧ isObj oa = true ∧ H b = some ob ∧ isObj ob = true ∧ Q (.bl (decide (a = b))) H) := by
  intro pins s σ H x y v u Q I rx ry h
  obtain ⟨a, b, oa, ob, rfl, rfl, ha, pa, hb, pb, q⟩ := h
  cases rx
  cases ry
  obtain ⟨o1, e1, n1⟩ := obj_there I ha pa
  obtain ⟨o2, e2, _⟩ := obj_there I hb pb
  by_cases z : a = b
  · subst z
    exact wpAny_is_ref_self (fin_bl I q (by simp))
  · exact wpAny_is_ref_other z e1 e2 n1 (fin_bl I q (by simp [z]))
theorem op_isnot_ref : OpR X (compareOp .IsNot) (fun x y H Q => ∃ a b oa ob, x = .ref a ∧ y = .ref b ∧ H a = some oa ∧ isObj oa = true ∧ H b = some ob ∧ isObj ob = true ∧ Q (.bl (!decide (a = b))) H) := by
  intro pins s σ H x y v u Q I rx ry h
  obtain ⟨a, b, oa, ob, rfl, rfl, ha, pa, hb, pb, q⟩ := h
  cases rx
  cases ry
  obtain ⟨o1, e1, n1⟩ := obj_there I ha pa
  obtain ⟨o2, e2, _⟩ := obj_there I hb pb
  by_cases z : a = b
  · subst z
    exact wpAny_isNot_ref_self (fin_bl I q (by simp))
  · exact wpAny_isNot_ref_other z e1 e2 n1 (fin_bl I q (by simp [z]))

/-- two rules for one operation: by cases -/
theorem OpR.or {f : Value → Value → Sem Value} {r r' : R2} (h : OpR X f r) (h' : OpR X f r') : OpR X f (fun x y H Q => r x y H Q ∨ r' x y H Q) := by
  intro pins s σ H x y v u Q I rx ry q
  rcases q with q | q
  · exact h pins s σ H x y v u Q I rx ry q
  · exact h' pins s σ H x y v u Q I rx ry q

theorem nomark (b : Expr) {op : CmpOp} (h : op ≠ .In := by decide) (h2 : op ≠ .NotIn := by decide) : behindInMarks op b = false := by
  have e1 : (op == CmpOp.In) = false := by cases op <;> first | rfl | exact absurd rfl h
  have e2 : (op == CmpOp.NotIn) = false := by cases op <;> first | rfl | exact absurd rfl h2
  cases b <;> simp [behindInMarks, e1, e2]
/-- a comparison as a value; hm: nomark b, or (for in, not in) by with_unfolding_all rfl -/
theorem pe_cmpR {op : CmpOp} {r : R2} (ho : OpR X (compareOp op) r) (ha : PE X a ta) (hb : PE X b tb) (hm : behindInMarks op b = false) : PE X (.Compare a [op] [b] pos) (tOp r ta tb) := by
  intro pins s σ H Q I h
  exact wpAny_Compare1 (binT ha hb I h fun v u s2 x y H2 I2 rx ry q => ho pins s2 σ H2 x y v u Q I2 rx ry q) hm
/-- a reading of a value as a test -/
def tTest (t : TE) : TT := fun σ H Q => t σ H fun x H' => ∃ k, x = .bl k ∧ Q k H'
theorem pt_cmpR {op : CmpOp} {r : R2} (ho : OpR X (compareOp op) r) (ha : PE X a ta) (hb : PE X b tb) (hm : behindInMarks op b = false) : PT X (.Compare a [op] [b] pos) (tTest (tOp r ta tb)) := by
  intro pins s σ H Q I h
  refine wpAny_isTrue_Compare1 (thn (ha pins s σ H _ I h) fun v s1 ⟨x, H1, I1, r1, q1⟩ => thn (hb pins s1 σ H1 _ I1 q1) fun u s2 ⟨y, H2, I2, r2, q2⟩ =>
    thn (ho pins s2 σ H2 x y v u _ I2 r1 r2 q2) fun c s3 ⟨z, H3, I3, r3, k, e, q3⟩ => ?_) hm
  subst e
  cases r3
  exact wpAny_truthy_bool ⟨H3, I3, q3⟩
/-- a op1 b op2 c -/
def tChain (r r' : R2) (ta tb tc : TE) : TE := fun σ H Q => ta σ H fun x H1 => tb σ H1 fun y H2 => r x y H2 fun z H3 => ∃ k, z = .bl k ∧
  (if k = true then tc σ H3 fun w' H4 => r' y w' H4 Q else Q (.bl false) H3)
theorem pe_chain {op op' : CmpOp} {r r' : R2} (ho : OpR X (compareOp op) r) (ho' : OpR X (compareOp op') r') (ha : PE X a ta) (hb : PE X b tb) (hc : PE X c tc)
    (hm : lastMarks [op, op'] [b, c] = false := by with_unfolding_all rfl) : PE X (.Compare a [op, op'] [b, c] pos) (tChain r r' ta tb tc) := by
  intro pins s σ H Q I h
  refine Compare_chain (thn (ha pins s σ H _ I h) fun v s1 ⟨x, H1, I1, r1, q1⟩ => chain_link (thn (hb pins s1 σ H1 _ I1 q1) fun u s2 ⟨y, H2, I2, r2, q2⟩ =>
    thn (ho pins s2 σ H2 x y v u _ I2 r1 r2 q2) fun d s3 ⟨z, H3, I3, r3, k, e, q3⟩ => ?_)) hm
  subst e
  cases r3
  refine wpAny_truthy_bool ?_
  cases k with
  | false => exact ite_ff ⟨.bl false, H3, I3, rfl, q3⟩
  | true => exact ite_tt (chain_last (thn (hc pins s3 σ H3 _ I3 q3) fun w' s4 ⟨z', H4, I4, r4, q4⟩ => ho' pins s4 σ H4 y z' u w' Q I4 r2 r4 q4))
theorem pt_chain {op op' : CmpOp} {r r' : R2} (ho : OpR X (compareOp op) r) (ho' : OpR X (compareOp op') r') (ha : PE X a ta) (hb : PE X b tb) (hc : PE X c tc)
    (hm : lastMarks [op, op'] [b, c] = false := by with_unfolding_all rfl) : PT X (.Compare a [op, op'] [b, c] pos) (tTest (tChain r r' ta tb tc)) := by
  intro pins s σ H Q I h
  refine isTrue_chain (thn (ha pins s σ H _ I h) fun v s1 ⟨x, H1, I1, r1, q1⟩ => test_link (thn (hb pins s1 σ H1 _ I1 q1) fun u s2 ⟨y, H2, I2, r2, q2⟩ =>
    thn (ho pins s2 σ H2 x y v u _ I2 r1 r2 q2) fun d s3 ⟨z, H3, I3, r3, k, e, q3⟩ => ?_)) hm
  subst e
  cases r3
  refine wpAny_truthy_bool ?_
  cases k with
  | false =>
    obtain ⟨k', e', q'⟩ := q3
    cases e'
    exact ite_ff ⟨H3, I3, q'⟩
  | true =>
    refine ite_tt (test_last (thn (hc pins s3 σ H3 _ I3 q3) fun w' s4 ⟨z', H4, I4, r4, q4⟩ => thn (ho' pins s4 σ H4 y z' u w' _ I4 r2 r4 q4) fun d' s5 ⟨z2, H5, I5, r5, k2, e2, q5⟩ => ?_))
    subst e2
    cases r5
    exact wpAny_truthy_bool ⟨H5, I5, q5⟩

/-! ### truth -/
/-- a value's truth by the abstract heap -/
def TruV (K : PySem.W.Frag) (x : V) (H : Hp) (k : Bool) : Prop :=
  match x with
  | .non => k = false
  | .bl b => k = b
  | .int i => k = (i != 0)
  | .str y => y.length ≤ sizeLine ∧ k = ((y.length : Int) != 0)
  | .byt y => y.size ≤ sizeLine ∧ k = ((y.size : Int) != 0)
  | .ref p => (∃ xs, SqL K H p xs ∧ k = !xs.isEmpty) ∨ (∃ xs, SqT K H p xs ∧ k = !xs.isEmpty) ∨ ∃ kvs, H p = some (.dK kvs) ∧ k = !kvs.isEmpty
  | _ => False
theorem isEmpty_kv {κ : Type} {kvs : List (κ × V)} {vs : List (κ × Value)} (r : KV kvs vs) : (!vs.isEmpty) = !kvs.isEmpty := by
  cases r <;> rfl
theorem isEmpty_of {xs : List V} {its : List Value} (r : Vals xs its) : (!its.toArray.isEmpty) = !xs.isEmpty := by
  cases r <;> simp
theorem line63 : (sizeLine : Nat) < 2 ^ 63 := by rw [sizeLine_eq]; decide
theorem tru_ok : TruR X (fun x H Q => ∃ k, TruV X.K x H k ∧ Q k H) := by
  intro pins s σ H x v Q I rx h
  obtain ⟨k, e, q⟩ := h
  have hl := line63
  have hs : sizeLine = 16777216 := sizeLine_eq
  cases x with
  | non =>
    cases rx
    have e' : k = false := e
    subst e'
    exact truthy_none ⟨H, I, q⟩
  | bl b =>
    cases rx
    have e' : k = b := e
    subst e'
    exact wpAny_truthy_bool ⟨H, I, q⟩
  | int i =>
    obtain ⟨t, rfl⟩ := rx
    have e' : k = (i != 0) := e
    subst e'
    exact PySem.P.truthy_int ⟨H, I, q⟩
  | str y =>
    obtain ⟨t, rfl⟩ := rx
    obtain ⟨hy, e'⟩ : y.length ≤ sizeLine ∧ k = ((y.length : Int) != 0) := e
    subst e'
    exact PySem.P.truthy_str (by omega) ⟨H, I.tok _, q⟩
  | byt y =>
    obtain ⟨t, rfl⟩ := rx
    obtain ⟨hy, e'⟩ : y.size ≤ sizeLine ∧ k = ((y.size : Int) != 0) := e
    subst e'
    exact PySem.W.truthy_bytes (by omega) ⟨H, I.tok _, q⟩
  | ref p =>
    cases rx
    have e' : (∃ xs, SqL X.K H p xs ∧ k = !xs.isEmpty) ∨ (∃ xs, SqT X.K H p xs ∧ k = !xs.isEmpty) ∨ ∃ kvs, H p = some (.dK kvs) ∧ k = !kvs.isEmpty := e
    rcases e' with ⟨xs, hx, e'⟩ | ⟨xs, hx, e'⟩ | ⟨kvs, hx, e'⟩
    · subst e'
      obtain ⟨its, r, pl, hz⟩ := I.list hx
      have hlen := r.length
      exact wpAny_truthy_list pl.isList (by simp only [List.size_toArray]; omega) ⟨H, I.tok _, by rw [isEmpty_of r]; exact q⟩
    · subst e'
      obtain ⟨its, r, pl, hz⟩ := I.tuple hx
      have hlen := r.length
      exact truthy_tuple pl (by simp only [List.size_toArray]; omega) ⟨H, I.tok _, by rw [isEmpty_of r]; exact q⟩
    · subst e'
      obtain ⟨hz, hS, vs, r, m⟩ : kvs.length ≤ sizeLine ∧ (p == sysModules) = false ∧ ∃ vs, KV kvs vs ∧ s.heap.DictOf (mixKind X.prog X.w) p vs := I.hok p _ hx
      have hlen : kvs.length = vs.length := Paired.length r
      exact wpAny_truthy_dict hS m (by omega) ⟨H, I.tok _, by rw [isEmpty_kv r]; exact q⟩
  | _ => exact (show False from e).elim
/-- any expression whose test is its value's truth (a name, a call, a subscript, a field ..: he by fun _ => rfl) -/
theorem pt_truth (ha : PE X a ta) (he : ∀ whole, isTrue a X.env whole = (do let v ← whole; standAt a.pos; holding [v] (truthy v))) :
    PT X a (fun σ H Q => ta σ H fun x H' => ∃ k, TruV X.K x H' k ∧ Q k H') := by
  intro pins s σ H Q I h
  exact isTrue_plain (thn (ha pins s σ H _ I h) fun v s1 ⟨x, H1, I1, r1, q1⟩ => tru_ok pins s1 σ H1 x v Q I1 r1 q1) (he _)

/-! ### strs and bytes -/
theorem pe_byt {x : List UInt8} {k : Nat} : PE X (.Constant (.bytes x) k pos) (fun _ H Q => Q (.byt x.toArray) H) := fun _ _ _ H _ I h => PySem.W.Constant_bytes ⟨.byt x.toArray, H, I.tok _, ⟨_, rfl⟩, h⟩
theorem op_add_str : OpR X (binaryOp .Add) (fun x y H Q => ∃ i j, x = .str i ∧ y = .str j ∧ i.length + j.length ≤ sizeLine ∧ Q (.str (i ++ j)) H) := by
  intro pins s σ H x y v u Q I rx ry h
  obtain ⟨i, j, rfl, rfl, hz, q⟩ := h
  obtain ⟨t, rfl⟩ := rx
  obtain ⟨t', rfl⟩ := ry
  exact add_str (fun t' tk => ⟨.str (i ++ j), H, I.tok _, ⟨_, rfl⟩, q⟩) hz
theorem iop_add_str : OpR X (inplaceOp .Add) (fun x y H Q => ∃ i j, x = .str i ∧ y = .str j ∧ i.length + j.length ≤ sizeLine ∧ Q (.str (i ++ j)) H) := by
  intro pins s σ H x y v u Q I rx ry h
  obtain ⟨i, j, rfl, rfl, hz, q⟩ := h
  obtain ⟨t, rfl⟩ := rx
  obtain ⟨t', rfl⟩ := ry
  exact iadd_str (fun t' tk => ⟨.str (i ++ j), H, I.tok _, ⟨_, rfl⟩, q⟩) hz
theorem op_add_byt : OpR X (binaryOp .Add) (fun x y H Q => ∃ i j, x = .byt i ∧ y = .byt j ∧ i.size + j.size ≤ 16777216 ∧ Q (.byt (i ++ j)) H) := by
  intro pins s σ H x y v u Q I rx ry h
  obtain ⟨i, j, rfl, rfl, hz, q⟩ := h
  obtain ⟨t, rfl⟩ := rx
  obtain ⟨t', rfl⟩ := ry
  exact PySem.W.KBy.add_bytes hz (fun t' tk => ⟨.byt (i ++ j), H, I.tok _, ⟨_, rfl⟩, q⟩)

def PlainIxT (b : Expr) : Prop := ∀ o i, subscripted b false o i = operate [o, i] (getItem o i)
/-- s[i], 0 ≤ i < len -/
theorem pe_item_str (ha : PE X a ta) (hb : PE X b tb) (hs : PlainIxT b) :
    PE X (.Subscript a b pos) (tOp (fun x y H Q => ∃ z i c, x = .str z ∧ y = .int i ∧ 0 ≤ i ∧ i < 2 ^ 63 ∧ i < z.length ∧ z.cps[i.toNat]? = some c ∧ Q (.str ⟨#[c]⟩) H) ta tb) := by
  intro pins s σ H Q I h
  refine Subscript_ (binT ha hb I h fun v u s2 x y H2 I2 rx ry q => ?_)
  obtain ⟨z, i, c, rfl, rfl, h0, h63, h1, hc, q⟩ := q
  obtain ⟨t, rfl⟩ := rx
  obtain ⟨t', rfl⟩ := ry
  have e : seqIndex? i z.length = some i.toNat := PySem.StrLaws.seqIndex_nonneg h0 h1
  exact tail_any (typeIs_str s2 z t) slot_str_getitem.lookup (getItem_str (c := c) (by
    have e1 : decide (i < -(2 ^ 63 : Int)) = false := decide_eq_false (by omega)
    have e2 : decide (i ≥ 2 ^ 63) = false := decide_eq_false (by omega)
    rw [e1, e2] <;> rfl) (by rw [e]; exact hc) ⟨.str ⟨#[c]⟩, H2, I2.tok _, ⟨_, rfl⟩, q⟩) (hs _ _)
/-- b[i], 0 ≤ i < len -/
theorem pe_item_byt (ha : PE X a ta) (hb : PE X b tb) (hs : PlainIxT b) :
    PE X (.Subscript a b pos) (tOp (fun x y H Q => ∃ (z : List UInt8) (i : Int), x = .byt z.toArray ∧ y = .int i ∧ z.length ≤ sizeLine ∧ 0 ≤ i ∧ i < z.length ∧ Q (.int ((z.getD i.toNat 0).toNat : Nat)) H) ta tb) := by
  intro pins s σ H Q I h
  refine Subscript_ (binT ha hb I h fun v u s2 x y H2 I2 rx ry q => ?_)
  obtain ⟨z, i, rfl, rfl, hz, h0, h1, q⟩ := q
  obtain ⟨t, rfl⟩ := rx
  obtain ⟨t', rfl⟩ := ry
  have hl : sizeLine = 16777216 := sizeLine_eq
  exact tail_any (PySem.W.typeIs_bytes s2 z.toArray t) PySem.W.FB.slot_bytes_getitem.lookup (PySem.W.getItem_bytes (by omega) h0 h1 ⟨.int ((z.getD i.toNat 0).toNat : Nat), H2, I2.tok _, ⟨_, rfl⟩, q⟩) (hs _ _)

/-! ### scalar builtins, by CallR -/
theorem vals1 {x : V} {us : List Value} (r : Vals [x] us) : ∃ u, us = [u] ∧ RelV x u := by
  cases r with
  | cons r1 r2 => cases r2; exact ⟨_, rfl, r1⟩
theorem vals2 {x y : V} {us : List Value} (r : Vals [x, y] us) : ∃ u w', us = [u, w'] ∧ RelV x u ∧ RelV y w' := by
  cases r with
  | cons r1 r2 =>
    cases r2 with
    | cons r3 r4 => cases r4; exact ⟨_, _, rfl, r1, r3⟩
theorem call_abs : CallR X (.builtin "abs") (fun xs H Q => ∃ i, xs = [.int i] ∧ Q (.int (if i < 0 then -i else i)) H) := by
  intro pins s σ H xs us Q I r h
  obtain ⟨i, rfl, q⟩ := h
  obtain ⟨u, rfl, t, rfl⟩ := vals1 r
  exact call_abs_int fun u tk => ⟨.int (if i < 0 then -i else i), H, I.tok _, ⟨_, rfl⟩, q⟩
theorem call_max2 (hc : X.calm = true) : CallR X (.builtin "max") (fun xs H Q => ∃ i j, xs = [.int i, .int j] ∧ Q (.int (if j > i then j else i)) H) := by
  intro pins s σ H xs us Q I r h
  obtain ⟨i, j, rfl, q⟩ := h
  obtain ⟨u, w', rfl, ⟨t, rfl⟩, ⟨t', rfl⟩⟩ := vals2 r
  refine max_two_ints (I.ok.hd hc) fun h' tk k => ⟨_, H, I.kept k, ?_, q⟩
  by_cases hj : j > i
  · rw [if_pos hj, if_pos hj]; exact ⟨_, rfl⟩
  · rw [if_neg hj, if_neg hj]; exact ⟨_, rfl⟩
theorem call_min2 (hc : X.calm = true) : CallR X (.builtin "min") (fun xs H Q => ∃ i j, xs = [.int i, .int j] ∧ Q (.int (if j < i then j else i)) H) := by
  intro pins s σ H xs us Q I r h
  obtain ⟨i, j, rfl, q⟩ := h
  obtain ⟨u, w', rfl, ⟨t, rfl⟩, ⟨t', rfl⟩⟩ := vals2 r
  refine min_two_ints (I.ok.hd hc) fun h' tk k => ⟨_, H, I.kept k, ?_, q⟩
  by_cases hj : j < i
  · rw [if_pos hj, if_pos hj]; exact ⟨_, rfl⟩
  · rw [if_neg hj, if_neg hj]; exact ⟨_, rfl⟩
theorem call_int1 : CallR X (.type "int") (fun xs H Q => (∃ i, xs = [.int i] ∧ Q (.int i) H) ∨ ∃ k, xs = [.bl k] ∧ Q (.int (if k then 1 else 0)) H) := by
  intro pins s σ H xs us Q I r h
  rcases h with ⟨i, rfl, q⟩ | ⟨k, rfl, q⟩
  · obtain ⟨u, rfl, t, rfl⟩ := vals1 r
    exact call_int_int ⟨.int i, H, I, ⟨_, rfl⟩, q⟩
  · obtain ⟨u, rfl, r1⟩ := vals1 r
    cases r1
    exact call_int_bool ⟨.int (if k then 1 else 0), H, I.tok _, ⟨_, rfl⟩, q⟩
theorem call_bool1 : CallR X (.type "bool") (fun xs H Q => (∃ i, xs = [.int i] ∧ Q (.bl (i != 0)) H) ∨ ∃ k, xs = [.bl k] ∧ Q (.bl k) H) := by
  intro pins s σ H xs us Q I r h
  rcases h with ⟨i, rfl, q⟩ | ⟨k, rfl, q⟩
  · obtain ⟨u, rfl, t, rfl⟩ := vals1 r
    exact call_bool_int ⟨.bl (i != 0), H, I, rfl, q⟩
  · obtain ⟨u, rfl, r1⟩ := vals1 r
    cases r1
    exact call_bool_bool ⟨.bl k, H, I, rfl, q⟩
theorem call_str_int : CallR X (.type "str") (fun xs H Q => ∃ i, xs = [.int i] ∧ i.natAbs.log2 < 1920 ∧ Q (.str (toString i)) H) := by
  intro pins s σ H xs us Q I r h
  obtain ⟨i, rfl, hz, q⟩ := h
  obtain ⟨u, rfl, t, rfl⟩ := vals1 r
  exact PySem.P.str_of_int hz ⟨.str _, H, I.tok _, ⟨_, rfl⟩, q⟩
theorem call_ord : CallR X (.builtin "ord") (fun xs H Q => ∃ x, xs = [.str x] ∧ x.length = 1 ∧ Q (.int (x.cps.getD 0 0 : Nat)) H) := by
  intro pins s σ H xs us Q I r h
  obtain ⟨x, rfl, hz, q⟩ := h
  obtain ⟨u, rfl, t, rfl⟩ := vals1 r
  exact ord_of_one hz ⟨.int _, H, I.tok _, ⟨_, rfl⟩, q⟩
theorem call_chr : CallR X (.builtin "chr") (fun xs H Q => ∃ i, xs = [.int i] ∧ 0 ≤ i ∧ i ≤ 1114111 ∧ Q (.str ⟨#[i.toNat]⟩) H) := by
  intro pins s σ H xs us Q I r h
  obtain ⟨i, rfl, h0, h1, q⟩ := h
  obtain ⟨u, rfl, t, rfl⟩ := vals1 r
  exact chr_of_range h0 h1 ⟨.str _, H, I.tok _, ⟨_, rfl⟩, q⟩
/-- len of a str, a bytes, a list, a tuple -/
def LenV (K : PySem.W.Frag) (x : V) (H : Hp) (n : Nat) : Prop :=
  match x with
  | .str y => y.length ≤ sizeLine ∧ n = y.length
  | .byt y => y.size ≤ sizeLine ∧ n = y.size
  | .ref p => (∃ xs, SqL K H p xs ∧ n = xs.length) ∨ ∃ xs, SqT K H p xs ∧ n = xs.length
  | _ => False
theorem call_len : CallR X (.builtin "len") (fun xs H Q => ∃ x n, xs = [x] ∧ LenV X.K x H n ∧ Q (.int n) H) := by
  intro pins s σ H xs us Q I r h
  obtain ⟨x, n, rfl, e, q⟩ := h
  obtain ⟨u, rfl, rx⟩ := vals1 r
  have hl := line63
  have hs : sizeLine = 16777216 := sizeLine_eq
  cases x with
  | str y =>
    obtain ⟨t, rfl⟩ := rx
    obtain ⟨hy, e'⟩ : y.length ≤ sizeLine ∧ n = y.length := e
    subst e'
    exact len_str (by omega) ⟨.int _, H, I.tok _, ⟨_, rfl⟩, q⟩
  | byt y =>
    obtain ⟨t, rfl⟩ := rx
    obtain ⟨hy, e'⟩ : y.size ≤ sizeLine ∧ n = y.size := e
    subst e'
    exact PySem.W.len_bytes (by omega) ⟨.int _, H, I.tok _, ⟨_, rfl⟩, q⟩
  | ref p =>
    cases rx
    have e' : (∃ xs, SqL X.K H p xs ∧ n = xs.length) ∨ ∃ xs, SqT X.K H p xs ∧ n = xs.length := e
    rcases e' with ⟨xs, hx, e'⟩ | ⟨xs, hx, e'⟩
    · subst e'
      obtain ⟨its, r', pl, hz⟩ := I.list hx
      have hlen := r'.length
      exact Calls.call_len_list pl.isList (by simp only [List.size_toArray]; omega) ⟨.int xs.length, H, I.tok _, ⟨_, by simp only [List.size_toArray]; rw [hlen]⟩, q⟩
    · subst e'
      obtain ⟨its, r', pl, hz⟩ := I.tuple hx
      have hlen := r'.length
      exact len_tuple pl (by simp only [List.size_toArray]; omega) ⟨.int xs.length, H, I.tok _, ⟨_, by simp only [List.size_toArray]; rw [hlen]⟩, q⟩
  | _ => exact (show False from e).elim
/-- divmod: a new tuple -/
theorem call_divmod : CallR X (.builtin "divmod") (fun xs H Q => ∃ i j, xs = [.int i, .int j] ∧ CDiv i j ∧ ∀ p, H p = none → Q (.ref p) (upd H p (.tup [.int (i / j), .int (i % j)]))) := by
  intro pins s σ H xs us Q I r h
  obtain ⟨i, j, rfl, ⟨h1, h2⟩, q⟩ := h
  obtain ⟨u, w', rfl, ⟨t, rfl⟩, ⟨t', rfl⟩⟩ := vals2 r
  refine divmod_int (by omega) ?_ (.inl (PyProof.noPylong_small (by omega)))
  rw [Int.fdiv_eq_ediv_of_nonneg i (by omega), Int.fmod_eq_emod_of_nonneg i (by omega)]
  have hn : H s.heap.objs.size = none := I.hok.fresh (Nat.le_refl _)
  refine ⟨.ref s.heap.objs.size, _, ?_, rfl, q _ hn⟩
  refine I.laid (fun b o e => Heap.get?_push_of_some _ e) (Nat.le_refl _) ⟨by simp only [List.length_cons, List.length_nil]; rw [sizeLine_eq]; decide, [.int (i / j) s.toks, .int (i % j) (s.toks + 1)], .cons ⟨_, rfl⟩ (.cons ⟨_, rfl⟩ .nil), ?_⟩
  exact ⟨_, Heap.get?_push_size s.heap rfl, rfl, 0, rfl⟩
end
end L2

namespace L2
open PySem PySem.Spec PyProof.Rows

/-! ### an instance, its attributes a map -/
structure ObjM (h : Heap) (x dx C : Addr) (mA : Str → Option Value) : Prop where
  obj : h.get? x = some (PySem.W.instObj C dx)
  ns : h.Ns1 dx mA
  ne : dx ≠ x

theorem lookIn_ns {h : Heap} {dx : Addr} {mA : Str → Option Value} (n : h.Ns1 dx mA) : ∃ od, h.get? dx = some od ∧ ∀ name, PySem.W.lookIn name od = some (mA name) := by
  obtain ⟨o, es, ep, ho, hd, hk, _, hm⟩ := n
  refine ⟨o, ho, fun name => ?_⟩
  have e := hm name
  unfold nsFind findBy at e
  rw [← Array.find?_toList] at e
  unfold PySem.W.lookIn
  rw [hd]
  dsimp only
  split
  · rename_i y q
    rw [q] at e
    exact congrArg some e
  · rename_i q
    rw [q] at e
    have a : es.toList.any (·.refKey) = false := by
      rw [List.any_eq_false]
      intro y hy
      obtain ⟨z, t, hkey⟩ := hk y (Array.mem_toList_iff.mp hy)
      simp [DictEntry.refKey, hkey]
    have a' : ¬ es.toList.any (·.refKey) = true := by rw [a]; exact Bool.false_ne_true
    rw [if_neg a']
    exact congrArg some e

theorem ObjM.look {h : Heap} {x dx C : Addr} {mA : Str → Option Value} (I : ObjM h x dx C mA) : ∃ od, PySem.W.InstAt h x (PySem.W.instObj C dx) C (some od) ∧ ∀ name, PySem.W.lookIn name od = some (mA name) :=
  let ⟨od, ho, hl⟩ := lookIn_ns I.ns
  ⟨od, ⟨I.obj, rfl, rfl, ho⟩, hl⟩

section
variable {prog : Program} {w : World} {A : Around} {E : Value → Shared → Prop} {s : Shared} {K : PySem.W.Frag} {x dx C f : Addr} {mA : Str → Option Value} {name : Str} {v : Value}

theorem get_map {expr : Bool} {Q : Value → Shared → Prop} (X : K.In s.heap) (I : ObjM s.heap x dx C mA) (hg : PySem.W.plainGet K C name = true) (hh : PySem.W.hasDictIn K C = true)
    (ha : PySem.W.findIn K (.ref C) name = some none) (hv : mA name = some v) (hv' : PySem.W.handedIn v = true) (h : Q v { s with toks := s.toks + 1 }) :
    wpAny (model prog w) A (getAttr (.ref x) name expr) Q E s := by
  obtain ⟨od, J, hl⟩ := I.look
  exact PySem.W.get_value X J (PySem.W.plainGet_of hg).1 (PySem.W.findObj_own hh ha rfl (by rw [hl, hv])) hv' h

theorem get_const {expr : Bool} {a : Value} {Q : Value → Shared → Prop} (X : K.In s.heap) (I : ObjM s.heap x dx C mA) (hg : PySem.W.plainGet K C name = true) (hh : PySem.W.hasDictIn K C = true)
    (ha : PySem.W.findIn K (.ref C) name = some (some a)) (hn : PySem.W.specialIn K a "__get__" = some none) (hc : PySem.W.copiedNames.contains name = false) (hv : mA name = none) (hv' : PySem.W.handedIn a = true)
    (h : Q a { s with toks := s.toks + 1 }) : wpAny (model prog w) A (getAttr (.ref x) name expr) Q E s := by
  obtain ⟨od, J, hl⟩ := I.look
  exact PySem.W.get_value X J (PySem.W.plainGet_of hg).1 (PySem.W.findObj_cls hh ha hn hv' hc (by rw [hl, hv])) hv' h

theorem get_meth {pl : Sem Bool} {Q : Value × List Value → Shared → Prop} (X : K.In s.heap) (I : ObjM s.heap x dx C mA) (hg : PySem.W.plainGet K C name = true)
    (hf : PySem.W.findIn K (.ref C) name = some (some (.ref f))) (ht : PySem.W.isFn K (.ref f) = true) (hv : mA name = none) (h : Q (.ref f, [.ref x]) s) :
    wpAny (model prog w) A (getMethod (.ref x) name pl) Q E s := by
  obtain ⟨od, J, hl⟩ := I.look
  exact PySem.W.method_fn X J (PySem.W.plainGet_of hg).1 (PySem.W.plainGet_of hg).2 hf (beq_iff_eq.mp ht) (by show (PySem.W.lookIn name od).map (·.isSome) = some false; rw [hl, hv]; rfl) h

theorem set_map {ns : List Str} {Q : Unit → Shared → Prop} (X : K.In s.heap) (I : ObjM s.heap x dx C mA)
    (hs : PySem.W.findIn K (.ref C) "__setattr__" = some (some (.builtin "object.__setattr__"))) (hp : PySem.W.plainOver K C = true) (ht : PySem.W.takerIn K C name = some none) (hh : PySem.W.hasDictIn K C = true)
    (hw : PySem.Within mA ns) (hsz : ns.length ≤ sizeLine)
    (h : ∀ h', ObjM h' x dx C (fun y => if y = name then some v else mA y) → Heap.SameBut dx s.heap h' → Q () { s with heap := h', toks := s.toks + 2 }) :
    wpAny (model prog w) A (setAttr (.ref x) name v) Q E s := by
  obtain ⟨od, J, hl⟩ := I.look
  refine PySem.W.set_plain X J hs (PySem.W.osa_open (s := { s with toks := s.toks + 1 }) (r := none) X J hp ht fun b => ?_)
  obtain ⟨cd, hc, hd'⟩ := PySem.W.any_some hh
  have hx : s.heap.get? x = some ⟨.ref C, some dx, .plain, #[]⟩ := I.obj
  refine wpAny_bind (wpAny_pure (wpAny_bind (wpAny_bind (wpAny_loadPart hx (wpAny_bind (PySem.W.Looks.here (s := { s with toks := s.toks + 1 }) (PySem.W.looks_clsIn X hc) ?_))))))
  rw [hd']
  refine wpAny_pure (a := some dx) (wpAny_bind (wpAny_pure (wpAny_bind ?_)))
  refine wpAny_nsSet1 (s := { s with toks := s.toks + 1 }) I.ns fun h' hn2 hs2 => ?_
  obtain ⟨oD, esD, epD, hoD, hdD, hcD⟩ := hn2.count (PySem.Within.cons name v hw)
  refine wpAny_bind (wpAny_lookBehind hoD (by rw [hdD]; exact pastItsLine_dict (Nat.le_trans hcD (by rw [List.length_cons]; omega))) ?_)
  exact wpAny_pure (h _ ⟨(hs2.2 _ (Ne.symm I.ne)).trans I.obj, hn2, I.ne⟩ hs2)

/-- C(..): the dict at the heap's end, the instance behind it; then its __init__ -/
theorem make_map {R : Result → Shared → Prop} {vs : List Value} {kw : List (Str × Value)} (X : K.In s.heap) (hm : PySem.W.makesIn K C = true)
    (hi : PySem.W.findIn K (.ref C) "__init__" = some (some (.ref f))) (hf : PySem.W.typeIn K (.ref f) = some (.type "function"))
    (h : codeAny (model prog w) (A.under (.builtin "type.__call__" ⟨.ref C :: vs, kw⟩)) (.call (.ref f) ⟨.ref (s.heap.objs.size + 1) :: vs, kw⟩) (PySem.W.InitBack (s.heap.objs.size + 1) R)
      { s with heap := (s.heap.push PySem.W.emptyDict).push (PySem.W.instObj C s.heap.objs.size) }) :
    codeAny (model prog w) A (.call (.ref C) ⟨vs, kw⟩) R s := by
  obtain ⟨hh, g, d, t, os⟩ := s
  exact PySem.W.make_core (PySem.W.makes_of X hm) (PySem.W.looks_findIn X hi) (fun self => PySem.W.bind_fn X self hf) (.inl rfl) h
/-- C() where there is no __init__ but object's -/
theorem make_map0 {R : Result → Shared → Prop} (X : K.In s.heap) (hm : PySem.W.makesIn K C = true)
    (hi : PySem.W.findIn K (.ref C) "__init__" = some (some (.builtin "object.__init__")))
    (hb : ∀ self, PySem.W.Looks (model prog w) s.heap (bindSpecial (.builtin "object.__init__") self) (.builtin "object.__init__", [self]))
    (h : codeAny (model prog w) (A.under (.builtin "type.__call__" ⟨[.ref C], []⟩)) (.call (.builtin "object.__init__") ⟨[.ref (s.heap.objs.size + 1)], []⟩) (PySem.W.InitBack (s.heap.objs.size + 1) R)
      { s with heap := (s.heap.push PySem.W.emptyDict).push (PySem.W.instObj C s.heap.objs.size) }) :
    codeAny (model prog w) A (.call (.ref C) ⟨[], []⟩) R s := by
  obtain ⟨hh, g, d, t, os⟩ := s
  exact PySem.W.make_core (PySem.W.makes_of X hm) (PySem.W.looks_findIn X hi) hb (.inr ⟨rfl, rfl⟩) h
end

/-! ### the attributes as a list of pairs -/
def putF (f : Str) (v : V) : List (Str × V) → List (Str × V)
  | [] => [(f, v)]
  | (g, x) :: r => if g = f then (g, v) :: r else (g, x) :: putF f v r
theorem lookup_putF (f g : Str) (v : V) : ∀ fs : List (Str × V), (putF f v fs).lookup g = if g = f then some v else fs.lookup g
  | [] => by
    show List.lookup g [(f, v)] = _
    by_cases h : g = f
    · have hb : (g == f) = true := beq_iff_eq.mpr h
      simp only [List.lookup, hb, if_pos h]
    · have hb : (g == f) = false := beq_eq_false_iff_ne.mpr h
      simp only [List.lookup, hb, if_neg h]
  | (k, x) :: r => by
    have ih := lookup_putF f g v r
    rw [show putF f v ((k, x) :: r) = (if k = f then (k, v) :: r else (k, x) :: putF f v r) from rfl]
    by_cases hk : k = f
    · rw [if_pos hk]
      by_cases h : g = k
      · have hb : (g == k) = true := beq_iff_eq.mpr h
        simp only [List.lookup, hb, if_pos (h.trans hk)]
      · have hb : (g == k) = false := beq_eq_false_iff_ne.mpr h
        simp only [List.lookup, hb, if_neg (fun e : g = f => h (e.trans hk.symm))]
    · rw [if_neg hk]
      by_cases h : g = k
      · have hb : (g == k) = true := beq_iff_eq.mpr h
        simp only [List.lookup, hb, if_neg (fun e : g = f => hk (h.symm.trans e))]
      · have hb : (g == k) = false := beq_eq_false_iff_ne.mpr h
        simp only [List.lookup, hb]
        exact ih
theorem keys_putF (f : Str) (v : V) : ∀ fs : List (Str × V), f ∈ (putF f v fs).map (·.1) ∧ ∀ g, g ∈ fs.map (·.1) → g ∈ (putF f v fs).map (·.1)
  | [] => ⟨by simp [putF], fun g h => by simp at h⟩
  | (k, x) :: r => by
    obtain ⟨i1, i2⟩ := keys_putF f v r
    rw [show putF f v ((k, x) :: r) = (if k = f then (k, v) :: r else (k, x) :: putF f v r) from rfl]
    by_cases hk : k = f
    · rw [if_pos hk]
      subst hk
      exact ⟨by simp, fun g h => by simpa using h⟩
    · rw [if_neg hk]
      refine ⟨?_, fun g h => ?_⟩
      · rw [List.map_cons]
        exact List.mem_cons_of_mem _ i1
      · rw [List.map_cons] at h ⊢
        rcases List.mem_cons.mp h with e | e
        · exact List.mem_cons.mpr (.inl e)
        · exact List.mem_cons_of_mem _ (i2 g e)
theorem length_putF (f : Str) (v : V) : ∀ fs : List (Str × V), (putF f v fs).length ≤ fs.length + 1
  | [] => by simp [putF]
  | (k, x) :: r => by
    have ih := length_putF f v r
    rw [show putF f v ((k, x) :: r) = (if k = f then (k, v) :: r else (k, x) :: putF f v r) from rfl]
    by_cases hk : k = f
    · rw [if_pos hk, List.length_cons, List.length_cons]; omega
    · rw [if_neg hk, List.length_cons, List.length_cons]; omega

theorem RelO.some_of {v : V} {o : Option Value} (r : RelO (some v) o) : ∃ u, o = some u ∧ RelV v u := by
  cases o with
  | none => exact (show False from r).elim
  | some u => exact ⟨u, rfl, r⟩
theorem RelO.none_of {o : Option Value} (r : RelO none o) : o = none := by
  cases o with
  | none => rfl
  | some u => exact (show False from r).elim
theorem handed_of {v : V} {u : Value} (r : RelV v u) : PySem.W.handedIn u = true := by
  cases v with
  | non => cases (show u = Value.none from r); rfl
  | bl b => cases (show u = Value.bool b from r); rfl
  | int i => obtain ⟨t, e⟩ := (show ∃ t, u = Value.int i t from r); cases e; rfl
  | str x => obtain ⟨t, e⟩ := (show ∃ t, u = Value.str x t from r); cases e; rfl
  | byt b => obtain ⟨t, e⟩ := (show ∃ t, u = Value.bytes b t from r); cases e; rfl
  | flt b => obtain ⟨t, e⟩ := (show ∃ t, u = Value.float b t from r); cases e; rfl
  | ref a => cases (show u = Value.ref a from r); rfl
  | ty n => cases (show u = Value.type n from r); rfl

section
variable {P : Program} {w : World} {H H' : Hp} {h h' : Heap} {a C dx : Addr} {fs fs' : List (Str × V)}
theorem ins_get (hok : HOk P w H h) (e : H a = some (.ins C dx fs)) : ∃ mA, ObjM h a dx C mA ∧ (∀ f, RelO (fs.lookup f) (mA f)) ∧ PySem.Within mA (fs.map (·.1)) ∧ fs.length ≤ 1000 ∧ H dx = some (.own a) := by
  obtain ⟨d, z, ne, ob, mA, n, r, q⟩ := (show ObjOk P w H h a (.ins C dx fs) from hok a _ e)
  exact ⟨mA, ⟨ob, n, ne⟩, r, q, z, d⟩
end

/-! ### what of the text a class must have -/
structure Cls (K : PySem.W.Frag) (C : Addr) : Prop where
  pg : PySem.W.plainGet K C Str.empty = true
  hd : PySem.W.hasDictIn K C = true
  po : PySem.W.plainOver K C = true
  sa : PySem.W.findIn K (.ref C) "__setattr__" = some (some (.builtin "object.__setattr__"))
theorem Cls.get {K : PySem.W.Frag} {C : Addr} (c : Cls K C) (f : Str) : PySem.W.plainGet K C f = true := c.pg
/-- no class of it has the name -/
def NoAttr (K : PySem.W.Frag) (C : Addr) (f : Str) : Prop := PySem.W.findIn K (.ref C) f = some none
theorem NoAttr.taker {K : PySem.W.Frag} {C : Addr} {f : Str} (n : NoAttr K C f) : PySem.W.takerIn K C f = some none := by
  unfold PySem.W.takerIn
  rw [show PySem.W.findIn K (.ref C) f = some none from n]
  rfl
/-- a constant of the class -/
structure Con (K : PySem.W.Frag) (C : Addr) (f : Str) (v : V) (u : Value) : Prop where
  at_ : PySem.W.findIn K (.ref C) f = some (some u)
  rel : RelV v u
  get : PySem.W.specialIn K u "__get__" = some none
  cp : PySem.W.copiedNames.contains f = false
/-- a method: a plain def of the class or of one above it -/
structure Meth (K : PySem.W.Frag) (C : Addr) (m : Str) (f : Addr) : Prop where
  at_ : PySem.W.findIn K (.ref C) m = some (some (.ref f))
  fn : PySem.W.isFn K (.ref f) = true
  kp : PySem.W.keepIn K (.ref f) = true

section
variable {X : Cx} {pins : List (Addr × Obj)} {σ : St} {H : Hp} {s : Shared} {a C dx : Addr} {fs : List (Str × V)} {f : Str} {v : V} {A : Around} {E : Value → Shared → Prop}

theorem getattr_ok {b : Bool} {Q : Value → Shared → Prop} (I : Inv X pins σ H s) (e : H a = some (.ins C dx fs)) (c : Cls X.K C) (n : NoAttr X.K C f) (l : fs.lookup f = some v)
    (h : ∀ u s', Inv X pins σ H s' → RelV v u → Q u s') : wpAny (model X.prog X.w) A (getAttr (.ref a) f b) Q E s := by
  obtain ⟨mA, O, r, _, _, _⟩ := ins_get I.hok e
  obtain ⟨u, hu, ru⟩ := RelO.some_of (v := v) (o := mA f) (by rw [← l]; exact r f)
  exact get_map I.kIn O (c.get f) c.hd n hu (handed_of ru) (h u _ (I.tok _) ru)

theorem getcon_ok {b : Bool} {u : Value} {Q : Value → Shared → Prop} (I : Inv X pins σ H s) (e : H a = some (.ins C dx fs)) (c : Cls X.K C) (k : Con X.K C f v u) (l : fs.lookup f = none)
    (h : ∀ s', Inv X pins σ H s' → Q u s') : wpAny (model X.prog X.w) A (getAttr (.ref a) f b) Q E s := by
  obtain ⟨mA, O, r, _, _, _⟩ := ins_get I.hok e
  have hn : mA f = none := RelO.none_of (by rw [← l]; exact r f)
  exact get_const I.kIn O (c.get f) c.hd k.at_ k.get k.cp hn (handed_of k.rel) (h _ (I.tok _))

theorem getmeth_ok {m : Str} {g : Addr} {pl : Sem Bool} {Q : Value × List Value → Shared → Prop} (I : Inv X pins σ H s) (e : H a = some (.ins C dx fs)) (c : Cls X.K C) (k : Meth X.K C m g) (l : fs.lookup m = none)
    (h : Q (.ref g, [.ref a]) s) : wpAny (model X.prog X.w) A (getMethod (.ref a) m pl) Q E s := by
  obtain ⟨mA, O, r, _, _, _⟩ := ins_get I.hok e
  have hn : mA m = none := RelO.none_of (by rw [← l]; exact r m)
  exact get_meth I.kIn O (c.get m) k.at_ k.fn hn h

theorem setattr_ok {y : V} {u : Value} {Q : Unit → Shared → Prop} (I : Inv X pins σ H s) (e : H a = some (.ins C dx fs)) (c : Cls X.K C) (n : NoAttr X.K C f) (hl : fs.length < 1000) (ry : RelV y u)
    (h : ∀ s', Inv X pins σ (upd H a (.ins C dx (putF f y fs))) s' → Q () s') : wpAny (model X.prog X.w) A (setAttr (.ref a) f u) Q E s := by
  obtain ⟨mA, O, r, wi, _, ho⟩ := ins_get I.hok e
  have hz : (fs.map (·.1)).length ≤ sizeLine := by rw [List.length_map, sizeLine_eq]; omega
  refine set_map I.kIn O c.sa c.po n.taker c.hd wi hz fun h' O' sb => h _ ?_
  have hd : ∃ o, h'.get? dx = some o := let ⟨o, _, _, e', _⟩ := O'.ns; ⟨o, e'⟩
  refine I.write (x := a) (e := dx) (by rw [e]; exact True.intro) (.inr ho) (fun b q hb z => (sb.2 b hb).trans z) hd ?_
  refine ⟨by rw [upd_ne O.ne]; exact ho, ?_, O.ne, O'.obj, _, O'.ns, fun g => ?_, fun g hg => ?_⟩
  · have := length_putF f y fs; omega
  · show RelO ((putF f y fs).lookup g) (if g = f then some u else mA g)
    rw [lookup_putF]
    by_cases q : g = f
    · rw [if_pos q, if_pos q]; exact ry
    · rw [if_neg q, if_neg q]; exact r g
  · by_cases q : g = f
    · rw [q]; exact (keys_putF f y fs).1
    · refine (keys_putF f y fs).2 g (wi g fun z => hg ?_)
      show (if g = f then some u else mA g) = none
      rw [if_neg q]; exact z

/-- a new instance, tracked, without attributes -/
theorem Inv.made (I : Inv X pins σ H s) : Inv X pins σ (upd (upd H s.heap.objs.size (.own (s.heap.objs.size + 1))) (s.heap.objs.size + 1) (.ins C s.heap.objs.size []))
    { s with heap := (s.heap.push PySem.W.emptyDict).push (PySem.W.instObj C s.heap.objs.size) } := by
  have e1 : (s.heap.push PySem.W.emptyDict).get? s.heap.objs.size = some PySem.W.emptyDict := Heap.get?_push_size s.heap rfl
  have e2 : ((s.heap.push PySem.W.emptyDict).push (PySem.W.instObj C s.heap.objs.size)).get? (s.heap.objs.size + 1) = some (PySem.W.instObj C s.heap.objs.size) := by
    have := Heap.get?_push_size (s.heap.push PySem.W.emptyDict) (o := PySem.W.instObj C s.heap.objs.size) rfl
    rwa [Heap.size_push] at this
  have e3 : (s.heap.push PySem.W.emptyDict).Ns s.heap.objs.size (fun _ => none) := ⟨PySem.W.emptyDict, #[], _, e1, rfl, (fun e he => absurd he (by simp)), fun _ => rfl⟩
  have I1 := I.laid (a := s.heap.objs.size) (o := .own (s.heap.objs.size + 1)) (h' := s.heap.push PySem.W.emptyDict) (t' := s.toks) (fun b u q => Heap.get?_push_of_some _ q) (Nat.le_refl _) ⟨_, e1⟩
  refine I1.laid (a := s.heap.objs.size + 1) (o := .ins C s.heap.objs.size []) (t' := s.toks) (fun b u q => Heap.get?_push_of_some _ q) (Nat.le_of_eq (Heap.size_push _ _)) ?_
  have ne : s.heap.objs.size ≠ s.heap.objs.size + 1 := Nat.ne_of_lt (Nat.lt_succ_self _)
  refine ⟨by rw [upd_ne ne, upd_same], Nat.zero_le _, ne, e2, fun _ => none, (Heap.Ns1.of_empty e3).at fun o q => Heap.get?_push_of_some _ q, fun _ => True.intro, fun y hy => absurd rfl hy⟩

/-- e.f where nothing but the object is asked: through attributeBase (super) and the last hold -/
theorem attr_of {prog : Program} {w : World} {env : Env} {e : Expr} {f : Str} {pos : Pos} {s : Shared} {Q : Value → Shared → Prop} (hb : attributeBase e f env (eval e env) = eval e env)
    (h : wpAny (model prog w) A (eval e env) (fun o s₁ => wpAny (model prog w) A (getAttr o f true) Q E s₁) E s) : wpAny (model prog w) A (eval (.Attribute e f pos) env) Q E s :=
  Attribute_any_ h (by rw [arm_eval_Attribute, hb])
end

/-! ### readings and rules -/
/-- e.f, an attribute of the instance -/
def tFld (K : PySem.W.Frag) (ta : TE) (f : Str) : TE := fun σ H Q => ta σ H fun x H1 => ∃ a C dx fs v, x = .ref a ∧ H1 a = some (.ins C dx fs) ∧ Cls K C ∧ NoAttr K C f ∧ fs.lookup f = some v ∧ Q v H1
/-- e.f, a constant of the class -/
def tCon (K : PySem.W.Frag) (ta : TE) (f : Str) : TE := fun σ H Q => ta σ H fun x H1 => ∃ a C dx fs v u, x = .ref a ∧ H1 a = some (.ins C dx fs) ∧ Cls K C ∧ Con K C f v u ∧ fs.lookup f = none ∧ Q v H1
/-- e.f = value -/
def sFld (K : PySem.W.Frag) (ta tv : TE) (f : Str) : TS := fun D σ H => tv σ H fun y H1 => ta σ H1 fun x H2 => ∃ a C dx fs, x = .ref a ∧ H2 a = some (.ins C dx fs) ∧ Cls K C ∧ NoAttr K C f ∧ fs.length < 1000 ∧
  D.nx σ (upd H2 a (.ins C dx (putF f y fs)))
/-- an augmented operator on two values -/
def InOp (X : Cx) (op : Operator) (rd : V → V → Hp → VK → Prop) : Prop :=
  ∀ (pins : List (Addr × Obj)) (s : Shared) (σ : St) (H : Hp) (x y : V) (u v : Value) (Q : VK), Inv X pins σ H s → RelV x u → RelV y v → rd x y H Q → wpAny (model X.prog X.w) X.A (inplaceOp op u v) (EP X pins σ Q) X.xe s
/-- e.f op= value -/
def sFldAug (K : PySem.W.Frag) (ta tv : TE) (rd : V → V → Hp → VK → Prop) (f : Str) : TS := fun D σ H => ta σ H fun x H1 => ∃ a C dx fs v, x = .ref a ∧ H1 a = some (.ins C dx fs) ∧ Cls K C ∧ NoAttr K C f ∧ fs.lookup f = some v ∧
  tv σ H1 fun y H2 => rd v y H2 fun z H3 => ∃ dx' fs', H3 a = some (.ins C dx' fs') ∧ fs'.length < 1000 ∧ D.nx σ (upd H3 a (.ins C dx' (putF f z fs')))

section
variable {X : Cx} {o e value : Expr} {f : Str} {pos pos' tpos : Pos} {ta tv : TE}
theorem pe_fld (he : PE X e ta) (hb : attributeBase e f X.env (eval e X.env) = eval e X.env) : PE X (.Attribute e f pos) (tFld X.K ta f) := by
  intro pins s σ H Q I h
  refine attr_of hb (thn (he pins s σ H _ I h) fun u s1 ⟨x, H1, I1, rx, a, C, dx, fs, v, ex, ea, c, n, l, q⟩ => ?_)
  subst ex
  obtain rfl : u = Value.ref a := rx
  exact getattr_ok I1 ea c n l fun u' s2 I2 ru => ⟨v, H1, I2, ru, q⟩
theorem pe_con (he : PE X e ta) (hb : attributeBase e f X.env (eval e X.env) = eval e X.env) : PE X (.Attribute e f pos) (tCon X.K ta f) := by
  intro pins s σ H Q I h
  refine attr_of hb (thn (he pins s σ H _ I h) fun u s1 ⟨x, H1, I1, rx, a, C, dx, fs, v, u0, ex, ea, c, k, l, q⟩ => ?_)
  subst ex
  obtain rfl : u = Value.ref a := rx
  exact getcon_ok I1 ea c k l fun s2 I2 => ⟨v, H1, I2, k.rel, q⟩
theorem ps_fld (ha : PE X o ta) (hv : PE X value tv) (hs : swapsWith value (some (.Attribute o f pos')) pos.line X.env = pure false) : PS X (.Assign [.Attribute o f pos'] value pos) (sFld X.K ta tv f) := by
  intro pins s σ H D I h
  refine plainObj_wpAny_Assign_Attribute (thn (hv pins s σ H _ I h) fun u s1 ⟨y, H1, I1, ry, q⟩ => thn (ha pins s1 σ H1 _ I1 q) fun ov s2 ⟨x, H2, I2, rx, a, C, dx, fs, ex, ea, c, n, l, q2⟩ => ?_) hs
  subst ex
  obtain rfl : ov = Value.ref a := rx
  exact setattr_ok I2 ea c n l ry fun s3 I3 => ⟨σ, _, I3, q2⟩
theorem ps_fldaug {op : Operator} {rd : V → V → Hp → VK → Prop} (ha : PE X o ta) (hv : PE X value tv) (hop : InOp X op rd) : PS X (.AugAssign (.Attribute o f tpos) op value pos) (sFldAug X.K ta tv rd f) := by
  intro pins s σ H D I h
  refine wpAny_AugAssign_AttributeAny (thn (ha pins s σ H _ I h) fun ov s1 ⟨x, H1, I1, rx, a, C, dx, fs, v, ex, ea, c, n, l, q⟩ => ?_)
  subst ex
  obtain rfl : ov = Value.ref a := rx
  refine getattr_ok I1 ea c n l fun u s2 I2 ru => thn (hv pins s2 σ H1 _ I2 q) fun w3 s3 ⟨y, H2, I3, ry, q3⟩ => thn (hop pins s3 σ H2 v y u w3 _ I3 ru ry q3) fun w4 s4 ⟨z, H3, I4, rz, dx', fs', ea', l', q4⟩ => ?_
  exact setattr_ok I4 ea' c n l' rz fun s5 I5 => ⟨σ, _, I5, q4⟩
def rAdd : V → V → Hp → VK → Prop := fun x y H Q => ∃ i j, x = .int i ∧ y = .int j ∧ Q (.int (i + j)) H
def rSub : V → V → Hp → VK → Prop := fun x y H Q => ∃ i j, x = .int i ∧ y = .int j ∧ Q (.int (i - j)) H
theorem in_add : InOp X .Add rAdd := by
  rintro pins s σ H x y u v Q I rx ry ⟨i, j, rfl, rfl, q⟩
  obtain ⟨t, rfl⟩ := (show ∃ t, u = Value.int i t from rx)
  obtain ⟨t', rfl⟩ := (show ∃ t', v = Value.int j t' from ry)
  exact PyProof.Rows.iadd_int ⟨.int (i + j), H, I.tok _, ⟨_, rfl⟩, q⟩
theorem in_sub : InOp X .Sub rSub := by
  rintro pins s σ H x y u v Q I rx ry ⟨i, j, rfl, rfl, q⟩
  obtain ⟨t, rfl⟩ := (show ∃ t, u = Value.int i t from rx)
  obtain ⟨t', rfl⟩ := (show ∃ t', v = Value.int j t' from ry)
  exact PyProof.Rows.isub_int ⟨.int (i - j), H, I.tok _, ⟨_, rfl⟩, q⟩

/-- what is between an instance and its method: the tree of a method call -/
theorem methcall_of {pl : Sem Bool} {m : Str} {apos : Pos} {args : List Expr} {pins : List (Addr × Obj)} {s : Shared} {σ : St} {H : Hp} {Q : Value → Shared → Prop} {te : TE} (he : PE X e te) (I : Inv X pins σ H s)
    (h : te σ H fun x H1 => ∃ a C dx fs g, x = .ref a ∧ H1 a = some (.ins C dx fs) ∧ Cls X.K C ∧ Meth X.K C m g ∧ fs.lookup m = none ∧
      ∀ s1, Inv X pins σ H1 s1 → wpAny (model X.prog X.w) X.A (callWith pos (.ref g) [.ref a] (backTo pos (starEach args X.env)) (backToKw pos (keywordEach [] X.env))) Q X.xe s1)
    (ht : eval (.Call (.Attribute e m apos) args [] pos) X.env = (do
      let ov ← eval e X.env
      standAt apos.atName
      let (f, first) ← holding [ov] (getMethod ov m pl)
      callWith pos f first (backTo pos (starEach args X.env)) (backToKw pos (keywordEach [] X.env)))) :
    wpAny (model X.prog X.w) X.A (eval (.Call (.Attribute e m apos) args [] pos) X.env) Q X.xe s := by
  refine PySem.W.methodCall_KW (pl := pl) (thn (he pins s σ H _ I h) fun u s1 ⟨x, H1, I1, rx, a, C, dx, fs, g, ex, ea, c, k, l, q⟩ => ?_) ht
  subst ex
  obtain rfl : u = Value.ref a := rx
  exact getmeth_ok I1 ea c k l (q s1 I1)
end

/-! ### isinstance -/
section
variable {X : Cx} {pins : List (Addr × Obj)} {σ : St} {H : Hp} {s : Shared} {A : Around} {E : Value → Shared → Prop} {Q : Value → Shared → Prop} {c : Value} {b : Bool}
/-- the type of a value, as the fragment's deciders take it; for an instance its class -/
inductive TyOf (K : PySem.W.Frag) (H : Hp) : V → Value → Prop where
  | non : TyOf K H .non (.type "NoneType")
  | bl (x : Bool) : TyOf K H (.bl x) (.type "bool")
  | int (i : Int) : TyOf K H (.int i) (.type "int")
  | str (x : Str) : TyOf K H (.str x) (.type "str")
  | flt (x : UInt64) : TyOf K H (.flt x) (.type "float")
  | lst {a : Addr} {xs : List V} (e : H a = some (.lst xs)) : TyOf K H (.ref a) (.type "list")
  | frz {a : Addr} {o : Obj} {xs : List V} (e : H a = some (.frz o (.lst xs))) : TyOf K H (.ref a) (.type "list")
  | tup {a : Addr} {xs : List V} (e : H a = some (.tup xs)) : TyOf K H (.ref a) (.type "tuple")
  | dK {a : Addr} {kvs : List (Key × V)} (e : H a = some (.dK kvs)) : TyOf K H (.ref a) (.type "dict")
  | dT {a : Addr} {kvs : List (List Key × V)} (e : H a = some (.dT kvs)) : TyOf K H (.ref a) (.type "dict")
  | ins {a C dx : Addr} {fs : List (Str × V)} (e : H a = some (.ins C dx fs)) (cl : Cls K C) (ha : PySem.W.findIn K (.ref C) "__class__" = some (some (.builtin "object.__class__")))
      (hn : PySem.W.specialIn K (.builtin "object.__class__") "__get__" = some (some (.builtin "getset_descriptor.__get__"))) (htk : PySem.W.takesIn K (.builtin "object.__class__") = some true)
      (hm : PySem.W.mroIn K C (.type "object") = some true) : TyOf K H (.ref a) (.ref C)
/-- isinstance(x, c) for one class c, a built-in or an own one: kitOne's answer -/
theorem isinst_ok {x : V} {u t : Value} (I : Inv X pins σ H s) (rx : RelV x u) (ty : TyOf X.K H x t) (e : PySem.W.kitOne X.K t c = some b) (h : ∀ tk, Q (.bool b) { s with toks := tk }) :
    wpAny (model X.prog X.w) A (call (.builtin "isinstance") [u, c]) Q E s := by
  cases ty with
  | non => cases (show u = Value.none from rx); exact PySem.W.kia_one PySem.W.kitx_none I.kIn True.intro e (fun z => nomatch z) h
  | bl y => cases (show u = Value.bool y from rx); exact PySem.W.kia_one PySem.W.kitx_bool I.kIn True.intro e (fun z => nomatch z) h
  | int i => obtain ⟨t, q⟩ := (show ∃ t, u = Value.int i t from rx); cases q; exact PySem.W.kia_one PySem.W.kitx_int I.kIn True.intro e (fun z => nomatch z) h
  | str y => obtain ⟨t, q⟩ := (show ∃ t, u = Value.str y t from rx); cases q; exact PySem.W.kia_one PySem.W.kitx_str I.kIn True.intro e (fun z => nomatch z) h
  | flt y => obtain ⟨t, q⟩ := (show ∃ t, u = Value.float y t from rx); cases q; exact PySem.W.kia_one PySem.W.kitx_float I.kIn True.intro e (fun z => nomatch z) h
  | @lst a xs ea =>
    cases (show u = Value.ref a from rx)
    obtain ⟨_, _, n, _, h1⟩ := (show ObjOk X.prog X.w H s.heap a (.lst xs) from I.hok a _ ea)
    exact PySem.W.kia_one PySem.W.kitx_list I.kIn ⟨_, h1, rfl⟩ e (fun z => nomatch z) h
  | @frz a ob xs ea =>
    cases (show u = Value.ref a from rx)
    obtain ⟨_, _, _, n, _, h1⟩ := (show ObjOk X.prog X.w H s.heap a (.frz ob (.lst xs)) from I.hok a _ ea)
    exact PySem.W.kia_one PySem.W.kitx_list I.kIn ⟨_, h1, rfl⟩ e (fun z => nomatch z) h
  | @tup a xs ea =>
    cases (show u = Value.ref a from rx)
    obtain ⟨_, _, _, p⟩ := (show ObjOk X.prog X.w H s.heap a (.tup xs) from I.hok a _ ea)
    obtain ⟨o, h1, h2, _⟩ := p
    exact PySem.W.kia_one PySem.W.kitx_tuple I.kIn ⟨o, h1, h2⟩ e (fun z => nomatch z) h
  | @dK a kvs ea =>
    cases (show u = Value.ref a from rx)
    obtain ⟨_, _, vs, _, p⟩ := (show ObjOk X.prog X.w H s.heap a (.dK kvs) from I.hok a _ ea)
    obtain ⟨o, es, ep, h1, h2, _⟩ := p
    exact PySem.W.kia_one PySem.W.kitx_dict I.kIn ⟨o, h1, h2.1⟩ e (fun z => nomatch z) h
  | @dT a kvs ea =>
    cases (show u = Value.ref a from rx)
    obtain ⟨_, _, xs, _, o, es, ep, h1, h2, _⟩ := (show ObjOk X.prog X.w H s.heap a (.dT kvs) from I.hok a _ ea)
    exact PySem.W.kia_one PySem.W.kitx_dict I.kIn ⟨o, h1, h2.1⟩ e (fun z => nomatch z) h
  | @ins a C dx fs ea cl ha hn htk hm =>
    cases (show u = Value.ref a from rx)
    obtain ⟨mA, O, _⟩ := ins_get I.hok ea
    obtain ⟨od, J, _⟩ := O.look
    exact PySem.W.kia_one (PySem.W.kitx_own (cl.get _) cl.hd ha hn htk hm) I.kIn J e (fun z => nomatch z) h
end
end L2

namespace L2
open PySem PySem.Spec PyProof.Rows

/-! ### room -/
structure Room (k : Nat) (A : Around) : Prop where
  hd : A.handled = none
  dp : A.depth + 3 * k + 5 < recursionLimit
  un : A.units + 16 * k + 200 < cLine
theorem Room.mono {j k : Nat} {A : Around} (r : Room k A) (h : j ≤ k) : Room j A := ⟨r.hd, by have := r.dp; omega, by have := r.un; omega⟩
theorem Room.deeper {k : Nat} {A : Around} (r : Room (k + 1) A) (env : Env) : Room k (A.deeper env) :=
  ⟨r.hd, by have := r.dp; show A.depth + 1 + 3 * k + 5 < _; omega, by have := r.un; show A.units + 3 + 16 * k + 200 < _; omega⟩
theorem Room.in1 {k : Nat} {A : Around} (r : Room (k + 1) A) : Room k A.in1 :=
  ⟨r.hd, by have := r.dp; show A.depth + 3 * k + 5 < _; omega, by have := r.un; show A.units + 1 + 16 * k + 200 < _; omega⟩
theorem make_depth {A : Around} {C : Addr} {us : List Value} {kw : List (Str × Value)} : (A.under (.builtin "type.__call__" ⟨.ref C :: us, kw⟩)).depth = A.depth + 1 := by
  first | rfl | simp [Around.under, Code.weight, Code.isCreation, Code.isGuard, Code.isCaller, Code.frames, Code.isFrame, guardIds]
theorem make_units {A : Around} {C : Addr} {us : List Value} {kw : List (Str × Value)} : (A.under (.builtin "type.__call__" ⟨.ref C :: us, kw⟩)).units = A.units + 1 := by
  first | rfl | simp [Around.under, Code.cUnits, Code.frames, Code.isFrame]
theorem Room.make {k : Nat} {A : Around} (r : Room (k + 1) A) (C : Addr) (us : List Value) (kw : List (Str × Value)) : Room k (A.under (.builtin "type.__call__" ⟨.ref C :: us, kw⟩)) :=
  ⟨r.hd, by have := r.dp; rw [make_depth]; omega, by have := r.un; rw [make_units]; omega⟩
theorem Room.depth {k : Nat} {A : Around} (r : Room k A) : A.depth < recursionLimit := by have := r.dp; omega
theorem Room.units {k : Nat} {A : Around} (r : Room k A) : A.units + 64 < cLine := by have := r.un; omega
theorem Room.units0 {k : Nat} {A : Around} (r : Room k A) : A.units < cLine := by have := r.un; omega

/-! ### argument lists and displays -/
def tNil : TA := fun _ H Q => Q [] H
def tCons (ta : TE) (tr : TA) : TA := fun σ H Q => ta σ H fun x H1 => tr σ H1 fun xs H2 => Q (x :: xs) H2
section
variable {X : Cx} {e : Expr} {es : List Expr} {te : TE} {t : TA} {pos : Pos}
theorem pa_nil : PA X [] tNil := fun _ _ _ _ H Q I h => Calls.spliced_nil ⟨[], H, I, .nil, h⟩
theorem pa_cons (ha : PE X e te) (hr : PA X es t) (hs : starEach (e :: es) X.env = (false, eval e X.env) :: starEach es X.env := by rfl) : PA X (e :: es) (tCons te t) := by
  intro pos pins s σ H Q I h
  rw [hs]
  show wpAny _ _ (spliced ((false, eval e X.env) :: backTo pos (starEach es X.env))) _ _ s
  refine Calls.spliced_cons (thn (ha pins s σ H _ I h) fun u s1 ⟨x, H1, I1, r1, q1⟩ => ?_)
  exact thn (hr pos pins s1 σ H1 _ I1 q1) fun us s2 ⟨xs, H2, I2, r2, q2⟩ => ⟨x :: xs, H2, I2, .cons r1 r2, q2⟩

/-- a tuple, a list of written items -/
def tTup (t : TA) : TE := fun σ H Q => t σ H fun xs H1 => xs.length ≤ sizeLine ∧ ∀ p, H1 p = none → Q (.ref p) (upd H1 p (.tup xs))
def tLst (t : TA) : TE := fun σ H Q => t σ H fun xs H1 => xs.length ≤ sizeLine ∧ ∀ p, H1 p = none → Q (.ref p) (upd H1 p (.lst xs))
theorem pe_tup {x1} (h : PA X es t) : PE X (.Tuple es x1 pos) (tTup t) := by
  intro pins s σ H Q I hq
  refine wpAny_Tuple_spliced (thn (h pos pins s σ H _ I hq) fun us s1 ⟨xs, H1, I1, r, z, q⟩ => ⟨by rw [← r.length]; exact z, ?_⟩)
  have hf : H1 s1.heap.objs.size = none := I1.hok.fresh (Nat.le_refl _)
  refine ⟨.ref s1.heap.objs.size, upd H1 s1.heap.objs.size (.tup xs), I1.laid (t' := s1.toks) (fun b u e => Heap.get?_push_of_some _ e) (Nat.le_refl _) ?_, rfl, q _ hf⟩
  exact ⟨z, us, r, ⟨_, Heap.get?_push_size _ rfl, rfl, _, rfl⟩⟩
theorem pe_lst (h : PA X es t) : PE X (.List es pos) (tLst t) := by
  intro pins s σ H Q I hq
  refine wpAny_List_spliced (thn (h pos pins s σ H _ I hq) fun us s1 ⟨xs, H1, I1, r, z, q⟩ => ⟨by rw [← r.length]; exact z, ?_⟩)
  have hf : H1 s1.heap.objs.size = none := I1.hok.fresh (Nat.le_refl _)
  refine ⟨.ref s1.heap.objs.size, upd H1 s1.heap.objs.size (.lst xs), I1.laid (t' := s1.toks) (fun b u e => Heap.get?_push_of_some _ e) (Nat.le_refl _) ?_, rfl, q _ hf⟩
  exact ⟨z, us, 0, r, Heap.get?_push_size _ rfl⟩
end

/-! ### what a def promises -/
/-- a def's promise: the bound arguments in the parameters' order, the heap, the wanted end, the wanted exception -/
abbrev Sp := List V → Hp → VK → XK → Prop
/-- how an exception lies behind a call (file 08 gives it): the callers' frames, abstract heap and state ahead of the call, the wish, the exception, the state -/
abbrev CXT := List Env → Hp → Shared → XK → Value → Shared → Prop

/-- the state at a call -/
structure Env0 (P : Program) (w : World) (K : PySem.W.Frag) (mg : Str → Option Value) (base : Heap) (A : Around) (outer : List Env) (s : Shared) (H : Hp) : Prop where
  frames : A.frames = some outer
  mod : Mod K mg base
  bs : ∀ b o, base.get? b = some o → s.heap.get? b = some o ∧ H b = none
  bsz : base.objs.size ≤ s.heap.objs.size
  funs : s.heap.FunFrames base outer
  frf : ∀ b ∈ frs outer, H b = none
  hok : HOk P w H s.heap
  bare : AllBare s.gens
/-- a call's end -/
def CE (outer : List Env) (P : Program) (w : World) (H : Hp) (s : Shared) (Q : VK) (u : Value) (s' : Shared) : Prop :=
  ∃ v H', s'.os = s.os ∧ AllBare s'.gens ∧ Un (frs outer) [] H H' s.heap s'.heap ∧ HOk P w H' s'.heap ∧ RelV v u ∧ Q v H'
def CR (CX : CXT) (outer : List Env) (P : Program) (w : World) (H : Hp) (s : Shared) (Q : VK) (E : XK) (r : Result) (s' : Shared) : Prop :=
  match r with
  | .ok (.ret u) => CE outer P w H s Q u s'
  | .ok _ => False
  | .error e => CX outer H s E e s'
structure FnOk (P : Program) (w : World) (K : PySem.W.Frag) (mg : Str → Option Value) (base : Heap) (CX : CXT) (k : Nat) (f : Addr) (fd : FuncData) (ps : List Str) (sp : Sp) : Prop where
  len : ∀ vs H Q E, sp vs H Q E → vs.length = ps.length
  run : ∀ (A : Around) (outer : List Env) (s : Shared) (H : Hp) (args : Args) (us : List Value) (vs : List V) (Q : VK) (E : XK), Room k A → Env0 P w K mg base A outer s H → BindsTo s fd args (ps.zip us) → Vals vs us → sp vs H Q E →
    codeAny (model P w) A (.call (.ref f) args) (CR CX outer P w H s Q E) s
theorem FnOk.mono {P : Program} {w : World} {K : PySem.W.Frag} {mg : Str → Option Value} {base : Heap} {CX : CXT} {j k : Nat} {f : Addr} {fd : FuncData} {ps : List Str} {sp : Sp} (F : FnOk P w K mg base CX j f fd ps sp) (h : j ≤ k) :
    FnOk P w K mg base CX k f fd ps sp := ⟨F.len, fun A outer s H args us vs Q E hr => F.run A outer s H args us vs Q E (hr.mono h)⟩
/-- a weaker promise -/
theorem FnOk.imp {P : Program} {w : World} {K : PySem.W.Frag} {mg : Str → Option Value} {base : Heap} {CX : CXT} {k : Nat} {f : Addr} {fd : FuncData} {ps : List Str} {sp sp' : Sp} (F : FnOk P w K mg base CX k f fd ps sp)
    (h : ∀ vs H Q E, sp' vs H Q E → sp vs H Q E) : FnOk P w K mg base CX k f fd ps sp' :=
  ⟨fun vs H Q E q => F.len vs H Q E (h _ _ _ _ q), fun A outer s H args us vs Q E hr he hb hv hs => F.run A outer s H args us vs Q E hr he hb hv (h _ _ _ _ hs)⟩

theorem Env0.make {P : Program} {w : World} {K : PySem.W.Frag} {mg : Str → Option Value} {base : Heap} {A : Around} {outer : List Env} {s : Shared} {H : Hp} (e : Env0 P w K mg base A outer s H) (C : Addr) (us : List Value) (kw : List (Str × Value)) :
    Env0 P w K mg base (A.under (.builtin "type.__call__" ⟨.ref C :: us, kw⟩)) outer s H := ⟨by first | exact e.frames | (simpa [Around.under, Code.envs, Code.isFrame, pushEnvs] using e.frames), e.mod, e.bs, e.bsz, e.funs, e.frf, e.hok, e.bare⟩
theorem Env0.in1 {P : Program} {w : World} {K : PySem.W.Frag} {mg : Str → Option Value} {base : Heap} {A : Around} {outer : List Env} {s : Shared} {H : Hp} (e : Env0 P w K mg base A outer s H) :
    Env0 P w K mg base A.in1 outer s H := ⟨e.frames, e.mod, e.bs, e.bsz, e.funs, e.frf, e.hok, e.bare⟩

section
variable {X : Cx} {pins : List (Addr × Obj)} {σ : St} {H : Hp} {s s' : Shared}
/-- from a body: what a callee wants -/
theorem Inv.env0 (I : Inv X pins σ H s) : Env0 X.prog X.w X.K X.mg X.base X.A X.stack s H :=
  ⟨I.ok.frames, I.ok.mod, I.bs, Nat.le_trans I.ok.bsz I.sz, I.stack, I.stkFree, I.hok, I.bare⟩
/-- behind a call -/
theorem Inv.after {Q : VK} {u : Value} (I : Inv X pins σ H s) (h : CE X.stack X.prog X.w H s Q u s') : EP X pins σ Q u s' := by
  obtain ⟨v, H', os, bare, un, hok, r, q⟩ := h
  obtain ⟨hh, g, d, t, os'⟩ := s'
  obtain rfl : os' = s.os := os
  exact ⟨v, H', I.call (h' := hh) (g' := g) (d' := d) (t' := t) (ch := []) un hok bare (fun b z => absurd z (by simp)), r, q⟩
end

/-! ### calls -/
/-- f(..): the written arguments, then the defaults dvs; E: what is wanted of an exception -/
def tCall (sp : Sp) (dvs : List V) (E : XK) (t : TA) : TE := fun σ H Q => t σ H fun vs H1 => sp (vs ++ dvs) H1 Q E
/-- o.m(..) of an instance of the class at C -/
def tMeth (C : Addr) (m : Str) (sp : Sp) (dvs : List V) (E : XK) (ta : TE) (t : TA) : TE := fun σ H Q => ta σ H fun x H1 => ∃ a dx fs, x = .ref a ∧ H1 a = some (.ins C dx fs) ∧ fs.lookup m = none ∧
  t σ H1 fun vs H2 => sp (x :: (vs ++ dvs)) H2 Q E
/-- C(..): a new instance and its dict, then __init__ -/
def tMake (C : Addr) (sp : Sp) (dvs : List V) (E : XK) (t : TA) : TE := fun σ H Q => t σ H fun vs H1 => ∀ x dx, H1 x = none → H1 dx = none → dx ≠ x →
  sp (.ref x :: (vs ++ dvs)) (upd (upd H1 dx (.own x)) x (.ins C dx [])) (fun v H2 => v = .non ∧ Q (.ref x) H2) E

/-- how the parameters are bound: us the positional arguments, kw the keywords' values by name, ds the defaults that fill up -/
def Binds (K : PySem.W.Frag) (fd : FuncData) (ps : List Str) (ds : List Value) : Prop :=
  ∀ (s : Shared) (us : List Value), K.In s.heap → (us ++ ds).length = ps.length → BindsTo s fd ⟨us, []⟩ (ps.zip (us ++ ds))
/-- every parameter is given -/
theorem Binds.all {K : PySem.W.Frag} {fd : FuncData} {ps : List Str} (h : ∀ us : List Value, us.length = ps.length → bindArgs fd ⟨us, []⟩ = pure (ps.zip us)) : Binds K fd ps [] := fun s us _ hl => by
  rw [List.append_nil] at hl ⊢
  exact .of_eq (h us hl)

/-- an exception of a callee reaches what this body wants of exceptions -/
def Passes (CX : CXT) (X : Cx) (E : XK) : Prop := ∀ (pins : List (Addr × Obj)) (σ : St) (H : Hp) (s : Shared) (e : Value) (s' : Shared), Inv X pins σ H s → CX X.stack H s E e s' → X.xe e s'

section
variable {X : Cx} {CX : CXT} {k : Nat} {f C : Addr} {fd : FuncData} {ps : List Str} {sp : Sp} {dvs : List V} {ds : List Value} {E : XK} {x m : Str} {p pos apos : Pos} {e o : Expr} {es : List Expr} {ta : TE} {t : TA}

/-- the callee runs -/
theorem run_fn {pins : List (Addr × Obj)} {σ : St} {H : Hp} {s : Shared} {Q : VK} {us : List Value} {vs : List V} (F : FnOk X.prog X.w X.K X.mg X.base CX k f fd ps sp) (hr : Room k X.A) (hb : Binds X.K fd ps ds) (hd : Vals dvs ds) (hx : Passes CX X E)
    (I : Inv X pins σ H s) (r : Vals vs us) (h : sp (vs ++ dvs) H Q E) : wpAny (model X.prog X.w) X.A (call (.ref f) us) (EP X pins σ Q) X.xe s := by
  have r2 : Vals (vs ++ dvs) (us ++ ds) := r.append hd
  have hl : (us ++ ds).length = ps.length := by rw [← r2.length]; exact F.len _ _ _ _ h
  refine wpAny_call (codeAny_mono (F.run X.A X.stack s H ⟨us, []⟩ (us ++ ds) (vs ++ dvs) Q E hr I.env0 (hb s us I.kIn hl) r2 h) fun r s' hq => ?_)
  cases r with
  | error e => exact hx pins σ H s e s' I hq
  | ok fl =>
    cases fl with
    | ret u => exact I.after hq
    | next => exact False.elim hq
    | brk => exact False.elim hq
    | cont => exact False.elim hq

theorem pe_call (F : FnOk X.prog X.w X.K X.mg X.base CX k f fd ps sp) (hr : Room k X.A) (hg : Gl X x) (hm : X.mg x = some (.ref f)) (hk : PySem.W.keepIn X.K (.ref f) = true) (hb : Binds X.K fd ps ds) (hd : Vals dvs ds) (hx : Passes CX X E)
    (ha : PA X (e :: es) t) (hdb : (x == ("__debug__" : Str)) = false := by decide) (he : starEach (e :: es) X.env = (false, eval e X.env) :: starEach es X.env := by rfl) (hpl : (backTo pos (starEach es X.env)).any (·.1) = false := by rfl) :
    PE X (.Call (.Name x p) (e :: es) [] pos) (tCall sp dvs E t) := by
  intro pins s σ H Q I h
  refine wpAny_Call_Name_kw (ld_glob I hg hm ?_ hdb)
  refine PySem.W.callWith_K (h₀ := X.base) I.ok.mod.kin hk (thn (ha pos pins s σ H _ I h) fun us s1 ⟨vs, H1, I1, r, q⟩ => ⟨I1.kIn, ?_⟩) he hpl
  exact run_fn F hr hb hd hx I1 r q
theorem pe_call0 (F : FnOk X.prog X.w X.K X.mg X.base CX k f fd ps sp) (hr : Room k X.A) (hg : Gl X x) (hm : X.mg x = some (.ref f)) (hk : PySem.W.keepIn X.K (.ref f) = true) (hb : Binds X.K fd ps ds) (hd : Vals dvs ds) (hx : Passes CX X E)
    (hdb : (x == ("__debug__" : Str)) = false := by decide) : PE X (.Call (.Name x p) [] [] pos) (tCall sp dvs E tNil) := by
  intro pins s σ H Q I h
  refine wpAny_Call_Name_kw (ld_glob I hg hm ?_ hdb)
  exact PySem.W.callWith_K0 I.kIn hk (run_fn (us := []) F hr hb hd hx I .nil h)

/-- o.m(e, ..) -/
theorem pe_meth {pl : Sem Bool} (he : PE X o ta) (c : Cls X.K C) (hm : Meth X.K C m f) (F : FnOk X.prog X.w X.K X.mg X.base CX k f fd ps sp) (hr : Room k X.A) (hb : Binds X.K fd ps ds) (hd : Vals dvs ds) (hx : Passes CX X E) (ha : PA X (e :: es) t)
    (hst : starEach (e :: es) X.env = (false, eval e X.env) :: starEach es X.env := by rfl) (hpl : (backTo pos (starEach es X.env)).any (·.1) = false := by rfl)
    (ht : eval (.Call (.Attribute o m apos) (e :: es) [] pos) X.env = (do
      let ov ← eval o X.env
      standAt apos.atName
      let (f, first) ← holding [ov] (getMethod ov m pl)
      callWith pos f first (backTo pos (starEach (e :: es) X.env)) (backToKw pos (keywordEach [] X.env))) := by rfl) :
    PE X (.Call (.Attribute o m apos) (e :: es) [] pos) (tMeth C m sp dvs E ta t) := by
  intro pins s σ H Q I h
  refine PySem.W.methodCall_KW (pl := pl) (thn (he pins s σ H _ I h) fun u s1 ⟨x, H1, I1, rx, a, dx, fs, ex, ea, l, q⟩ => ?_) ht
  subst ex
  obtain rfl : u = Value.ref a := rx
  refine getmeth_ok I1 ea c hm l ?_
  refine PySem.W.callWith_K (first := [.ref a]) (h₀ := X.base) I.ok.mod.kin hm.kp (thn (ha pos pins s1 σ H1 _ I1 q) fun us s2 ⟨vs, H2, I2, r, q2⟩ => ⟨I2.kIn, ?_⟩) hst hpl
  exact run_fn (us := .ref a :: us) (vs := .ref a :: vs) F hr hb hd hx I2 (.cons rfl r) q2
/-- o.m() -/
theorem pe_meth0 {pl : Sem Bool} (he : PE X o ta) (c : Cls X.K C) (hm : Meth X.K C m f) (F : FnOk X.prog X.w X.K X.mg X.base CX k f fd ps sp) (hr : Room k X.A) (hb : Binds X.K fd ps ds) (hd : Vals dvs ds) (hx : Passes CX X E)
    (ht : eval (.Call (.Attribute o m apos) [] [] pos) X.env = (do
      let ov ← eval o X.env
      standAt apos.atName
      let (f, first) ← holding [ov] (getMethod ov m pl)
      callWith pos f first (backTo pos (starEach [] X.env)) (backToKw pos (keywordEach [] X.env))) := by rfl) :
    PE X (.Call (.Attribute o m apos) [] [] pos) (tMeth C m sp dvs E ta tNil) := by
  intro pins s σ H Q I h
  refine PySem.W.methodCall_KW (pl := pl) (thn (he pins s σ H _ I h) fun u s1 ⟨x, H1, I1, rx, a, dx, fs, ex, ea, l, q⟩ => ?_) ht
  subst ex
  obtain rfl : u = Value.ref a := rx
  refine getmeth_ok I1 ea c hm l ?_
  exact PySem.W.callWith_K0 (first := [.ref a]) I1.kIn hm.kp (run_fn (us := [.ref a]) (vs := [.ref a]) F hr hb hd hx I1 (.cons rfl .nil) q)

/-- what a class must have to be made -/
structure Mk (K : PySem.W.Frag) (C f : Addr) : Prop where
  makes : PySem.W.makesIn K C = true
  init : PySem.W.findIn K (.ref C) "__init__" = some (some (.ref f))
  fn : PySem.W.isFn K (.ref f) = true
  kp : PySem.W.keepIn K (.ref C) = true

theorem run_make {pins : List (Addr × Obj)} {σ : St} {H : Hp} {s : Shared} {Q : VK} {us : List Value} {vs : List V} (M : Mk X.K C f) (F : FnOk X.prog X.w X.K X.mg X.base CX k f fd ps sp) (hr : Room (k + 1) X.A) (hb : Binds X.K fd ps ds) (hd : Vals dvs ds)
    (hx : Passes CX X E) (I : Inv X pins σ H s) (r : Vals vs us)
    (h : ∀ x dx, H x = none → H dx = none → dx ≠ x → sp (.ref x :: (vs ++ dvs)) (upd (upd H dx (.own x)) x (.ins C dx [])) (fun v H2 => v = .non ∧ Q (.ref x) H2) E) :
    wpAny (model X.prog X.w) X.A (call (.ref C) us) (EP X pins σ Q) X.xe s := by
  have hq := h (s.heap.objs.size + 1) s.heap.objs.size (I.hok.fresh (Nat.le_succ _)) (I.hok.fresh (Nat.le_refl _)) (Nat.ne_of_lt (Nat.lt_succ_self _))
  have I2 := Inv.made (C := C) I
  have r2 : Vals (V.ref (s.heap.objs.size + 1) :: (vs ++ dvs)) (Value.ref (s.heap.objs.size + 1) :: (us ++ ds)) := .cons rfl (r.append hd)
  have hl : (Value.ref (s.heap.objs.size + 1) :: us ++ ds).length = ps.length := by
    have e := r2.length
    rw [F.len _ _ _ _ hq] at e
    exact e.symm
  refine wpAny_call (make_map (f := f) I.kIn M.makes M.init (beq_iff_eq.mp M.fn) (codeAny_mono (F.run _ X.stack _ _ ⟨Value.ref (s.heap.objs.size + 1) :: us, []⟩ (Value.ref (s.heap.objs.size + 1) :: (us ++ ds)) _ _ E (hr.make C us [])
    (I2.env0.make C us []) (hb _ (Value.ref (s.heap.objs.size + 1) :: us) I2.kIn hl) r2 hq) fun r s' hq' => ?_))
  cases r with
  | error e => exact hx pins σ _ _ e s' I2 hq'
  | ok fl =>
    cases fl with
    | ret u =>
      obtain ⟨v, H', I3, rv, ev, q3⟩ := I2.after hq'
      subst ev
      exact ⟨rv, ⟨V.ref (s.heap.objs.size + 1), H', I3, rfl, q3⟩⟩
    | next => exact False.elim hq'
    | brk => exact False.elim hq'
    | cont => exact False.elim hq'
theorem pe_make (M : Mk X.K C f) (F : FnOk X.prog X.w X.K X.mg X.base CX k f fd ps sp) (hr : Room (k + 1) X.A) (hg : Gl X x) (hm : X.mg x = some (.ref C)) (hb : Binds X.K fd ps ds) (hd : Vals dvs ds) (hx : Passes CX X E)
    (ha : PA X (e :: es) t) (hdb : (x == ("__debug__" : Str)) = false := by decide) (he : starEach (e :: es) X.env = (false, eval e X.env) :: starEach es X.env := by rfl) (hpl : (backTo pos (starEach es X.env)).any (·.1) = false := by rfl) :
    PE X (.Call (.Name x p) (e :: es) [] pos) (tMake C sp dvs E t) := by
  intro pins s σ H Q I h
  refine wpAny_Call_Name_kw (ld_glob I hg hm ?_ hdb)
  refine PySem.W.callWith_K (h₀ := X.base) I.ok.mod.kin M.kp (thn (ha pos pins s σ H _ I h) fun us s1 ⟨vs, H1, I1, r, q⟩ => ⟨I1.kIn, ?_⟩) he hpl
  exact run_make M F hr hb hd hx I1 r q
theorem pe_make0 (M : Mk X.K C f) (F : FnOk X.prog X.w X.K X.mg X.base CX k f fd ps sp) (hr : Room (k + 1) X.A) (hg : Gl X x) (hm : X.mg x = some (.ref C)) (hb : Binds X.K fd ps ds) (hd : Vals dvs ds) (hx : Passes CX X E)
    (hdb : (x == ("__debug__" : Str)) = false := by decide) : PE X (.Call (.Name x p) [] [] pos) (tMake C sp dvs E tNil) := by
  intro pins s σ H Q I h
  refine wpAny_Call_Name_kw (ld_glob I hg hm ?_ hdb)
  exact PySem.W.callWith_K0 I.kIn M.kp (run_make (us := []) M F hr hb hd hx I .nil h)
end

/-! ### keywords -/
/-- the values of the keywords, from the left -/
def PK (X : Cx) (kws : List Keyword) (t : TA) : Prop :=
  ∀ (pos : Pos) (pins : List (Addr × Obj)) (s : Shared) (σ : St) (H : Hp) (Q : List V → Hp → Prop), Inv X pins σ H s → t σ H Q → wpAny (model X.prog X.w) X.A (evalAll ((backToKw pos (keywordEach kws X.env)).map (·.2))) (AP X pins σ Q) X.xe s
section
variable {X : Cx} {CX : CXT} {k : Nat} {f C : Addr} {fd : FuncData} {ps ks : List Str} {sp : Sp} {E : XK} {x m : Str} {p pos apos kpos : Pos} {e o : Expr} {es : List Expr} {kws : List Keyword} {te ta : TE} {t tk : TA} {nm : Option Str}
theorem pk_nil : PK X [] tNil := fun _ _ _ _ H Q I h => wpAny_evalAll_nil ⟨[], H, I, .nil, h⟩
theorem pk_cons (ha : PE X e te) (hr : PK X kws t) : PK X (⟨nm, e, kpos⟩ :: kws) (tCons te t) := by
  intro pos pins s σ H Q I h
  show wpAny _ _ (evalAll ((do let v ← eval e X.env; standAt pos; pure v) :: (backToKw pos (keywordEach kws X.env)).map (·.2))) _ _ s
  refine wpAny_evalAll_cons (wpAny_bind (thn (ha pins s σ H _ I h) fun u s1 ⟨x, H1, I1, r1, q1⟩ => wpAny_bind (wpAny_standAt (wpAny_pure ?_))))
  exact thn (hr pos pins s1 σ H1 _ I1 q1) fun us s2 ⟨xs, H2, I2, r2, q2⟩ => ⟨x :: xs, H2, I2, .cons r1 r2, q2⟩

/-- how a call with keywords binds: g puts the positional values us and the keywords' values ws (names ks) in the parameters' order, defaults among them -/
structure KBinds (K : PySem.W.Frag) (fd : FuncData) (ps ks : List Str) (g : List Value → List Value → List Value) (gV : List V → List V → List V) : Prop where
  to : ∀ (s : Shared) (us ws : List Value), K.In s.heap → (g us ws).length = ps.length → BindsTo s fd ⟨us, ks.zip ws⟩ (ps.zip (g us ws))
  rel : ∀ {vs : List V} {us : List Value} {zs : List V} {ws : List Value}, Vals vs us → Vals zs ws → Vals (gV vs zs) (g us ws)
def tCallK (sp : Sp) (gV : List V → List V → List V) (E : XK) (t tk : TA) : TE := fun σ H Q => t σ H fun vs H1 => tk σ H1 fun zs H2 => sp (gV vs zs) H2 Q E
variable {g : List Value → List Value → List Value} {gV : List V → List V → List V}
theorem run_fnk {pins : List (Addr × Obj)} {σ : St} {H : Hp} {s : Shared} {Q : VK} {us ws : List Value} {vs zs : List V} (F : FnOk X.prog X.w X.K X.mg X.base CX k f fd ps sp) (hr : Room k X.A) (hb : KBinds X.K fd ps ks g gV) (hx : Passes CX X E)
    (I : Inv X pins σ H s) (r : Vals vs us) (rz : Vals zs ws) (h : sp (gV vs zs) H Q E) : wpAny (model X.prog X.w) X.A (call (.ref f) us (ks.zip ws)) (EP X pins σ Q) X.xe s := by
  have r2 := hb.rel r rz
  have hl : (g us ws).length = ps.length := by rw [← r2.length]; exact F.len _ _ _ _ h
  refine wpAny_call (codeAny_mono (F.run X.A X.stack s H ⟨us, ks.zip ws⟩ (g us ws) (gV vs zs) Q E hr I.env0 (hb.to s us ws I.kIn hl) r2 h) fun r s' hq => ?_)
  cases r with
  | error e => exact hx pins σ H s e s' I hq
  | ok fl =>
    cases fl with
    | ret u => exact I.after hq
    | next => exact False.elim hq
    | brk => exact False.elim hq
    | cont => exact False.elim hq
/-- f(e, .., k = v, ..) -/
theorem pe_callK (F : FnOk X.prog X.w X.K X.mg X.base CX k f fd ps sp) (hr : Room k X.A) (hg : Gl X x) (hm : X.mg x = some (.ref f)) (hk : PySem.W.keepIn X.K (.ref f) = true) (hb : KBinds X.K fd ps ks g gV) (hx : Passes CX X E)
    (ha : PA X (e :: es) t) (hkw : PK X kws tk) (hall : (backToKw pos (keywordEach kws X.env)).all (·.1.isSome) = true := by rfl) (hks : (backToKw pos (keywordEach kws X.env)).filterMap (·.1) = ks := by rfl)
    (hdb : (x == ("__debug__" : Str)) = false := by decide) (he : starEach (e :: es) X.env = (false, eval e X.env) :: starEach es X.env := by rfl)
    (hpl : ((backTo pos (starEach (e :: es) X.env)).any (·.1) || (backToKw pos (keywordEach kws X.env)).any (·.1.isNone)) = false := by rfl) :
    PE X (.Call (.Name x p) (e :: es) kws pos) (tCallK sp gV E t tk) := by
  intro pins s σ H Q I h
  refine wpAny_Call_Name_kw (ld_glob I hg hm ?_ hdb)
  refine PySem.W.callWith_KW (h₀ := X.base) I.ok.mod.kin hk hall (thn (ha pos pins s σ H _ I h) fun us s1 ⟨vs, H1, I1, r, q⟩ => ?_) hpl he
  refine thn (hkw pos pins s1 σ H1 _ I1 q) fun ws s2 ⟨zs, H2, I2, rz, q2⟩ => ⟨I2.kIn, ?_⟩
  rw [hks]
  exact run_fnk F hr hb hx I2 r rz q2
end

/-! ### a def's body keeps its promise -/
/-- names: the parameters first -/
structure FnScope (N P : List Str) (sc : Scope) : Prop where
  kind : sc.kind = .function
  co : sc.isCoroutine = false
  gen : sc.isGenerator = false
  nd : N.Nodup
  pre : N.take P.length = P
  par : ∀ x ∈ P, sc.names.lookup x = some .local ∨ sc.names.lookup x = some .cell
  nofree : ∀ y ∈ sc.names, y.2 ≠ .free

theorem bindL_out {kindOf : Str → Option NameKind} {x : Str} : ∀ {binds : List (Str × Value)} {m : Str → Option Value}, (∀ v, (x, v) ∉ binds) → bindL kindOf binds m x = m x
  | [], _, _ => rfl
  | (n, v) :: r, m, h => by
    unfold bindL
    rw [bindL_out fun w hw => h w (List.mem_cons_of_mem _ hw)]
    split
    · have : x ≠ n := by rintro rfl; exact h v List.mem_cons_self
      simp [this]
    · rfl
theorem bindC_out {kindOf : Str → Option NameKind} {x : Str} : ∀ {binds : List (Str × Value)} {m : Str → Option Value}, (∀ v, (x, v) ∉ binds) → bindC kindOf binds m x = m x
  | [], _, _ => rfl
  | (n, v) :: r, m, h => by
    unfold bindC
    rw [bindC_out fun w hw => h w (List.mem_cons_of_mem _ hw)]
    split
    · rfl
    · have : x ≠ n := by rintro rfl; exact h v List.mem_cons_self
      simp [this]
theorem bindL_get {kindOf : Str → Option NameKind} {x : Str} {v : Value} : ∀ {P : List Str} {vs : List Value} {i : Nat} {m : Str → Option Value}, P.Nodup → P[i]? = some x → vs[i]? = some v → kindOf x = some .local →
    bindL kindOf (P.zip vs) m x = some v
  | [], _, _, _, _, h, _, _ => by simp at h
  | _ :: _, [], _, _, _, _, h, _ => by simp at h
  | p :: P, w :: vs, 0, m, nd, h1, h2, hk => by
    simp at h1 h2; subst h1; subst h2
    show bindL kindOf ((p, w) :: P.zip vs) m p = _
    unfold bindL
    rw [bindL_out fun v hv => (List.nodup_cons.mp nd).1 (List.of_mem_zip hv).1, if_pos hk]
    simp
  | p :: P, w :: vs, i + 1, m, nd, h1, h2, hk => by
    show bindL kindOf ((p, w) :: P.zip vs) m x = _
    unfold bindL
    exact bindL_get (i := i) (List.nodup_cons.mp nd).2 (by simpa using h1) (by simpa using h2) hk
theorem bindC_get {kindOf : Str → Option NameKind} {x : Str} {v : Value} : ∀ {P : List Str} {vs : List Value} {i : Nat} {m : Str → Option Value}, P.Nodup → P[i]? = some x → vs[i]? = some v → kindOf x ≠ some .local →
    bindC kindOf (P.zip vs) m x = some v
  | [], _, _, _, _, h, _, _ => by simp at h
  | _ :: _, [], _, _, _, _, h, _ => by simp at h
  | p :: P, w :: vs, 0, m, nd, h1, h2, hk => by
    simp at h1 h2; subst h1; subst h2
    show bindC kindOf ((p, w) :: P.zip vs) m p = _
    unfold bindC
    rw [bindC_out fun v hv => (List.nodup_cons.mp nd).1 (List.of_mem_zip hv).1, if_neg hk]
    simp
  | p :: P, w :: vs, i + 1, m, nd, h1, h2, hk => by
    show bindC kindOf ((p, w) :: P.zip vs) m x = _
    unfold bindC
    exact bindC_get (i := i) (List.nodup_cons.mp nd).2 (by simpa using h1) (by simpa using h2) hk

/-- the names' values at the entry -/
def start (N : List Str) (vs : List V) : St := vs.map some ++ List.replicate (N.length - vs.length) none

/-- the context of a def's body, at its entry; an exception leaves the frame, then lies as CX says -/
def cxOf (CX : CXT) (P : Program) (w : World) (K : PySem.W.Frag) (mg : Str → Option Value) (base : Heap) (N : List Str) (qual : Str) (scope : Scope) (f : Addr) (cd : Value) (A : Around) (outer : List Env) (s : Shared) (H : Hp) (E : XK) : Cx where
  prog := P
  w := w
  K := K
  mg := mg
  base := base
  A := A.deeper (envOfC qual scope s.heap.objs.size f cd)
  N := N
  s₀ := s
  H₀ := H
  env := envOfC qual scope s.heap.objs.size f cd
  outer := outer
  stack := envOfC qual scope s.heap.objs.size f cd :: outer
  ex := []
  calm := true
  fn := fun _ => true
  pn := []
  xe := fun e s' => wpAny (model P w) (A.deeper (envOfC qual scope s.heap.objs.size f cd)) (leaving (envOfC qual scope s.heap.objs.size f cd) e) (fun _ s'' => CX outer H s E e s'') (fun e' s'' => CX outer H s E e' s'') s'

theorem cell_has {sc : Scope} {n : Nat} {x : Str} (h : sc.names.lookup x = some .cell) : ∃ c, (cellsFrom n sc.names []).lookup x = some c := by
  have q := PySem.W.cellsFrom_some sc.names n [] (.inl h)
  exact Option.isSome_iff_exists.mp q

theorem inv_start {CX : CXT} {P : Program} {w : World} {K : PySem.W.Frag} {mg : Str → Option Value} {base : Heap} {N ps : List Str} {qual : Str} {scope : Scope} {f : Addr} {cd : Value} {A : Around} {outer : List Env} {s s1 : Shared} {H : Hp} {E : XK} {us : List Value} {vs : List V}
    (S : FnScope N ps scope) (hd : A.handled = none) (e0 : Env0 P w K mg base A outer s H) (hl : vs.length = ps.length) (r : Vals vs us)
    (x : InCallC s s.heap.objs.size (bindL (envOfC qual scope s.heap.objs.size f cd).kindOf (ps.zip us) fun _ => none) (cellsFrom (s.heap.objs.size + 1) scope.names []) (bindC (envOfC qual scope s.heap.objs.size f cd).kindOf (ps.zip us) fun _ => none) s1) :
    Inv (cxOf CX P w K mg base N qual scope f cd A outer s H E) [] (start N vs) H s1 := by
  have hpl : ps.length ≤ N.length := by have := congrArg List.length S.pre; rw [List.length_take] at this; omega
  obtain ⟨h1, tk, rfl, hk⟩ := x.done
  have noA : ∀ b : Addr, b ∉ (cxOf CX P w K mg base N qual scope f cd A outer s H E).ex := fun b z => absurd (show b ∈ ([] : List Addr) from z) (by simp)
  refine ⟨⟨e0.mod, S.kind, rfl, rfl, Nat.le_refl _, fun y z c h1 h2 => ?_, fun y hy => ?_, fun y c _ h => ?_, fun _ => hd, Around.frames_deeper e0.frames, .inr ⟨rfl, rfl⟩, fun b z => absurd z (noA b), e0.bs, e0.bsz, fun b _ _ => noA b, fun b z => absurd z (noA b), e0.funs, e0.frf⟩,
    rfl, e0.bare, Un.kept hk, ⟨_, x.toInCall.ns, fun i y v h1 h2 h3 => ?_⟩, fun y c h => ⟨_, x.cell y c h⟩, e0.hok.fresh (Nat.le_refl _), fun y c h => ?_, fun p hp => absurd (show p ∈ ([] : List (Addr × Obj)) from hp) (by simp), e0.hok.kept hk, ?_⟩
  · exact name_of_addr x.apart (PySem.mem_of_lookup h1) (PySem.mem_of_lookup h2)
  · have hy : scope.names.lookup y = some .cell ∨ scope.names.lookup y = some .free := hy
    rcases hy with hy | hy
    · exact cell_has hy
    · exact absurd rfl (S.nofree _ (PySem.mem_of_lookup hy))
  · exact Nat.le_of_lt (x.above y c (PySem.mem_of_lookup h))
  · have hi : i < vs.length := by
      unfold start at h2
      by_cases hi : i < vs.length
      · exact hi
      · rw [List.getElem?_append_right (by simpa using hi)] at h2
        rw [List.getElem?_replicate] at h2
        split at h2 <;> cases h2
    have ha : vs[i]? = some v := by
      unfold start at h2
      rw [List.getElem?_append_left (by simpa using hi), List.getElem?_map] at h2
      cases e : vs[i]? with
      | none => rw [e] at h2; cases h2
      | some a => rw [e] at h2; cases h2; rfl
    obtain ⟨u, hu, rv⟩ := r.get ha
    have hp : ps[i]? = some y := by
      rw [← S.pre, List.getElem?_take_of_lt (by omega)]; exact h1
    have ndP : ps.Nodup := by rw [← S.pre]; exact S.nd.sublist (List.take_sublist _ _)
    refine ⟨u, rv, ?_⟩
    rcases S.par y (List.mem_of_getElem? hp) with k | k
    · exact .inl ⟨k, bindL_get ndP hp hu k⟩
    · obtain ⟨c, e⟩ := cell_has (n := s.heap.objs.size + 1) k
      refine .inr ⟨.inl k, c, e, ?_⟩
      have q := x.cell y c e
      rw [bindC_get ndP hp hu (by show scope.names.lookup y ≠ _; rw [k]; decide)] at q
      exact q
  · exact e0.hok.fresh (Nat.le_of_lt (x.above y c (PySem.mem_of_lookup h)))
  · unfold start
    show _ = N.length
    rw [List.length_append, List.length_map, List.length_replicate]
    omega

/-- THE RULE: a def (or a method) of the text, by its body. The body's reading t is chosen for each entry; it is run at the parameters' values -/
theorem fn_of {CX : CXT} {P : Program} {w : World} {K : PySem.W.Frag} {mg : Str → Option Value} {base : Heap} {k : Nat} {f : Addr} {name qual : Str} {params : Arguments} {body : List Stmt} {scope : Scope} {dV kV doc pm cdv ct oc : Value} {an od : Option Addr}
    {osl : Array (Option Value)} {N ps : List Str} {sp : Sp} (lk : K.lookup f = some ⟨oc, od, .func (PySem.W.fnOf name qual params body scope dV kV doc pm an cdv ct), osl⟩) (hcd : PySem.W.codeIn K cdv qual = true) (S : FnScope N ps scope)
    (len : ∀ vs H Q E, sp vs H Q E → vs.length = ps.length)
    (hbody : ∀ (A : Around) (outer : List Env) (s : Shared) (H : Hp) (vs : List V) (Q : VK) (E : XK), Room k (A.deeper (envOfC qual scope s.heap.objs.size f cdv)) → sp vs H Q E →
      ∃ t, PSs (cxOf CX P w K mg base N qual scope f cdv A outer s H E) body t ∧ t { nx := fun _ H' => Q .non H', rt := Q } (start N vs) H) :
    FnOk P w K mg base CX (k + 1) f (PySem.W.fnOf name qual params body scope dV kV doc pm an cdv ct) ps sp := by
  refine ⟨len, fun A outer s H args us vs Q E hr e0 hb r hsp => ?_⟩
  have hl := len _ _ _ _ hsp
  have KX : K.In s.heap := e0.mod.kin.keeps fun b o e => (e0.bs b o e).1
  have lim : s.heap.NoLimit := e0.mod.nolimit.keeps fun b o e => (e0.bs b o e).1
  have hkind : ∀ y ∈ ps.zip us, scope.names.lookup y.1 = some .local ∨ (scope.names.lookup y.1 = some .cell ∧ ((cellsFrom (s.heap.objs.size + 1) scope.names []).lookup y.1).isSome = true) := fun ⟨n, v⟩ hy => by
    rcases S.par n (List.of_mem_zip hy).1 with q | q
    · exact .inl q
    · exact .inr ⟨q, PySem.W.cellsFrom_some _ _ _ (.inl q)⟩
  refine codeAny_call_function hr.depth (KX _ _ lk) rfl S.co S.gen rfl (PySem.W.codeRec_of KX hcd) (hb _ _ _ _ ?_)
  refine wpAny_newFunctionEnv_cells S.kind hkind fun env he s1 x => ?_
  subst he
  refine ⟨lim.keeps x.toInCall.keep, codeAny_func ?_⟩
  obtain ⟨t, ht, hq⟩ := hbody A outer s H vs Q E (hr.deeper _) hsp
  have I : Inv (cxOf CX P w K mg base N qual scope f cdv A outer s H E) [] (start N vs) H s1 := inv_start S hr.hd e0 hl r x
  refine wpAny_mono (ht [] s1 (start N vs) H _ I hq) (fun fl s' hs => ?_) fun e s' hs => hs
  have fin : ∀ {σ' : St} {H' : Hp} {v : V} {u : Value}, Inv (cxOf CX P w K mg base N qual scope f cdv A outer s H E) [] σ' H' s' → RelV v u → Q v H' → CE outer P w H s Q u s' :=
    fun {σ' H' v u} J rv q => ⟨v, H', J.os, J.bare, J.base, J.hok, rv, q⟩
  cases fl with
  | ret u =>
    obtain ⟨v, σ', H', J, rv, q⟩ := hs
    exact fin J rv q
  | next =>
    obtain ⟨σ', H', J, q⟩ := hs
    exact fin (v := V.non) (u := Value.none) J rfl q
  | brk =>
    obtain ⟨_, _, _, q⟩ := hs
    exact False.elim q
  | cont =>
    obtain ⟨_, _, _, q⟩ := hs
    exact False.elim q
end L2

namespace L2
open PySem PySem.Spec PyProof.Rows
section
variable {X : Cx} {x : Str} {p pos : Pos} {e : Expr} {es : List Expr} {t : TA} {id T : String} {r : List V → Hp → VK → Prop}

def tCB (r : List V → Hp → VK → Prop) (t : TA) : TE := fun σ H Q => t σ H fun vs H1 => r vs H1 Q
/-- f(e, ..), f a built-in function -/
theorem pe_callB (hc : CallR X (.builtin id) r) (hg : Gl X x) (hm : X.mg x = none) (hv : bootBuiltins x = some (.builtin id)) (ha : PA X (e :: es) t) (hn : x ≠ "__name__" := by decide) (hdb : (x == ("__debug__" : Str)) = false := by decide)
    (he : starEach (e :: es) X.env = (false, eval e X.env) :: starEach es X.env := by rfl) (hpl : (backTo pos (starEach es X.env)).any (·.1) = false := by rfl) : PE X (.Call (.Name x p) (e :: es) [] pos) (tCB r t) := by
  intro pins s σ H Q I h
  refine wpAny_Call_Name_kw (ld_blt I hg hm hv ?_ hn hdb)
  exact PyProof.Rows.callWith_builtin1 (thn (ha pos pins s σ H _ I h) fun us s1 ⟨vs, H1, I1, r1, q1⟩ => hc pins s1 σ H1 vs us Q I1 r1 q1) he hpl
/-- T(e, ..), T a built-in type -/
theorem pe_callTy (hc : CallR X (.type T) r) (hg : Gl X x) (hm : X.mg x = none) (hv : bootBuiltins x = some (.type T)) (ha : PA X (e :: es) t) (hn : x ≠ "__name__" := by decide) (hdb : (x == ("__debug__" : Str)) = false := by decide)
    (he : starEach (e :: es) X.env = (false, eval e X.env) :: starEach es X.env := by rfl) (hpl : (backTo pos (starEach es X.env)).any (·.1) = false := by rfl) : PE X (.Call (.Name x p) (e :: es) [] pos) (tCB r t) := by
  intro pins s σ H Q I h
  refine wpAny_Call_Name_kw (ld_blt I hg hm hv ?_ hn hdb)
  exact PyProof.Rows.callWith_type1 (thn (ha pos pins s σ H _ I h) fun us s1 ⟨vs, H1, I1, r1, q1⟩ => hc pins s1 σ H1 vs us Q I1 r1 q1) he hpl
/-- T() -/
theorem pe_callTy0 (hc : CallR X (.type T) r) (hg : Gl X x) (hm : X.mg x = none) (hv : bootBuiltins x = some (.type T)) (hn : x ≠ "__name__" := by decide) (hdb : (x == ("__debug__" : Str)) = false := by decide) :
    PE X (.Call (.Name x p) [] [] pos) (tCB r tNil) := by
  intro pins s σ H Q I h
  refine wpAny_Call_Name_kw (ld_blt I hg hm hv ?_ hn hdb)
  exact PyProof.Rows.callWith_type0 (hc pins s σ H [] [] Q I .nil h)
end
end L2

namespace HT
open PySem PyProof.Rows

/-- t < u of tuples of ints -/
def lexLt : List Int → List Int → Bool
  | [], [] => false
  | [], _ :: _ => true
  | _ :: _, [] => false
  | x :: xs, y :: ys => if x = y then lexLt xs ys else decide (x < y)
theorem lexLt_cons (x y : Int) (xs ys : List Int) : lexLt (x :: xs) (y :: ys) = if x = y then lexLt xs ys else decide (x < y) := rfl
theorem lexLt_nil_nil : lexLt [] [] = false := rfl
theorem lexLt_nil_cons (y : Int) (ys : List Int) : lexLt [] (y :: ys) = true := rfl
theorem lexLt_cons_nil (x : Int) (xs : List Int) : lexLt (x :: xs) [] = false := rfl

theorem eqAt_int (A : Around) (s : Shared) (a : Int) (t : Tok) (c : Int) (u : Tok) : ∃ e, SeqAt.EqAt A s (.int a t) (.int c u) e ∧ (e = true ↔ a = c) :=
  ⟨(a == c), SeqAt.EqAt.int_int a t c u, by simp⟩
theorem rcLt_int (A : Around) (s : Shared) (a : Int) (t : Tok) (c : Int) (u : Tok) (prog : Program) (w : World) (E : Value → Shared → Prop) (Q : Value → Shared → Prop) (h : Q (.bool (decide (a < c))) s) :
    wpAny (model prog w) A (richCompare .Lt (.int a t) (.int c u)) Q E s :=
  (PyProof.Rows.lt_int h : wpAny (model prog w) A (compareOp .Lt (.int a t) (.int c u)) Q E s)

section
open PySem.SeqAt
open PySem.AutoSeq1 (wpAny_loadPart')
open PySem.MeetsSeq PySem.MeetsSeq2 PySem.MeetsSeq3

theorem tuple_lt_ints (l b : Addr) (items items2 : Array Value) (n n2 : Nat) (dd dd2 : Option Addr) (sl sl2 : Array (Option Value)) (ns ms : List Int) (hi : IntsAre items.toList ns) (hj : IntsAre items2.toList ms) :
    Meets (Builtin.«tuple.__lt__» ⟨[.ref l, .ref b], []⟩)
      (fun _ R s => s.heap.get? l = some { cls := .type "tuple", dict := dd, data := .seq items n, slots := sl } ∧ s.heap.get? b = some { cls := .type "tuple", dict := dd2, data := .seq items2 n2, slots := sl2 } ∧
        R (.ok (.ret (.bool (lexLt ns ms)))) s) :=
  .of_wp fun prog w A R s h => by
    obtain ⟨hp, g, d, tk, os⟩ := s; obtain ⟨hl, hb, h⟩ := h
    have f2 := AutoSeq1.sub_tuple_tuple
    have z1 : items.size = ns.length := by rw [← hi.length]; simp
    have z2 : items2.size = ms.length := by rw [← hj.length]; simp
    wp_walk using wpAny_loadPart' hl, wpAny_loadPart' hb, wpAny_forIn_list _ (fun rest b s' => b.1 = none ∧ s' = ⟨hp, g, d, tk, os⟩ ∧ ∃ (vs ws : List Value) (ns' ms' : List Int), rest = vs.zip ws ∧
      IntsAre vs ns' ∧ IntsAre ws ms' ∧ ns'.length + items2.size = ms'.length + items.size ∧ R (.ok (.ret (.bool (lexLt ns' ms')))) ⟨hp, g, d, tk, os⟩) _
    case turn =>
      rintro ⟨y, x⟩ rest b s' ⟨hb', rfl, vs, ws, ns', ms', hz, hvi, hwi, hlen, hR⟩
      cases hvi with
      | nil => rw [List.zip_nil_left] at hz; cases hz
      | cons a t hvi' =>
        cases hwi with
        | nil => rw [List.zip_nil_right] at hz; cases hz
        | cons c u hwi' =>
          rw [List.zip_cons_cons] at hz
          injection hz with hyx hrest
          injection hyx with hy hx
          subst hy hx
          rw [lexLt_cons] at hR
          simp only [List.length_cons] at hlen
          obtain ⟨e, he, hiff⟩ := eqAt_int A.in1 ⟨hp, g, d, tk, os⟩ a t c u
          refine wpAny_bind (he prog w _ _ ?_)
          cases e with
          | true =>
            rw [if_pos (hiff.mp rfl)] at hR
            wp_walk
            exact ⟨rfl, rfl, _, _, _, _, hrest, hvi', hwi', by omega, hR⟩
          | false =>
            rw [if_neg (fun q => absurd (hiff.mpr q) Bool.false_ne_true)] at hR
            have hri := rcLt_int A.in1 ⟨hp, g, d, tk, os⟩ a t c u prog w
            wp_walk using hri
            exact ⟨_, rfl, by simpa using hR⟩
    case fin =>
      rintro ⟨b1, b2⟩ s' ⟨hb', rfl, vs, ws, ns', ms', hz, hvi, hwi, hlen, hR⟩
      simp only at hb'
      subst hb'
      have hv : lexLt ns' ms' = decide (items.size < items2.size) := by
        cases hvi with
        | nil =>
          cases hwi with
          | nil =>
            simp only [List.length_nil] at hlen
            rw [lexLt_nil_nil]
            exact (decide_eq_false (by omega)).symm
          | cons c u hw =>
            simp only [List.length_nil, List.length_cons] at hlen
            rw [lexLt_nil_cons]
            exact (decide_eq_true (by omega)).symm
        | cons a t hv =>
          cases hwi with
          | nil =>
            simp only [List.length_nil, List.length_cons] at hlen
            rw [lexLt_cons_nil]
            exact (decide_eq_false (by omega)).symm
          | cons c u hw =>
            rw [List.zip_cons_cons] at hz
            cases hz
      rw [hv] at hR
      wp_walk
      exact ⟨_, rfl, by simpa [Builtin.Tuple.tupleCompareSizes] using hR⟩
    case h =>
      exact ⟨rfl, rfl, items.toList, items2.toList, ns, ms, rfl, hi, hj, by omega, h⟩
end

section
variable {prog : Program} {w : World} {A : Around} {E : Value → Shared → Prop} {s : Shared}

theorem lt_tupInts {l b : Addr} {items items2 : Array Value} {ns ms : List Int} {Q : Value → Shared → Prop} (hl : IsTup s.heap l items) (hb : IsTup s.heap b items2) (hi : IntsAre items.toList ns) (hj : IntsAre items2.toList ms)
    (hu : A.units < cLine) (h : Q (.bool (lexLt ns ms)) s) : wpAny (model prog w) A (compareOp .Lt (.ref l) (.ref b)) Q E s := by
  obtain ⟨⟨cls, dd, data, sl⟩, ho, hc, n, hd⟩ := id hl
  obtain ⟨⟨cls2, dd2, data2, sl2⟩, ho2, hc2, n2, hd2⟩ := id hb
  simp only at hc hd hc2 hd2
  subst hc hd hc2 hd2
  exact richCompare_meets_room (op := .Lt) ⟨_, ho, rfl⟩ ⟨_, ho2, rfl⟩ PySem.F.slot_tuple_lt PySem.F.entry_tuple_lt (PySem.F.args_tuple_lt_2 _ _) (tuple_lt_ints l b items items2 n n2 dd dd2 sl sl2 ns ms hi hj)
    ⟨ho, ho2, show Value.bool (lexLt ns ms) ≠ Value.notImplemented ∧ Q (.bool (lexLt ns ms)) s from ⟨(fun x => nomatch x), h⟩⟩ hu

/-- t + u, t not empty -/
theorem cat_tup {t b : Addr} {vs ws : List Value} {Q : Value → Shared → Prop} (ht : IsTup s.heap t vs.toArray) (hb : IsTup s.heap b ws.toArray) (hv : vs ≠ [])
    (h1 : ws = [] → Q (.ref t) s) (h2 : ws ≠ [] → Q (.ref s.heap.objs.size) { s with heap := s.heap.push { cls := .type "tuple", data := .seq (vs ++ ws).toArray } })
    (hsz : vs.length + ws.length ≤ sizeLine) : wpAny (model prog w) A (binaryOp .Add (.ref t) (.ref b)) Q E s := by
  obtain ⟨⟨cls, dd, data, sl⟩, ho, hc, n, hd⟩ := id ht
  obtain ⟨⟨cls2, dd2, data2, sl2⟩, ho2, hc2, n2, hd2⟩ := id hb
  simp only at hc hd hc2 hd2
  subst hc hd hc2 hd2
  have e : vs.toArray ++ ws.toArray = (vs ++ ws).toArray := by simp
  by_cases hw : ws = []
  · exact concat_meets ⟨_, ho, rfl⟩ ⟨_, ho2, rfl⟩ noFill_tuple_add seq_tuple_add PySem.F.slot_tuple_add PySem.F.entry_tuple_add (PySem.F.args_tuple_add_2 _ _)
      (tuple_addW1 t b vs.toArray ws.toArray n n2 dd dd2 sl sl2 (by simpa using hv) (by simp [hw])) ⟨ho, ho2, h1 hw⟩
  · refine concat_meets ⟨_, ho, rfl⟩ ⟨_, ho2, rfl⟩ noFill_tuple_add seq_tuple_add PySem.F.slot_tuple_add PySem.F.entry_tuple_add (PySem.F.args_tuple_add_2 _ _)
      (tuple_addW2 t b vs.toArray ws.toArray n n2 dd dd2 sl sl2 (by simpa using hv) (by simpa using hw) (by rw [List.size_toArray, List.size_toArray]; exact hsz)) ⟨ho, ho2, ?_⟩
    rw [e]
    exact h2 hw

/-! ### t[a:b], not the whole -/
/-- a slice's bound as a place among n (d where it is left out) -/
def sIx (n d : Nat) : Option Int → Nat
  | none => d
  | some v => if v < 0 then (v + (n : Int)).toNat else min v.toNat n
theorem sIx_none (n d : Nat) : sIx n d none = d := rfl
theorem sIx_nat (n d k : Nat) : sIx n d (some (k : Int)) = min k n := by
  show (if (k : Int) < 0 then ((k : Int) + (n : Int)).toNat else min (k : Int).toNat n) = min k n
  rw [if_neg (by omega), Int.toNat_natCast]
theorem sIx_le (n d : Nat) (hd : d ≤ n) (o : Option Int) : sIx n d o ≤ n := by
  cases o with
  | none => exact hd
  | some v =>
    show (if v < 0 then (v + (n : Int)).toNat else min v.toNat n) ≤ n
    by_cases hv : v < 0
    · rw [if_pos hv]; omega
    · rw [if_neg hv]; exact Nat.min_le_right _ _
theorem clip_eq (v : Int) (n d : Nat) : (if v < 0 then max (v + (n : Int)) 0 else min v (n : Int)) = ((sIx n d (some v) : Nat) : Int) := by
  show (if v < 0 then max (v + (n : Int)) 0 else min v (n : Int)) = (((if v < 0 then (v + (n : Int)).toNat else min v.toNat n) : Nat) : Int)
  by_cases hv : v < 0
  · simp only [if_pos hv]; omega
  · simp only [if_neg hv]; omega
theorem adjust_gen (lo hi : Option Int) (n : Nat) : Builtin.Slice.sliceAdjust lo hi 1 (n : Int) = (((sIx n 0 lo : Nat) : Int), ((sIx n n hi : Nat) : Int)) := by
  have h1 : ¬ ((1 : Int) < 0) := by omega
  unfold Builtin.Slice.sliceAdjust
  simp only [h1, if_false]
  refine Prod.ext ?_ ?_
  · cases lo with
    | none => rfl
    | some v => exact clip_eq v n 0
  · cases hi with
    | none => rfl
    | some v => exact clip_eq v n n
theorem places_gen (i j : Nat) : Builtin.Slice.slicePlaces (i : Int) (j : Int) 1 = j - i := by
  unfold Builtin.Slice.slicePlaces
  have h1 : (1 : Int) > 0 := by omega
  simp only [h1, if_true, Int.ediv_one]
  split <;> omega
theorem slicePart_ {v : Value} {o : Option Int} {Q : Option Int → Shared → Prop} (p : IsPart v o) (h : Q o s) : wpAny (model prog w) A (Builtin.Slice.slicePartIndex v) Q E s := by
  cases p with
  | none => exact slicePart_none h
  | int i t => exact slicePart_int h
theorem sliceApplied_gen {sl : Addr} {vl vu : Value} {lo hi : Option Int} {n : Nat} {Q : Int × Int × Nat → Shared → Prop} (hs : s.heap.IsSliceOf sl vl vu .none) (pl : IsPart vl lo) (pu : IsPart vu hi)
    (h : Q (((sIx n 0 lo : Nat) : Int), 1, sIx n n hi - sIx n 0 lo) s) : wpAny (model prog w) A (Builtin.Slice.sliceApplied (.ref sl) (pure (n : Int))) Q E s := by
  obtain ⟨os, hos, hcs, hds⟩ := id hs
  unfold Builtin.Slice.sliceApplied Builtin.Slice.sliceFields
  refine wpAny_bind (wpAny_bind (wpAny_field hos hds (x := vl) rfl (wpAny_bind (wpAny_field hos hds (x := vu) rfl (wpAny_bind (wpAny_field hos hds (x := .none) rfl (wpAny_pure ?_)))))))
  refine wpAny_bind (slicePart_none ?_)
  show wpAny _ _ (if ((1 : Int) == 0) = true then _ else _) _ _ s
  rw [if_neg (by decide)]
  refine wpAny_bind (slicePart_ pl (wpAny_bind (slicePart_ pu (wpAny_bind (wpAny_pure ?_)))))
  show wpAny _ _ (match Builtin.Slice.sliceAdjust lo hi 1 (n : Int) with | (lo, hi) => pure (lo, (1 : Int), Builtin.Slice.slicePlaces lo hi 1)) _ _ s
  rw [adjust_gen lo hi n]
  show wpAny _ _ (pure (((sIx n 0 lo : Nat) : Int), (1 : Int), Builtin.Slice.slicePlaces ((sIx n 0 lo : Nat) : Int) ((sIx n n hi : Nat) : Int) 1)) _ _ s
  rw [places_gen]
  exact wpAny_pure h
theorem pick_gen (xs : Array Value) (i k : Nat) : ((List.range k).filterMap fun (m : Nat) => xs[((i : Int) + (m : Int) * 1).toNat]?).toArray = ((xs.toList.drop i).take k).toArray := by
  have e : (fun (m : Nat) => xs[((i : Int) + (m : Int) * 1).toNat]?) = fun m => xs[i + m]? := by
    funext m
    have : ((i : Int) + (m : Int) * 1).toNat = i + m := by omega
    rw [this]
  rw [e]
  have := pick_run xs i k
  rw [List.filterMap_map] at this
  have e2 : ((fun x => xs[x]?) ∘ fun x => i + x) = fun m => xs[i + m]? := rfl
  rw [e2] at this
  rw [this]

theorem getItem_tuple_cut {t sl : Addr} {items : Array Value} {vl vu : Value} {lo hi : Option Int} {Q : Value → Shared → Prop} (ht : IsTup s.heap t items) (hs : s.heap.IsSliceOf sl vl vu .none) (pl : IsPart vl lo) (pu : IsPart vu hi)
    (hw : ¬ (sIx items.size 0 lo = 0 ∧ sIx items.size items.size hi = items.size))
    (h : Q (.ref s.heap.objs.size) { s with heap := s.heap.push { cls := .type "tuple", data := .seq ((items.toList.drop (sIx items.size 0 lo)).take (sIx items.size items.size hi - sIx items.size 0 lo)).toArray } })
    (hsz : items.size ≤ sizeLine) : wpAny (model prog w) A (getItem (.ref t) (.ref sl)) Q E s := by
  have htake : sizeOk (.seq ((items.toList.drop (sIx items.size 0 lo)).take (sIx items.size items.size hi - sIx items.size 0 lo)).toArray) := by
    show ((items.toList.drop (sIx items.size 0 lo)).take (sIx items.size items.size hi - sIx items.size 0 lo)).toArray.size ≤ sizeLine
    rw [List.size_toArray, List.length_take, List.length_drop, Array.length_toList]
    omega
  have hj : sIx items.size items.size hi ≤ items.size := sIx_le _ _ (Nat.le_refl _) hi
  obtain ⟨os, hos, hcs, hds⟩ := id hs
  have hTs : s.TypeIs (.ref sl) "slice" := ⟨os, hos, hcs⟩
  unfold getItem
  try with_reducible refine wpAny_holding ?_
  first | refine wpAny_bind (wpAny_pure ?_) | skip
  refine wpAny_bind (wpAny_sequenceKey ht.typeIs (by decide) ?_)
  refine wpAny_bind (wpAny_callSpecial?_slot (name := Str.ofString "__getitem__") ht.typeIs PyProof.Rows.slot_tuple_getitem
    (wpAny_call_entry PyProof.Rows.slot_tuple_getitem ht.typeIs entry_tuple_getitem ?_ (args_tuple_getitem _ _)))
  show wpAny _ _ (Builtin.Tuple.tupleItemsOf (.ref t) >>= _) _ _ s
  refine wpAny_bind (tupleItemsOf_ ht ?_)
  refine wpAny_bind (wpAny_typeOf hTs ?_)
  rw [if_pos (by decide)]
  refine wpAny_bind (sliceApplied_gen hs pl pu ?_)
  have hno : ¬ ((((sIx items.size 0 lo : Nat) : Int) == 0 && (1 : Int) == 1 && (sIx items.size items.size hi - sIx items.size 0 lo) == items.size) = true) := by
    intro q
    rw [Bool.and_eq_true, Bool.and_eq_true] at q
    have q1 : ((sIx items.size 0 lo : Nat) : Int) = 0 := eq_of_beq q.1.1
    have q2 : sIx items.size items.size hi - sIx items.size 0 lo = items.size := eq_of_beq q.2
    exact hw ⟨by omega, by omega⟩
  show wpAny _ _ (if (((sIx items.size 0 lo : Nat) : Int) == 0 && (1 : Int) == 1 && (sIx items.size items.size hi - sIx items.size 0 lo) == items.size) = true then _ else _) _ _ s
  rw [if_neg hno, pick_gen]
  first
    | exact wpAny_bind (m := Builtin.Tuple.tupleExact _) (wpAny_newObj_type (wpAny_pure ⟨_, rfl, wpAny_pure h⟩) htake)
    | exact wpAny_bind (m := Builtin.Tuple.tupleExact _) (wpAny_newObj_type (wpAny_bind (wpAny_pure (wpAny_pure ⟨_, rfl, wpAny_pure h⟩))) htake)
    | exact wpAny_bind (wpAny_bind (m := Builtin.Tuple.tupleExact _) (wpAny_newObj_type (wpAny_pure (wpAny_pure ⟨_, rfl, wpAny_pure h⟩)) htake))
    | exact wpAny_bind (wpAny_bind (m := Builtin.Tuple.tupleExact _) (wpAny_newObj_type (wpAny_pure ⟨_, rfl, wpAny_pure h⟩) htake))
end
end HT

namespace L2
open PySem PySem.Spec PyProof.Rows

/-! ### the parts of a slice -/
abbrev TO := St → Hp → (Option Int → Hp → Prop) → Prop
/-- a slice's part (left out, or an int) -/
def PO (X : Cx) (e : Option Expr) (t : TO) : Prop :=
  ∀ (pins : List (Addr × Obj)) (s : Shared) (σ : St) (H : Hp) (Q : Option Int → Hp → Prop), Inv X pins σ H s → t σ H Q →
    wpAny (model X.prog X.w) X.A (evalPart e X.env) (fun u s' => ∃ o H', Inv X pins σ H' s' ∧ IsPart u o ∧ Q o H') X.xe s
def tNoPart : TO := fun _ H Q => Q none H
def tPart (t : TE) : TO := fun σ H Q => t σ H fun x H1 => ∃ i, x = .int i ∧ Q (some i) H1

theorem intsAre_of {ns : List Int} : ∀ {us : List Value}, Vals (ns.map V.int) us → IntsAre us ns := by
  induction ns with
  | nil => intro us r; rw [List.map_nil] at r; cases r; exact .nil
  | cons n ns ih =>
    intro us r
    rw [List.map_cons] at r
    cases r with
    | cons r1 r2 =>
      obtain ⟨t, e⟩ := r1
      subst e
      exact .cons n t (ih r2)

section
variable {X : Cx} {e : Expr} {te : TE} {lo hi : Option Expr} {tl th : TO} {pos p2 : Pos}

theorem po_none : PO X none tNoPart := by
  intro pins s σ H Q I h
  rw [evalPart_none]
  exact wpAny_pure ⟨none, H, I, .none, h⟩
theorem po_some (h : PE X e te) : PO X (some e) (tPart te) := by
  intro pins s σ H Q I hw
  rw [evalPart_some]
  refine thn (h pins s σ H _ I hw) fun u s1 ⟨x, H1, I1, r1, q1⟩ => ?_
  obtain ⟨i, rfl, q⟩ := q1
  obtain ⟨t, rfl⟩ := r1
  exact ⟨some i, H1, I1, .int i t, q⟩

/-- what a slice of a value is, by values: the slice object stands at sl -/
def SlR (X : Cx) (r : V → Option Int → Option Int → Hp → VK → Prop) : Prop :=
  ∀ (pins : List (Addr × Obj)) (s : Shared) (σ : St) (H : Hp) (x : V) (v vl vu : Value) (lo hi : Option Int) (sl : Addr) (Q : VK), Inv X pins σ H s → RelV x v → s.heap.IsSliceOf sl vl vu .none → IsPart vl lo → IsPart vu hi → r x lo hi H Q →
    ∃ T id, typeLookup (.type T) "__getitem__" = pure (some (.builtin id)) ∧ s.TypeIs v T ∧ wpAny (model X.prog X.w) X.A (getItem v (.ref sl)) (EP X pins σ Q) X.xe s
theorem SlR.or {r r' : V → Option Int → Option Int → Hp → VK → Prop} (h : SlR X r) (h' : SlR X r') : SlR X (fun x lo hi H Q => r x lo hi H Q ∨ r' x lo hi H Q) := by
  intro pins s σ H x v vl vu lo hi sl Q I rx hs pl pu q
  rcases q with q | q
  · exact h pins s σ H x v vl vu lo hi sl Q I rx hs pl pu q
  · exact h' pins s σ H x v vl vu lo hi sl Q I rx hs pl pu q
def tSl (r : V → Option Int → Option Int → Hp → VK → Prop) (te : TE) (tl th : TO) : TE := fun σ H Q => te σ H fun x H1 => tl σ H1 fun l H2 => th σ H2 fun u H3 => r x l u H3 Q
/-- a[lo:hi], any a -/
theorem pe_slice {r : V → Option Int → Option Int → Hp → VK → Prop} (hr : SlR X r) (he : PE X e te) (hl : PO X lo tl) (hu : PO X hi th) : PE X (.Subscript e (.Slice lo hi none p2) pos) (tSl r te tl th) := by
  intro pins s σ H Q I h
  refine Subscript_ (thn (he pins s σ H _ I h) fun v s1 ⟨x, H1, I1, r1, q1⟩ => ?_)
  refine wpAny_Slice (thn (hl pins s1 σ H1 _ I1 q1) fun vl s2 ⟨l, H2, I2, pl, q2⟩ => thn (hu pins s2 σ H2 _ I2 q2) fun vu s3 ⟨u, H3, I3, pu, q3⟩ => ?_)
  rw [evalPart_none]
  refine wpAny_pure ?_
  have I4 : Inv X pins σ H3 { s3 with heap := s3.heap.push { cls := .type "slice", data := .fields #[vl, vu, .none] } } := I3.kept (t' := s3.toks) fun b ob q => Heap.get?_push_of_some _ q
  obtain ⟨T, id, hT, ht, hg⟩ := hr pins { s3 with heap := s3.heap.push { cls := .type "slice", data := .fields #[vl, vu, .none] } } σ H3 x v vl vu l u s3.heap.objs.size Q I4 r1 (Heap.IsSliceOf.new ..) pl pu q3
  show wpAny (model X.prog X.w) X.A (subscriptTail e (.Slice lo hi none p2) v (.ref s3.heap.objs.size)) (EP X pins σ Q) X.xe { s3 with heap := s3.heap.push { cls := .type "slice", data := .fields #[vl, vu, .none] } }
  exact tail_any (ops := [.ref s3.heap.objs.size, v]) ht hT hg (by with_unfolding_all rfl)

/-- the items of xs[lo:hi] -/
def cutV (xs : List V) (lo hi : Option Int) : List V := (xs.drop (HT.sIx xs.length 0 lo)).take (HT.sIx xs.length xs.length hi - HT.sIx xs.length 0 lo)
theorem cutV_length (xs : List V) (lo hi : Option Int) : (cutV xs lo hi).length ≤ xs.length := by
  unfold cutV
  rw [List.length_take, List.length_drop]
  omega
/-- t[lo:hi], not the whole of it (the whole would be t itself) -/
def rSlT (K : PySem.W.Frag) : V → Option Int → Option Int → Hp → VK → Prop := fun x lo hi H Q => ∃ a xs, x = .ref a ∧ SqT K H a xs ∧
  ¬ (HT.sIx xs.length 0 lo = 0 ∧ HT.sIx xs.length xs.length hi = xs.length) ∧ ∀ p, H p = none → Q (.ref p) (upd H p (.tup (cutV xs lo hi)))
theorem sl_tup : SlR X (rSlT X.K) := by
  intro pins s σ H x v vl vu lo hi sl Q I rx hs pl pu h
  obtain ⟨a, xs, rfl, hx, hw, q⟩ := h
  cases rx
  obtain ⟨its, r, ht, hz⟩ := I.tuple hx
  have hlen : its.toArray.size = xs.length := by rw [List.size_toArray]; exact r.length.symm
  refine ⟨"tuple", _, PyProof.Rows.slot_tuple_getitem.lookup, ht.typeIs, ?_⟩
  refine HT.getItem_tuple_cut ht hs pl pu (by rw [hlen]; exact hw) ?_ (by rw [hlen]; exact hz)
  rw [hlen]
  refine ⟨.ref s.heap.objs.size, _, I.laid (t' := s.toks) (o := .tup (cutV xs lo hi)) (fun b ob q => Heap.get?_push_of_some _ q) (Nat.le_refl _) ?_, rfl, q _ (I.hok.fresh (Nat.le_refl _))⟩
  exact ⟨Nat.le_trans (cutV_length xs lo hi) hz, _, (r.drop (HT.sIx xs.length 0 lo)).take (HT.sIx xs.length xs.length hi - HT.sIx xs.length 0 lo), IsTup.new _ _⟩

/-! ### t < u, t + u -/
def rLtT (K : PySem.W.Frag) : R2 := fun x y H Q => ∃ a b ns ms, x = .ref a ∧ y = .ref b ∧ SqT K H a (ns.map V.int) ∧ SqT K H b (ms.map V.int) ∧ Q (.bl (HT.lexLt ns ms)) H
theorem op_ltT (hu : X.A.units < cLine) : OpR X (compareOp .Lt) (rLtT X.K) := by
  intro pins s σ H x y v u Q I rx ry h
  obtain ⟨a, b, ns, ms, rfl, rfl, ha, hb, q⟩ := h
  cases rx
  cases ry
  obtain ⟨its, r1, p1, _⟩ := I.tuple ha
  obtain ⟨its2, r2, p2, _⟩ := I.tuple hb
  have i1 : IntsAre its.toArray.toList ns := intsAre_of r1
  have i2 : IntsAre its2.toArray.toList ms := intsAre_of r2
  exact HT.lt_tupInts p1 p2 i1 i2 hu ⟨.bl (HT.lexLt ns ms), H, I, rfl, q⟩
/-- t + u, t not empty: u empty gives t itself -/
def rCatT (K : PySem.W.Frag) : R2 := fun x y H Q => ∃ a b xs ys, x = .ref a ∧ y = .ref b ∧ SqT K H a xs ∧ SqT K H b ys ∧ xs ≠ [] ∧ xs.length + ys.length ≤ sizeLine ∧
  (ys = [] → Q (.ref a) H) ∧ (ys ≠ [] → ∀ p, H p = none → Q (.ref p) (upd H p (.tup (xs ++ ys))))
theorem Vals.nil_iff {xs : List V} {us : List Value} (r : Vals xs us) : us = [] ↔ xs = [] := by
  cases r with
  | nil => simp
  | cons _ _ => simp
theorem op_catT : OpR X (binaryOp .Add) (rCatT X.K) := by
  intro pins s σ H x y v u Q I rx ry h
  obtain ⟨a, b, xs, ys, rfl, rfl, ha, hb, hx, hz, q1, q2⟩ := h
  cases rx
  cases ry
  obtain ⟨its, r1, p1, _⟩ := I.tuple ha
  obtain ⟨its2, r2, p2, _⟩ := I.tuple hb
  refine HT.cat_tup p1 p2 (fun z => hx (r1.nil_iff.mp z)) (fun z => ⟨.ref a, H, I, rfl, q1 (r2.nil_iff.mp z)⟩) (fun z => ?_) (by rw [← r1.length, ← r2.length]; exact hz)
  refine ⟨.ref s.heap.objs.size, _, I.laid (t' := s.toks) (o := .tup (xs ++ ys)) (fun b ob q => Heap.get?_push_of_some _ q) (Nat.le_refl _) ?_, rfl, q2 (fun w => z (r2.nil_iff.mpr w)) _ (I.hok.fresh (Nat.le_refl _))⟩
  exact ⟨by rw [List.length_append]; exact hz, _, r1.append r2, IsTup.new _ _⟩
/-- tuple(t) -/
theorem call_tupleT : CallR X (.type "tuple") (fun xs H Q => ∃ a ys, xs = [.ref a] ∧ SqT X.K H a ys ∧ Q (.ref a) H) := by
  intro pins s σ H xs us Q I r h
  obtain ⟨a, ys, rfl, ha, q⟩ := h
  obtain ⟨u, rfl, ru⟩ := vals1 r
  cases ru
  obtain ⟨its, _, p1, _⟩ := I.tuple ha
  exact call_tuple_same (items := its.toArray) p1 ⟨.ref a, H, I, rfl, q⟩
end
end L2

namespace L2
open PySem PySem.Spec PyProof.Rows

/-! ### places -/
/-- the place that an index of any sign means -/
def ixN (n : Nat) (i : Int) : Option Nat := if 0 ≤ i then (if i < n then some i.toNat else none) else if -(n : Int) ≤ i then some (i + n).toNat else none
def atI {α : Type} (xs : List α) (i : Int) : Option α := (ixN xs.length i).bind fun j => xs[j]?
theorem ixN_seq {n : Nat} {i : Int} {j : Nat} (h : ixN n i = some j) : seqIndex? i n = some j ∧ j < n ∧ -(n : Int) ≤ i ∧ i < n := by
  unfold ixN at h
  by_cases h0 : 0 ≤ i
  · rw [if_pos h0] at h
    by_cases h1 : i < n
    · rw [if_pos h1] at h
      have e : i.toNat = j := Option.some.inj h
      exact ⟨by rw [seqIndex_of h0 h1, e], by omega, by omega, h1⟩
    · rw [if_neg h1] at h; cases h
  · rw [if_neg h0] at h
    by_cases h1 : -(n : Int) ≤ i
    · rw [if_pos h1] at h
      have e : (i + n).toNat = j := Option.some.inj h
      exact ⟨by rw [seqIndex_neg (by omega) h1, e], by omega, h1, by omega⟩
    · rw [if_neg h1] at h; cases h
theorem atI_get {α : Type} {xs : List α} {i : Int} {v : α} (h : atI xs i = some v) : ∃ j, seqIndex? i xs.length = some j ∧ xs[j]? = some v ∧ j < xs.length ∧ -(xs.length : Int) ≤ i ∧ i < xs.length := by
  unfold atI at h
  cases e : ixN xs.length i with
  | none => rw [e] at h; cases h
  | some j =>
    rw [e] at h
    obtain ⟨h1, h2, h3, h4⟩ := ixN_seq e
    exact ⟨j, h1, h, h2, h3, h4⟩
theorem atI_nat {α : Type} {xs : List α} {j : Nat} {v : α} (h : xs[j]? = some v) : atI xs (j : Int) = some v := by
  have hj : j < xs.length := (List.getElem?_eq_some_iff.mp h).1
  have e : ixN xs.length (j : Int) = some j := by
    unfold ixN
    rw [if_pos (by omega), if_pos (by omega)]; simp
  unfold atI; rw [e]; exact h
theorem atI_last {α : Type} (xs : List α) (v : α) : atI (xs ++ [v]) (-1) = some v := by
  have hl : (xs ++ [v]).length = xs.length + 1 := by simp
  have e : ixN (xs ++ [v]).length (-1) = some xs.length := by
    unfold ixN
    rw [hl, if_neg (by decide), if_pos (by omega)]
    congr 1
    omega
  unfold atI
  rw [e]
  show (xs ++ [v])[xs.length]? = some v
  simp

/-! ### what may be subscripted -/
/-- what stands as an index of a plain subscript -/
def PlainIx (b : Expr) : Prop := ∀ o i, subscripted b false o i = operate [o, i] (getItem o i)
/-- a subscript by values -/
def IxR (X : Cx) (r : R2) : Prop :=
  ∀ (value slice : Expr) (pins : List (Addr × Obj)) (s : Shared) (σ : St) (H : Hp) (x y : V) (v u : Value) (Q : VK), Inv X pins σ H s → RelV x v → RelV y u → r x y H Q →
    subscripted slice false v u = operate [v, u] (getItem v u) → wpAny (model X.prog X.w) X.A (subscriptTail value slice v u) (EP X pins σ Q) X.xe s
/-- a call of a builtin's method by values: the receiver, the arguments -/
def MtR (X : Cx) (id : String) (r : V → List V → Hp → VK → Prop) : Prop :=
  ∀ (pins : List (Addr × Obj)) (s : Shared) (σ : St) (H : Hp) (x : V) (xs : List V) (v : Value) (us : List Value) (Q : VK), Inv X pins σ H s → RelV x v → Vals xs us → r x xs H Q →
    wpAny (model X.prog X.w) X.A (call (.builtin id) (v :: us)) (EP X pins σ Q) X.xe s
section
variable {X : Cx} {a b : Expr} {ta tb : TE} {pos : Pos}
theorem IxR.or {r r' : R2} (h : IxR X r) (h' : IxR X r') : IxR X (fun x y H Q => r x y H Q ∨ r' x y H Q) := by
  intro value slice pins s σ H x y v u Q I rx ry q hs
  rcases q with q | q
  · exact h value slice pins s σ H x y v u Q I rx ry q hs
  · exact h' value slice pins s σ H x y v u Q I rx ry q hs
theorem MtR.or {id : String} {r r' : V → List V → Hp → VK → Prop} (h : MtR X id r) (h' : MtR X id r') : MtR X id (fun x xs H Q => r x xs H Q ∨ r' x xs H Q) := by
  intro pins s σ H x xs v us Q I rx rs q
  rcases q with q | q
  · exact h pins s σ H x xs v us Q I rx rs q
  · exact h' pins s σ H x xs v us Q I rx rs q
/-- a[b] -/
theorem pe_ix {r : R2} (hr : IxR X r) (ha : PE X a ta) (hb : PE X b tb) (hs : PlainIx b) : PE X (.Subscript a b pos) (tOp r ta tb) := by
  intro pins s σ H Q I h
  exact Subscript_ (binT ha hb I h fun v u s2 x y H2 I2 rx ry q => hr a b pins s2 σ H2 x y v u Q I2 rx ry q (hs _ _))

def rIxL (K : PySem.W.Frag) : R2 := fun x y H Q => ∃ p xs i v, x = .ref p ∧ y = .int i ∧ SqL K H p xs ∧ atI xs i = some v ∧ Q v H
def rIxT (K : PySem.W.Frag) : R2 := fun x y H Q => ∃ p xs i v, x = .ref p ∧ y = .int i ∧ SqT K H p xs ∧ atI xs i = some v ∧ Q v H
def rIxS : R2 := fun x y H Q => ∃ z i c, x = .str z ∧ y = .int i ∧ z.length ≤ sizeLine ∧ atI z.cps.toList i = some c ∧ Q (.str ⟨#[c]⟩) H
theorem ix_list : IxR X (rIxL X.K) := by
  intro value slice pins s σ H x y v u Q I rx ry h hs
  obtain ⟨p, xs, i, z, rfl, rfl, hq, he, q⟩ := h
  cases rx
  obtain ⟨t, rfl⟩ := ry
  obtain ⟨its, r, pl, hz⟩ := I.list hq
  obtain ⟨j, h1, h2, h3, h4, h5⟩ := atI_get he
  obtain ⟨w, ew, rw'⟩ := r.get h2
  have hl := r.length
  have hn := line63
  have fin : EP X pins σ Q w s := ⟨z, H, I, rw', q⟩
  by_cases h0 : 0 ≤ i
  · have hj : i.toNat = j := by
      rw [seqIndex_of h0 h5] at h1
      exact Option.some.inj h1
    exact item_listR pl.isList h0 (by omega) (by rw [hj]; simpa using ew) fin hs
  · have hj : (i + (its.toArray.size : Int)).toNat = j := by
      rw [seqIndex_neg (by omega) h4] at h1
      rw [List.size_toArray, ← hl]
      exact Option.some.inj h1
    exact subscriptTail_builtinR (x := w) pl.isList.typeIs slot_list_getitem.lookup
      (wpAny_getItem_list_neg (Q := fun r s' => r = w ∧ EP X pins σ Q r s') pl.isList (by omega) (by rw [List.size_toArray] <;> omega) (by omega) (by rw [hj]; simpa using ew) ⟨rfl, fin⟩) hs
theorem ix_tup : IxR X (rIxT X.K) := by
  intro value slice pins s σ H x y v u Q I rx ry h hs
  obtain ⟨p, xs, i, z, rfl, rfl, hq, he, q⟩ := h
  cases rx
  obtain ⟨t, rfl⟩ := ry
  obtain ⟨its, r, pl, hz⟩ := I.tuple hq
  obtain ⟨j, h1, h2, h3, h4, h5⟩ := atI_get he
  obtain ⟨w, ew, rw'⟩ := r.get h2
  have hl := r.length
  have hn := line63
  have fin : EP X pins σ Q w s := ⟨z, H, I, rw', q⟩
  exact subscriptTail_builtinR (x := w) pl.typeIs slot_tuple_getitem.lookup
    (getItem_tuple (j := j) (Q := fun r s' => r = w ∧ EP X pins σ Q r s') pl (by omega) (by omega) (by rw [List.size_toArray, ← hl]; exact h1) (by simpa using ew) ⟨rfl, fin⟩) hs
theorem ix_str : IxR X rIxS := by
  intro value slice pins s σ H x y v u Q I rx ry h hs
  obtain ⟨z, i, c, rfl, rfl, hz, he, q⟩ := h
  obtain ⟨t, rfl⟩ := rx
  obtain ⟨t', rfl⟩ := ry
  obtain ⟨j, h1, h2, h3, h4, h5⟩ := atI_get he
  have hl : z.cps.toList.length = z.length := by simp [Str.length]
  rw [hl] at h1 h4 h5
  have hn := line63
  exact tail_any (typeIs_str s z t) slot_str_getitem.lookup (getItem_str (c := c) (by
    have e1 : decide (i < -(2 ^ 63 : Int)) = false := decide_eq_false (by omega)
    have e2 : decide (i ≥ 2 ^ 63) = false := decide_eq_false (by omega)
    rw [e1, e2, Bool.or_false]) (by rw [h1]; simpa using h2) ⟨.str ⟨#[c]⟩, H, I.tok _, ⟨_, rfl⟩, q⟩) hs
/-- list, tuple or str -/
def rIx (K : PySem.W.Frag) : R2 := fun x y H Q => rIxL K x y H Q ∨ rIxT K x y H Q ∨ rIxS x y H Q
theorem ix_seq : IxR X (rIx X.K) := ix_list.or (ix_tup.or ix_str)

/-! ### xs[i] = v, any sign -/
/-- the list's object behind a store -/
theorem mapSeq_set (its : List Value) (n j : Nat) (u : Value) : Obj.mapSeq (·.setIfInBounds j u) { cls := .type "list", data := .seq its.toArray n } = { cls := .type "list", data := .seq (its.set j u).toArray n } := by
  simp [Obj.mapSeq]
theorem Inv.lst {pins : List (Addr × Obj)} {σ : St} {H : Hp} {s : Shared} {p : Addr} {xs : List V} (I : Inv X pins σ H s) (h : H p = some (.lst xs)) :
    ∃ (its : List Value) (n : Nat), Vals xs its ∧ s.heap.get? p = some { cls := .type "list", data := .seq its.toArray n } ∧ xs.length ≤ sizeLine := by
  obtain ⟨z, its, n, r, e⟩ := I.hok p _ h
  exact ⟨its, n, r, e, z⟩
/-- the list at p is written by an update of its object -/
theorem Inv.lstUpd {pins : List (Addr × Obj)} {σ : St} {H : Hp} {s : Shared} {p : Addr} {xs ys : List V} {its its' : List Value} {n n' : Nat} {f : Obj → Obj} (I : Inv X pins σ H s) (h : H p = some (.lst xs))
    (ho : s.heap.get? p = some { cls := .type "list", data := .seq its.toArray n }) (hf : f { cls := .type "list", data := .seq its.toArray n } = { cls := .type "list", data := .seq its'.toArray n' }) (r : Vals ys its') (hz : ys.length ≤ sizeLine) (t : Nat) :
    Inv X pins σ (upd H p (.lst ys)) { s with heap := s.heap.update p f, toks := t } := by
  have e : (s.heap.update p f).get? p = some { cls := .type "list", data := .seq its'.toArray n' } := by
    rw [Heap.get?_update_self f ho (by rw [hf] <;> rfl), hf]
  refine I.write (x := p) (e := p) (by rw [h]; trivial) (.inl rfl) (fun b u hb q => (Heap.get?_update_other _ _ (Ne.symm hb)).trans q) ⟨_, e⟩ ?_
  exact ⟨hz, its', n', r, e⟩
def rSetL : V → V → V → Hp → (Hp → Prop) → Prop := fun o i v H Q => ∃ p xs k j, o = .ref p ∧ i = .int k ∧ H p = some (.lst xs) ∧ ixN xs.length k = some j ∧ Q (upd H p (.lst (xs.set j v)))
theorem set_list : PSet X rSetL := by
  intro pins s σ H o i v ov iv u Q I ro ri rv h
  obtain ⟨p, xs, k, j, rfl, rfl, hp, hj, q⟩ := h
  cases ro
  obtain ⟨t, rfl⟩ := ri
  obtain ⟨its, n, r, ho, hz⟩ := I.lst hp
  obtain ⟨h1, h2, h3, h4⟩ := ixN_seq hj
  have hl := r.length
  have hn := line63
  have I' : Inv X pins σ (upd H p (.lst (xs.set j v))) { s with heap := s.heap.update p (Obj.mapSeq (·.setIfInBounds j u)) } :=
    I.lstUpd hp ho (mapSeq_set its n j u) (r.set rv j) (by rw [List.length_set]; exact hz) s.toks
  by_cases h0 : 0 ≤ k
  · have hk : k.toNat = j := by
      rw [seqIndex_of h0 h4] at h1
      exact Option.some.inj h1
    exact PySem.W.ki_setAt ho h0 (by omega) (by rw [List.size_toArray, ← hl]; exact h4) (by rw [hk]; exact ⟨_, I', q⟩)
  · have hk : (k + (its.toArray.size : Int)).toNat = j := by
      rw [seqIndex_neg (by omega) h3] at h1
      rw [List.size_toArray, ← hl]
      exact Option.some.inj h1
    exact PySem.W.ki_setBack ho (by omega) (by rw [List.size_toArray, ← hl]; exact h3) (by omega) (by rw [hk]; exact ⟨_, I', q⟩)

/-! ### slices -/
theorem slice_bounds (lo hi : Option Int) (n : Nat) : (sliceBounds lo hi none n).1 = ((HT.sIx n 0 lo : Nat) : Int) ∧ (sliceBounds lo hi none n).2.1 = ((HT.sIx n n hi : Nat) : Int) ∧ (sliceBounds lo hi none n).2.2 = 1 := by
  refine ⟨?_, ?_, rfl⟩
  · cases lo with
    | none => simp [sliceBounds, HT.sIx]
    | some i =>
      simp only [sliceBounds, HT.sIx, Option.getD_none, show (1 : Int) > 0 by decide, if_true]
      by_cases h : i < 0
      · simp only [h, if_true] <;> omega
      · simp only [h, if_false] <;> omega
  · cases hi with
    | none => simp [sliceBounds, HT.sIx]
    | some i =>
      simp only [sliceBounds, HT.sIx, Option.getD_none, show (1 : Int) > 0 by decide, if_true]
      by_cases h : i < 0
      · simp only [h, if_true] <;> omega
      · simp only [h, if_false] <;> omega
theorem slicePick_cut (its : List Value) (lo hi : Option Int) : slicePick its.toArray lo hi none = ((its.drop (HT.sIx its.length 0 lo)).take (HT.sIx its.length its.length hi - HT.sIx its.length 0 lo)).toArray := by
  obtain ⟨h1, h2, h3⟩ := slice_bounds lo hi its.toArray.size
  unfold slicePick
  rw [h1, h2, h3]
  simp only [sliceRange_one, pick_run, List.size_toArray] <;> rfl
/-- xs[lo:hi] of a list: a new list -/
def rSlL (K : PySem.W.Frag) : V → Option Int → Option Int → Hp → VK → Prop := fun x lo hi H Q => ∃ a xs, x = .ref a ∧ SqL K H a xs ∧ ∀ p, H p = none → Q (.ref p) (upd H p (.lst (cutV xs lo hi)))
theorem sl_list : SlR X (rSlL X.K) := by
  intro pins s σ H x v vl vu lo hi sl Q I rx hs pl pu h
  obtain ⟨a, xs, rfl, hx, q⟩ := h
  cases rx
  obtain ⟨its, r, ht, hz⟩ := I.list hx
  have hlen := r.length
  refine ⟨"list", _, slot_list_getitem.lookup, ht.isList.typeIs, ?_⟩
  refine wpAny_getItem_list_slice ht.isList hs pl pu .none (by simp) ?_ (by rw [List.size_toArray] <;> omega)
  rw [slicePick_cut, ← hlen]
  refine ⟨.ref s.heap.objs.size, _, I.laid (t' := s.toks) (o := .lst (cutV xs lo hi)) (fun b ob q => Heap.get?_push_of_some _ q) (Nat.le_refl _) ?_, rfl, q _ (I.hok.fresh (Nat.le_refl _))⟩
  exact ⟨Nat.le_trans (cutV_length xs lo hi) hz, _, 0, (r.drop (HT.sIx xs.length 0 lo)).take (HT.sIx xs.length xs.length hi - HT.sIx xs.length 0 lo), Heap.get?_push_size _ rfl⟩

/-! ### in, not in: flat items -/
def flatV : V → Bool
  | .non => true
  | .bl _ => true
  | .int _ => true
  | .str _ => true
  | _ => false
/-- == of flat values -/
def eqV : V → V → Bool
  | .non, .non => true
  | .bl a, .bl b => a == b
  | .bl a, .int b => (if a then 1 else 0) == b
  | .int a, .bl b => a == (if b then 1 else 0)
  | .int a, .int b => a == b
  | .str a, .str b => a == b
  | _, _ => false
theorem eqAt_V {A : Around} {s : Shared} {y x : V} {u v : Value} (ry : RelV y u) (rx : RelV x v) (fy : flatV y = true) (fx : flatV x = true) : SeqAt.EqAt A s u v (eqV y x) := by
  cases y with
  | non =>
    cases ry
    cases x with
    | non => cases rx; exact SeqAt.EqAt.same _
    | bl b => cases rx; exact SeqAt.EqAt.none_bool b
    | int b => obtain ⟨t, rfl⟩ := rx; exact SeqAt.EqAt.none_int b t
    | str b => obtain ⟨t, rfl⟩ := rx; exact SeqAt.EqAt.none_str b t
    | _ => exact absurd (show false = true from fx) Bool.false_ne_true
  | bl a =>
    cases ry
    cases x with
    | non => cases rx; exact SeqAt.EqAt.bool_none a
    | bl b => cases rx; exact SeqAt.EqAt.bool_bool a b
    | int b => obtain ⟨t, rfl⟩ := rx; exact SeqAt.EqAt.bool_int a b t
    | str b => obtain ⟨t, rfl⟩ := rx; exact SeqAt.EqAt.bool_str a b t
    | _ => exact absurd (show false = true from fx) Bool.false_ne_true
  | int a =>
    obtain ⟨t', rfl⟩ := ry
    cases x with
    | non => cases rx; exact SeqAt.EqAt.int_none a t'
    | bl b => cases rx; exact SeqAt.EqAt.int_bool a t' b
    | int b => obtain ⟨t, rfl⟩ := rx; exact SeqAt.EqAt.int_int a t' b t
    | str b => obtain ⟨t, rfl⟩ := rx; exact SeqAt.EqAt.int_str a t' b t
    | _ => exact absurd (show false = true from fx) Bool.false_ne_true
  | str a =>
    obtain ⟨t', rfl⟩ := ry
    cases x with
    | non => cases rx; exact SeqAt.EqAt.str_none a t'
    | bl b => cases rx; exact SeqAt.EqAt.str_bool a t' b
    | int b => obtain ⟨t, rfl⟩ := rx; exact SeqAt.EqAt.str_int a t' b t
    | str b => obtain ⟨t, rfl⟩ := rx; exact SeqAt.EqAt.str_str a t' b t
    | _ => exact absurd (show false = true from fx) Bool.false_ne_true
  | _ => exact absurd (show false = true from fy) Bool.false_ne_true
/-- the items' answers, read off the values (a value's own answer does not lean on its token) -/
def eqU (x : V) (u : Value) : Bool := match u with
  | .none => eqV .non x
  | .bool b => eqV (.bl b) x
  | .int i _ => eqV (.int i) x
  | .str z _ => eqV (.str z) x
  | _ => false
theorem eqU_of {x y : V} {u : Value} (r : RelV y u) (f : flatV y = true) : eqU x u = eqV y x := by
  cases y with
  | non => cases r; rfl
  | bl b => cases r; rfl
  | int i => obtain ⟨t, rfl⟩ := r; rfl
  | str z => obtain ⟨t, rfl⟩ := r; rfl
  | _ => exact absurd (show false = true from f) Bool.false_ne_true
theorem any_eqU {x : V} : ∀ {xs : List V} {us : List Value}, Vals xs us → xs.all flatV = true → us.any (eqU x) = xs.any fun y => eqV y x
  | _, _, .nil, _ => rfl
  | y :: xs, u :: us, .cons r t, f => by
    rw [List.all_cons, Bool.and_eq_true] at f
    rw [List.any_cons, List.any_cons, eqU_of r f.1, any_eqU t f.2]
theorem mem_eqAt {A : Around} {s : Shared} {x : V} {v : Value} (rx : RelV x v) (fx : flatV x = true) : ∀ {xs : List V} {us : List Value}, Vals xs us → xs.all flatV = true → ∀ u ∈ us, SeqAt.EqAt A s u v (eqU x u)
  | _, _, .nil, _ => fun u hu => by cases hu
  | y :: xs, u :: us, .cons r t, f => fun u' hu => by
    rw [List.all_cons, Bool.and_eq_true] at f
    rcases List.mem_cons.mp hu with rfl | hu
    · rw [eqU_of r f.1]; exact eqAt_V r rx f.1 fx
    · exact mem_eqAt rx fx t f.2 u' hu
def inV (x : V) (xs : List V) : Bool := xs.any fun y => eqV y x
/-- x in a list or tuple of flat items -/
def rIn (K : PySem.W.Frag) (neg : Bool) : R2 := fun x y H Q => ∃ p xs, y = .ref p ∧ (SqL K H p xs ∨ SqT K H p xs) ∧ flatV x = true ∧ xs.all flatV = true ∧ Q (.bl (if neg then !inV x xs else inV x xs)) H
theorem op_in_seq : OpR X (compareOp .In) (rIn X.K false) := by
  intro pins s σ H x y v u Q I rx ry h
  obtain ⟨p, xs, rfl, hq, fx, fs, q⟩ := h
  cases ry
  rcases hq with hq | hq
  · obtain ⟨its, r, pl, hz⟩ := I.list hq
    refine SeqAt.in_listAt (eqU x) pl.isList (fun w hw => mem_eqAt rx fx r fs w (by simpa using hw)) ⟨.bl _, H, I, rfl, ?_⟩
    rw [show its.toArray.any (eqU x) = its.any (eqU x) by simp, any_eqU r fs]
    exact q
  · obtain ⟨its, r, pl, hz⟩ := I.tuple hq
    refine SeqAt.in_tupleAt (eqU x) pl (fun w hw => mem_eqAt rx fx r fs w (by simpa using hw)) ⟨.bl _, H, I, rfl, ?_⟩
    rw [show its.toArray.any (eqU x) = its.any (eqU x) by simp, any_eqU r fs]
    exact q
theorem op_notIn_seq : OpR X (compareOp .NotIn) (rIn X.K true) := by
  intro pins s σ H x y v u Q I rx ry h
  obtain ⟨p, xs, rfl, hq, fx, fs, q⟩ := h
  cases ry
  rcases hq with hq | hq
  · obtain ⟨its, r, pl, hz⟩ := I.list hq
    refine SeqAt.notIn_listAt (eqU x) pl.isList (fun w hw => mem_eqAt rx fx r fs w (by simpa using hw)) ⟨.bl _, H, I, rfl, ?_⟩
    rw [show its.toArray.any (eqU x) = its.any (eqU x) by simp, any_eqU r fs]
    exact q
  · obtain ⟨its, r, pl, hz⟩ := I.tuple hq
    refine SeqAt.notIn_tupleAt (eqU x) pl (fun w hw => mem_eqAt rx fx r fs w (by simpa using hw)) ⟨.bl _, H, I, rfl, ?_⟩
    rw [show its.toArray.any (eqU x) = its.any (eqU x) by simp, any_eqU r fs]
    exact q
theorem op_notIn_str : OpR X (compareOp .NotIn) (fun x y H Q => ∃ i j, x = .str i ∧ y = .str j ∧ Q (.bl (!(!(Builtin.Str.occurrences j i 0 j.length 1).isEmpty))) H) := by
  intro pins s σ H x y v u Q I rx ry h
  obtain ⟨i, j, rfl, rfl, q⟩ := h
  obtain ⟨t, rfl⟩ := rx
  obtain ⟨t', rfl⟩ := ry
  exact notIn_str ⟨.bl _, H, I, rfl, q⟩

/-! ### len, list(x), tuple(x) of any list or tuple that is read -/
theorem call_len_seq : CallR X (.builtin "len") (fun xs H Q => ∃ p ys, xs = [.ref p] ∧ (SqL X.K H p ys ∨ SqT X.K H p ys) ∧ Q (.int ys.length) H) := by
  intro pins s σ H xs us Q I r h
  obtain ⟨p, ys, rfl, hq, q⟩ := h
  obtain ⟨u, rfl, rx⟩ := vals1 r
  cases rx
  have hn := line63
  rcases hq with hq | hq
  · obtain ⟨its, r', pl, hz⟩ := I.list hq
    have hlen := r'.length
    exact Calls.call_len_list pl.isList (by simp only [List.size_toArray] <;> omega) ⟨.int ys.length, H, I.tok _, ⟨s.toks + 1, by rw [List.size_toArray, hlen]⟩, q⟩
  · obtain ⟨its, r', pl, hz⟩ := I.tuple hq
    have hlen := r'.length
    exact len_tuple pl (by simp only [List.size_toArray] <;> omega) ⟨.int ys.length, H, I.tok _, ⟨s.toks + 1, by rw [List.size_toArray, hlen]⟩, q⟩
theorem call_len_str : CallR X (.builtin "len") (fun xs H Q => ∃ z, xs = [.str z] ∧ z.length ≤ sizeLine ∧ Q (.int z.length) H) := by
  intro pins s σ H xs us Q I r h
  obtain ⟨z, rfl, hz, q⟩ := h
  obtain ⟨u, rfl, t, rfl⟩ := vals1 r
  have hn := line63
  exact len_str (by omega) ⟨.int z.length, H, I.tok _, ⟨_, rfl⟩, q⟩
theorem CallR.or {f : Value} {r r' : List V → Hp → VK → Prop} (h : CallR X f r) (h' : CallR X f r') : CallR X f (fun xs H Q => r xs H Q ∨ r' xs H Q) := by
  intro pins s σ H xs us Q I rs q
  rcases q with q | q
  · exact h pins s σ H xs us Q I rs q
  · exact h' pins s σ H xs us Q I rs q
theorem call_list_of : CallR X (.type "list") (fun xs H Q => ∃ p ys, xs = [.ref p] ∧ (SqL X.K H p ys ∨ SqT X.K H p ys) ∧ ∀ l, H l = none → Q (.ref l) (upd H l (.lst ys))) := by
  intro pins s σ H xs us Q I r h
  obtain ⟨p, ys, rfl, hq, q⟩ := h
  obtain ⟨u, rfl, rx⟩ := vals1 r
  cases rx
  have fin : ∀ (its : List Value), Vals ys its → ys.length ≤ sizeLine → ∀ (h' : Heap) (c' : Nat), (∀ b o', s.heap.get? b = some o' → h'.get? b = some o') →
      h'.get? s.heap.objs.size = some { cls := .type "list", dict := none, data := .seq its.toArray c', slots := #[] } → EP X pins σ Q (.ref s.heap.objs.size) { s with heap := h' } := fun its r' hz h' c' kp e =>
    ⟨.ref s.heap.objs.size, _, I.laid (t' := s.toks) kp (Nat.le_refl _) (show ObjOk X.prog X.w _ h' _ (.lst ys) from ⟨hz, its, c', r', e⟩), rfl, q _ (I.hok.fresh (Nat.le_refl _))⟩
  rcases hq with hq | hq
  · obtain ⟨its, r', pl, hz⟩ := I.list hq
    have hlen := r'.length
    obtain ⟨o, ho, hc, n, hd⟩ := pl.isList
    exact call_list_seq p (.inl rfl) ho hc hd (fun h' c' kp e => fin its r' hz h' c' kp e) (by simp only [List.size_toArray] <;> omega)
  · obtain ⟨its, r', pl, hz⟩ := I.tuple hq
    have hlen := r'.length
    obtain ⟨o, ho, hc, n, hd⟩ := pl
    exact call_list_seq p (.inr rfl) ho hc hd (fun h' c' kp e => fin its r' hz h' c' kp e) (by simp only [List.size_toArray] <;> omega)
theorem call_tuple_of : CallR X (.type "tuple") (fun xs H Q => ∃ p ys, xs = [.ref p] ∧ ((SqL X.K H p ys ∧ ∀ l, H l = none → Q (.ref l) (upd H l (.tup ys))) ∨ (SqT X.K H p ys ∧ Q (.ref p) H))) := by
  intro pins s σ H xs us Q I r h
  obtain ⟨p, ys, rfl, h⟩ := h
  obtain ⟨u, rfl, rx⟩ := vals1 r
  cases rx
  rcases h with ⟨hq, q⟩ | ⟨hq, q⟩
  · obtain ⟨its, r', pl, hz⟩ := I.list hq
    have hlen := r'.length
    refine call_tuple_list pl.isList (fun h' kp => ?_) (by simp only [List.size_toArray] <;> omega)
    have I1 : Inv X pins σ H { s with heap := h' } := I.kept (t' := s.toks) kp
    have I2 : Inv X pins σ (upd H h'.objs.size (.tup ys)) { s with heap := h'.push { cls := .type "tuple", data := .seq its.toArray } } :=
      I1.laid (t' := s.toks) (fun b o e => Heap.get?_push_of_some _ e) (Nat.le_refl _) (show ObjOk X.prog X.w _ _ _ (.tup ys) from ⟨hz, its, r', IsTup.new _ _⟩)
    exact ⟨.ref h'.objs.size, _, I2, rfl, q _ (I1.hok.fresh (Nat.le_refl _))⟩
  · obtain ⟨its, r', pl, hz⟩ := I.tuple hq
    exact call_tuple_same pl ⟨.ref p, H, I, rfl, q⟩

/-! ### the call of a builtin's method: o.m(..) -/
/-- the value is of that builtin type -/
def tyV (K : PySem.W.Frag) (T : String) (x : V) (H : Hp) : Prop := match x with
  | .str _ => T = "str"
  | .int _ => T = "int"
  | .ref p => (T = "list" ∧ ∃ xs, SqL K H p xs) ∨ (T = "tuple" ∧ ∃ o, K.lookup p = some o ∧ o.cls = .type "tuple" ∧ o.dict = none) ∨
      (T = "dict" ∧ ((∃ kvs, H p = some (.dK kvs)) ∨ ∃ kvs, H p = some (.dT kvs))) ∨ (T = "set" ∧ ∃ S n, H p = some (.set S n))
  | _ => False
theorem tyV_is {pins : List (Addr × Obj)} {σ : St} {H : Hp} {s : Shared} {T : String} {x : V} {v : Value} (I : Inv X pins σ H s) (r : RelV x v) (ty : tyV X.K T x H) :
    s.TypeIs v T ∧ ∀ a, v = .ref a → ∃ ob, s.heap.get? a = some ob ∧ ob.dict = none := by
  cases x with
  | str z =>
    obtain ⟨t, rfl⟩ := r
    cases (show T = "str" from ty)
    exact ⟨typeIs_str s z t, fun _ e => nomatch e⟩
  | int i =>
    obtain ⟨t, rfl⟩ := r
    cases (show T = "int" from ty)
    exact ⟨typeIs_int s i t, fun _ e => nomatch e⟩
  | ref p =>
    cases r
    rcases ty with ⟨rfl, xs, hq⟩ | ⟨rfl, o, hk, hc, hd⟩ | ⟨rfl, hk⟩ | ⟨rfl, S, n, hk⟩
    · obtain ⟨its, _, pl, _⟩ := I.list hq
      refine ⟨pl.isList.typeIs, fun a e => ?_⟩
      cases e
      obtain ⟨o, n, e, c, hd, _⟩ := pl
      exact ⟨o, e, hd⟩
    · refine ⟨⟨o, I.kIn p o hk, hc⟩, fun a e => ?_⟩
      cases e
      exact ⟨o, I.kIn _ o hk, hd⟩
    · have z : ∃ o, s.heap.get? p = some o ∧ o.ExactDict := by
        rcases hk with ⟨kvs, hk⟩ | ⟨kvs, hk⟩
        · obtain ⟨_, _, _, _, o, _, _, e, ex, _⟩ := I.hok p _ hk
          exact ⟨o, e, ex⟩
        · obtain ⟨_, _, _, _, o, _, _, e, ex, _⟩ := I.hok p _ hk
          exact ⟨o, e, ex⟩
      obtain ⟨o, e, ex⟩ := z
      refine ⟨⟨o, e, ex.1⟩, fun a e2 => ?_⟩
      cases e2
      exact ⟨o, e, ex.2.1⟩
    · obtain ⟨o, _, _, _, e, ex, _⟩ := I.hok p _ hk
      refine ⟨⟨o, e, ex.1⟩, fun a e2 => ?_⟩
      cases e2
      exact ⟨o, e, ex.2.1⟩
  | _ => exact False.elim ty
def tBM0 (K : PySem.W.Frag) (T : String) (r : V → List V → Hp → VK → Prop) (to : TE) : TE := fun σ H Q => to σ H fun x H1 => tyV K T x H1 ∧ r x [] H1 Q
def tBM (K : PySem.W.Frag) (T : String) (r : V → List V → Hp → VK → Prop) (to : TE) (t : TA) : TE := fun σ H Q => to σ H fun x H1 => tyV K T x H1 ∧ t σ H1 fun xs H2 => r x xs H2 Q
variable {o e : Expr} {es : List Expr} {to : TE} {t : TA} {name : Str} {apos cpos : Pos} {T id : String} {r : V → List V → Hp → VK → Prop}
theorem pe_bm0 (pa : PlainAttrs T) (slot : Slot T name id) (hty : typeOf (.builtin id) = pure (.type "method_descriptor")) (hm : MtR X id r) (ho : PE X o to)
    (hbase : attributeBase o name X.env (eval o X.env) = eval o X.env := by rfl) (hline : (apos.endLine == cpos.line) = true := by rfl) : PE X (.Call (.Attribute o name apos) [] [] cpos) (tBM0 X.K T r to) := by
  intro pins s σ H Q I h
  refine wpAny_Call_method0_late hbase hline (thn (ho pins s σ H _ I h) fun v s1 ⟨x, H1, I1, r1, ty, q1⟩ => ?_)
  obtain ⟨h1, h2⟩ := tyV_is I1 r1 ty
  exact ⟨T, id, pa, slot, hty, h1, h2, Calls.callWith_builtin rfl (PySem.evalArgs_none (hm pins s1 σ H1 x [] v [] Q I1 r1 .nil q1))⟩
theorem pe_bm (pa : PlainAttrs T) (slot : Slot T name id) (hty : typeOf (.builtin id) = pure (.type "method_descriptor")) (hm : MtR X id r) (ho : PE X o to) (ha : PA X (e :: es) t)
    (hbase : attributeBase o name X.env (eval o X.env) = eval o X.env := by rfl)
    (hfew : ((backTo cpos (starEach (e :: es) X.env)).all (fun x => !x.1) && (backToKw cpos (keywordEach [] X.env)).all (fun x => x.1.isSome)
      && decide ((e :: es).length + ([] : List Keyword).length + (if ([] : List Keyword).isEmpty then 0 else 1) < 30)) = true := by rfl)
    (hline : (apos.endLine == cpos.line) = true := by rfl) (hs : starEach (e :: es) X.env = (false, eval e X.env) :: starEach es X.env := by rfl) (hplain : (backTo cpos (starEach es X.env)).any (·.1) = false := by rfl) :
    PE X (.Call (.Attribute o name apos) (e :: es) [] cpos) (tBM X.K T r to t) := by
  intro pins s σ H Q I h
  refine wpAny_Call_method_late hbase hfew hline rfl (thn (ho pins s σ H _ I h) fun v s1 ⟨x, H1, I1, r1, ty, q1⟩ => ?_)
  obtain ⟨h1, h2⟩ := tyV_is I1 r1 ty
  refine ⟨T, id, pa, slot, hty, h1, h2, ?_⟩
  have hA := ha cpos pins s1 σ H1 _ I1 q1
  rw [hs] at hA ⊢
  refine Calls.callWith_builtin (by show (false || (backTo cpos (starEach es X.env)).any (·.1)) = false; rw [hplain] <;> rfl) (Calls.evalArgs_plain ?_)
  exact thn hA fun us s2 ⟨vs, H2, I2, r2, q2⟩ => hm pins s2 σ H2 x vs v us Q I2 r1 r2 q2
/- xs.append(e), list.index on a module's tuple .. are MtR facts of 06m -/
end
end L2

namespace L2
open PySem PySem.Spec PyProof.Rows

def MtM (X : Cx) (id : String) (r : V → List V → Hp → VK → Prop) : Prop :=
  ∀ (pins : List (Addr × Obj)) (s : Shared) (σ : St) (H : Hp) (x : V) (xs : List V) (v : Value) (us : List Value) (Q : VK), Inv X pins σ H s → RelV x v → Vals xs us → r x xs H Q →
    wpAny (model X.prog X.w) X.A (call (.builtin id) (v :: us)) (EP X pins σ Q) X.xe s

/-! ### lists of values -/
theorem Vals.one : ∀ {x : V} {us : List Value}, Vals [x] us → ∃ u, us = [u] ∧ RelV x u
  | _, _, .cons r .nil => ⟨_, rfl, r⟩
theorem Vals.two : ∀ {x y : V} {us : List Value}, Vals [x, y] us → ∃ u v, us = [u, v] ∧ RelV x u ∧ RelV y v
  | _, _, _, .cons r (.cons q .nil) => ⟨_, _, rfl, r, q⟩
theorem Vals.zero : ∀ {us : List Value}, Vals [] us → us = []
  | _, .nil => rfl
theorem Vals.dropLast {xs : List V} {us : List Value} (h : Vals xs us) : Vals xs.dropLast us.dropLast := by
  induction h with
  | nil => exact .nil
  | cons r t ih =>
    cases t with
    | nil => exact .nil
    | cons q t' => exact .cons r ih
theorem Vals.eraseIdx : ∀ {xs : List V} {us : List Value} (i : Nat), Vals xs us → Vals (xs.eraseIdx i) (us.eraseIdx i)
  | _, _, _, .nil => .nil
  | _, _, 0, .cons _ t => t
  | _, _, i + 1, .cons r t => .cons r (Vals.eraseIdx i t)
theorem Vals.reverse {xs : List V} {us : List Value} (h : Vals xs us) : Vals xs.reverse us.reverse := by
  induction h with
  | nil => exact .nil
  | cons r t ih => rw [List.reverse_cons, List.reverse_cons]; exact Vals.append ih (.cons r .nil)
theorem Vals.rep {xs : List V} {us : List Value} (h : Vals xs us) : ∀ k : Nat, Vals (List.replicate k xs).flatten (List.replicate k us).flatten
  | 0 => .nil
  | k + 1 => by
    rw [List.replicate_succ, List.replicate_succ, List.flatten_cons, List.flatten_cons]
    exact Vals.append h (Vals.rep h k)
theorem erase_last {α : Type} (l : List α) : l.eraseIdx (l.length - 1) = l.dropLast := by
  induction l with
  | nil => rfl
  | cons a r ih =>
    cases r with
    | nil => rfl
    | cons b r =>
      have e : (a :: b :: r).length - 1 = ((b :: r).length - 1) + 1 := by
        have h1 : (a :: b :: r).length = r.length + 2 := rfl
        have h2 : (b :: r).length = r.length + 1 := rfl
        omega
      rw [e, List.eraseIdx_cons_succ, ih]
      all_goals rfl
theorem len_erase {α : Type} : ∀ (l : List α) (i : Nat), (l.eraseIdx i).length ≤ l.length
  | [], _ => Nat.le_refl _
  | _ :: _, 0 => Nat.le_succ _
  | _ :: r, i + 1 => Nat.succ_le_succ (len_erase r i)
theorem foldl_rep (its : List Value) : ∀ (k : Nat) (acc : List Value),
    List.foldl (fun x1 x2 => x1 ++ x2) acc.toArray (List.replicate k its.toArray) = (acc ++ (List.replicate k its).flatten).toArray
  | 0, acc => by simp
  | k + 1, acc => by
    have e : acc.toArray ++ its.toArray = (acc ++ its).toArray := by simp
    have e2 : (acc ++ its) ++ (List.replicate k its).flatten = acc ++ (List.replicate (k + 1) its).flatten := by
      rw [List.replicate_succ, List.flatten_cons, List.append_assoc]
    rw [← e2, ← foldl_rep its k (acc ++ its), ← e, List.replicate_succ, List.foldl_cons]

section
variable {X : Cx} {pins : List (Addr × Obj)} {σ : St} {H : Hp} {s : Shared} {l b : Addr} {xs ys zs : List V}

/-! ### the two steps: a tracked list is rewritten, a new list is laid -/
theorem Inv.lset {its its' : List Value} {n : Nat} {f : Array Value → Array Value} {t' : Nat} (I : Inv X pins σ H s) (hH : H l = some (.lst xs))
    (e : s.heap.get? l = some { cls := .type "list", data := .seq its.toArray n }) (hf : f its.toArray = its'.toArray) (hv : Vals ys its') (hz : ys.length ≤ sizeLine) :
    Inv X pins σ (upd H l (.lst ys)) { s with heap := s.heap.update l (Obj.mapSeq f), toks := t' } := by
  have q := PySem.IsL.update e f
  rw [hf] at q
  refine I.write (x := l) (e := l) (by rw [hH]; exact trivial) (.inl rfl) (fun b' u hb hu => (Heap.get?_update_other s.heap (Obj.mapSeq f) (Ne.symm hb)).trans hu) ⟨_, q⟩ ?_
  exact ⟨hz, its', _, hv, q⟩
theorem Inv.lnew {its : List Value} {t' : Nat} (I : Inv X pins σ H s) (hv : Vals ys its) (hz : ys.length ≤ sizeLine) :
    Inv X pins σ (upd H s.heap.objs.size (.lst ys)) { s with heap := s.heap.push { cls := .type "list", data := .seq its.toArray }, toks := t' } :=
  I.laid (fun _ _ q => Heap.get?_push_of_some _ q) (Nat.le_refl _) ⟨hz, its, 0, hv, Heap.get?_push_size _ rfl⟩
theorem Inv.fresh (I : Inv X pins σ H s) : H s.heap.objs.size = none := I.hok.fresh (Nat.le_refl _)
theorem Inv.lstM (I : Inv X pins σ H s) (hH : H l = some (.lst xs)) : xs.length ≤ sizeLine ∧ ∃ (its : List Value) (n : Nat), Vals xs its ∧ xs.length = its.length ∧ s.heap.get? l = some { cls := .type "list", data := .seq its.toArray n } := by
  obtain ⟨z, its, n, r, e⟩ := I.hok l _ hH
  exact ⟨z, its, n, r, r.length, e⟩

theorem notLongL {n : Nat} (h : n ≤ sizeLine) : Builtin.List.listTooLong n = false := by
  unfold Builtin.List.listTooLong
  exact decide_eq_false (by omega)
end

section
variable {X : Cx}

/-! ### methods -/
def rAppend : V → List V → Hp → VK → Prop := fun x vs H Q => ∃ l xs y, x = .ref l ∧ vs = [y] ∧ H l = some (.lst xs) ∧ xs.length < sizeLine ∧ Q .non (upd H l (.lst (xs ++ [y])))
theorem mt_append : MtM X "list.append" rAppend := by
  intro pins s σ H x vs v us Q I rx rv h
  obtain ⟨l, xs, y, rfl, rfl, hH, hz, q⟩ := h
  cases rx
  obtain ⟨u, rfl, ru⟩ := rv.one
  obtain ⟨z, its, n, r, hl, e⟩ := I.lstM hH
  refine call_meets F.slot_list_append ⟨_, e, rfl⟩ F.entry_list_append (F.args_list_append_2 _ _) (PySem.list_append l its.toArray n u (by rw [List.size_toArray]; omega)) ⟨e, ?_⟩
  refine ⟨.non, _, I.lset (its' := its ++ [u]) hH e (by simp) (r.append (.cons ru .nil)) ?_, rfl, q⟩
  rw [List.length_append, List.length_singleton]
  omega

def rExtend : V → List V → Hp → VK → Prop := fun x vs H Q => ∃ l b xs zs, x = .ref l ∧ vs = [.ref b] ∧ H l = some (.lst xs) ∧ H b = some (.lst zs) ∧ xs.length + zs.length ≤ sizeLine ∧ Q .non (upd H l (.lst (xs ++ zs)))
theorem mt_extend : MtM X "list.extend" rExtend := by
  intro pins s σ H x vs v us Q I rx rv h
  obtain ⟨l, b, xs, zs, rfl, rfl, hH, hB, hz, q⟩ := h
  cases rx
  obtain ⟨u, rfl, ru⟩ := rv.one
  cases ru
  obtain ⟨z, its, n, r, hl, e⟩ := I.lstM hH
  obtain ⟨z2, its2, n2, r2, hl2, e2⟩ := I.lstM hB
  have hsz : its.toArray.size + its2.toArray.size ≤ sizeLine := by rw [List.size_toArray, List.size_toArray]; omega
  have hlong : ¬ (!its.toArray.isEmpty && Builtin.List.listTooLong (its.toArray.size + its2.toArray.size)) = true := by
    rw [notLongL hsz, Bool.and_false]
    exact Bool.false_ne_true
  refine call_meets F.slot_list_extend ⟨_, e, rfl⟩ F.entry_list_extend (F.args_list_extend_2 _ _)
    (AutoSeq1.list_extend_list_list_0 l its.toArray n b its2.toArray n2 hlong (by rw [List.size_toArray]; omega) (by omega)) ⟨e, e2, ?_⟩
  refine ⟨.non, _, I.lset (its' := its ++ its2) hH e (by simp) (r.append r2) ?_, rfl, q⟩
  rw [List.length_append]
  omega

def rPop : V → List V → Hp → VK → Prop := fun x vs H Q => ∃ l xs y, x = .ref l ∧ vs = [] ∧ H l = some (.lst xs) ∧ xs[xs.length - 1]? = some y ∧ Q y (upd H l (.lst xs.dropLast))
theorem mt_pop : MtM X "list.pop" rPop := by
  intro pins s σ H x vs v us Q I rx rv h
  obtain ⟨l, xs, y, rfl, rfl, hH, hy, q⟩ := h
  cases rx
  have hus := rv.zero
  subst hus
  obtain ⟨z, its, n, r, hl, e⟩ := I.lstM hH
  obtain ⟨u, hu, ru⟩ := r.get hy
  have hy' : its.toArray[its.toArray.size - 1]? = some u := by
    show its.toArray[its.length - 1]? = some u
    rw [← Array.getElem?_toList, ← hl]
    exact hu
  refine call_meets F.slot_list_pop ⟨_, e, rfl⟩ F.entry_list_pop (F.args_list_pop_1 _) (MeetsSeq.list_pop_last l its.toArray n u hy' (by rw [List.size_toArray]; omega)) ⟨e, ?_⟩
  refine ⟨y, _, I.lset (its' := its.dropLast) hH e ?_ r.dropLast ?_, ru, q⟩
  · show its.toArray.eraseIdxIfInBounds (its.toArray.size - 1) = its.dropLast.toArray
    rw [List.size_toArray, List.eraseIdxIfInBounds_toArray, erase_last]
  · rw [List.length_dropLast]
    omega

def rPopAt : V → List V → Hp → VK → Prop := fun x vs H Q => ∃ l xs i k y, x = .ref l ∧ vs = [.int i] ∧ H l = some (.lst xs) ∧ -(2 ^ 63) ≤ i ∧ i < 2 ^ 63 ∧ seqIndex? i xs.length = some k ∧ xs[k]? = some y ∧ Q y (upd H l (.lst (xs.eraseIdx k)))
theorem mt_popAt : MtM X "list.pop" rPopAt := by
  intro pins s σ H x vs v us Q I rx rv h
  obtain ⟨l, xs, i, k, y, rfl, rfl, hH, h1, h2, hk, hy, q⟩ := h
  cases rx
  obtain ⟨u, rfl, ru⟩ := rv.one
  obtain ⟨t, rfl⟩ := ru
  obtain ⟨z, its, n, r, hl, e⟩ := I.lstM hH
  obtain ⟨w, hw, rw'⟩ := r.get hy
  refine call_meets F.slot_list_pop ⟨_, e, rfl⟩ F.entry_list_pop (F.args_list_pop_2 _ _)
    (MeetsSeq.list_pop_at l its.toArray n i t k w (fitsIndex_both h1 h2) (by rw [List.size_toArray, ← hl]; exact hk) (by rw [← Array.getElem?_toList]; exact hw) (by rw [List.size_toArray]; omega)) ⟨e, ?_⟩
  refine ⟨y, _, I.lset (its' := its.eraseIdx k) hH e ?_ (r.eraseIdx k) ?_, rw', q⟩
  · show its.toArray.eraseIdxIfInBounds k = (its.eraseIdx k).toArray
    rw [List.eraseIdxIfInBounds_toArray]
  · have := len_erase xs k
    omega

def rReverse : V → List V → Hp → VK → Prop := fun x vs H Q => ∃ l xs, x = .ref l ∧ vs = [] ∧ H l = some (.lst xs) ∧ Q .non (upd H l (.lst xs.reverse))
theorem mt_reverse : MtM X "list.reverse" rReverse := by
  intro pins s σ H x vs v us Q I rx rv h
  obtain ⟨l, xs, rfl, rfl, hH, q⟩ := h
  cases rx
  have hus := rv.zero
  subst hus
  obtain ⟨z, its, n, r, hl, e⟩ := I.lstM hH
  refine call_meets F.slot_list_reverse ⟨_, e, rfl⟩ F.entry_list_reverse (F.args_list_reverse_1 _) (AutoSeq1.list_reverse_list_0 l its.toArray n (by rw [List.size_toArray]; omega)) ⟨e, ?_⟩
  refine ⟨.non, _, I.lset (its' := its.reverse) hH e (by simp) r.reverse ?_, rfl, q⟩
  rw [List.length_reverse]
  omega

def rClear : V → List V → Hp → VK → Prop := fun x vs H Q => ∃ l xs, x = .ref l ∧ vs = [] ∧ H l = some (.lst xs) ∧ Q .non (upd H l (.lst []))
theorem mt_clear : MtM X "list.clear" rClear := by
  intro pins s σ H x vs v us Q I rx rv h
  obtain ⟨l, xs, rfl, rfl, hH, q⟩ := h
  cases rx
  have hus := rv.zero
  subst hus
  obtain ⟨z, its, n, r, hl, e⟩ := I.lstM hH
  refine call_meets F.slot_list_clear ⟨_, e, rfl⟩ F.entry_list_clear (F.args_list_clear_1 _) (AutoSeq1.list_clear_list_0 l its.toArray n (by rw [List.size_toArray]; omega)) ⟨e, ?_⟩
  exact ⟨.non, _, I.lset (its' := []) (ys := []) hH e rfl .nil (Nat.zero_le _), rfl, q⟩

/-! ### list + list, list += list, list * int -/
def rCat : R2 := fun x y H Q => ∃ l b xs zs, x = .ref l ∧ y = .ref b ∧ H l = some (.lst xs) ∧ H b = some (.lst zs) ∧ xs.length + zs.length ≤ sizeLine ∧ ∀ p, H p = none → Q (.ref p) (upd H p (.lst (xs ++ zs)))
theorem op_cat : OpR X (binaryOp .Add) rCat := by
  intro pins s σ H x y v u Q I rx ry h
  obtain ⟨l, b, xs, zs, rfl, rfl, hH, hB, hz, q⟩ := h
  cases rx
  cases ry
  obtain ⟨z, its, n, r, hl, e⟩ := I.lstM hH
  obtain ⟨z2, its2, n2, r2, hl2, e2⟩ := I.lstM hB
  refine PySem.P.add_list e e2 ?_ (by rw [List.size_toArray, List.size_toArray]; omega)
  have ea : its.toArray ++ its2.toArray = (its ++ its2).toArray := by simp
  rw [ea]
  exact ⟨.ref _, _, I.lnew (t' := s.toks) (r.append r2) (by rw [List.length_append]; omega), rfl, q _ I.fresh⟩
/-- a list times an int (a negative one is nothing) -/
def rRep : R2 := fun x y H Q => ∃ l k xs, x = .ref l ∧ y = .int k ∧ H l = some (.lst xs) ∧ -(2 ^ 63) ≤ k ∧ k < 2 ^ 63 ∧ xs.length * k.toNat ≤ sizeLine ∧
  ∀ p, H p = none → Q (.ref p) (upd H p (.lst (List.replicate k.toNat xs).flatten))
theorem len_rep {α : Type} (xs : List α) (k : Nat) : (List.replicate k xs).flatten.length = k * xs.length := by
  induction k with
  | zero => simp
  | succ k ih => rw [List.replicate_succ, List.flatten_cons, List.length_append, ih, Nat.succ_mul, Nat.add_comm]
theorem op_rep : OpR X (binaryOp .Mult) rRep := by
  intro pins s σ H x y v u Q I rx ry h
  obtain ⟨l, k, xs, rfl, rfl, hH, h1, h2, hz, q⟩ := h
  cases rx
  obtain ⟨t, rfl⟩ := ry
  obtain ⟨z, its, n, r, hl, e⟩ := I.lstM hH
  have hlen : its.toArray.size * k.toNat ≤ sizeLine := by rw [List.size_toArray, ← hl]; exact hz
  have hcap : ¬ its.toArray.size * k.toNat > (2 ^ 63 - 1) / 8 := by
    have : (sizeLine : Nat) ≤ (2 ^ 63 - 1) / 8 := by decide
    omega
  have hfit : ¬ (!Builtin.List.listFitsIndex k) = true := by
    rw [fitsIndex_both h1 h2]
    exact Bool.false_ne_true
  have hlong : ¬ Builtin.List.listTooLong (its.toArray.size * k.toNat) = true := by
    rw [notLongL hlen]
    exact Bool.false_ne_true
  have hnew : List.foldl (fun x1 x2 => x1 ++ x2) #[] (List.replicate (if its.toArray.isEmpty = true then 0 else k.toNat) its.toArray) = (List.replicate k.toNat its).flatten.toArray := by
    have f0 : ∀ m : Nat, List.foldl (fun x1 x2 => x1 ++ x2) #[] (List.replicate m its.toArray) = (List.replicate m its).flatten.toArray := fun m => by
      have := foldl_rep its m []
      rw [List.nil_append] at this
      exact this
    rw [f0]
    cases its with
    | nil => simp
    | cons a r' => rw [if_neg (by simp)]
  refine wpAny_binaryOp_repeat_ref (T := "list") (U := "int") (by decide) ⟨_, e, rfl⟩ (fun s' => typeIs_int s' k t) noFill_list_mul F.fills_int_mul F.slot_int_rmul repeat_list F.slot_int_index.lookup
    (call_meets F.slot_int_rmul (typeIs_int s k t) F.entry_int_rmul (F.args_int_rmul_2 _ _) (int___rmul___int_list k t l its.toArray n)
      ⟨e, rfl, ⟨_, e, rfl⟩, call_meets F.slot_list_mul ⟨_, e, rfl⟩ F.entry_list_mul (F.args_list_mul_2 _ _) (AutoListH.list___mul___list_int_3 l its.toArray n k t hfit hcap hlong) ⟨e, ?_⟩⟩)
  rw [hnew]
  exact ⟨.ref _, _, I.lnew (t' := s.toks) (r.rep k.toNat) (by rw [len_rep, Nat.mul_comm]; exact hz), rfl, q _ I.fresh⟩

/-! ### del xs[i] -/
theorem del_list {pins : List (Addr × Obj)} {s : Shared} {σ : St} {H : Hp} {l : Addr} {xs : List V} {i : Int} {t : Tok} {k : Nat} {Q : Unit → Shared → Prop} (I : Inv X pins σ H s) (hH : H l = some (.lst xs))
    (h1 : -(2 ^ 63) ≤ i) (h2 : i < 2 ^ 63) (hk : seqIndex? i xs.length = some k) (h : ∀ s', Inv X pins σ (upd H l (.lst (xs.eraseIdx k))) s' → Q () s') :
    wpAny (model X.prog X.w) X.A (delItem (.ref l) (.int i t)) Q X.xe s := by
  obtain ⟨z, its, n, r, hl, e⟩ := I.lstM hH
  refine PySem.P.delItem_list (k := k) e (fitsIndex_both h1 h2) (by rw [List.size_toArray, ← hl]; exact hk) (h _ ?_) (by rw [List.size_toArray]; omega)
  refine I.lset (its' := its.eraseIdx k) (t' := s.toks) hH e ?_ (r.eraseIdx k) ?_
  · show its.toArray.eraseIdxIfInBounds k = (its.eraseIdx k).toArray
    rw [List.eraseIdxIfInBounds_toArray]
  · have := len_erase xs k
    omega
end

/-! ### xs[a:b] = ys -/
section
variable {prog : Program} {w : World} {A : Around} {E : Value → Shared → Prop} {s : Shared}
theorem splice_eq (its its2 : List Value) (a c : Nat) : its.toArray.extract 0 a ++ its2.toArray ++ its.toArray.extract c its.toArray.size = (its.take a ++ its2 ++ its.drop c).toArray := by
  apply Array.toList_inj.mp
  first
    | (simp
       exact List.take_of_length_le (by simp))
    | simp [List.take_of_length_le]
    | simp
theorem bounds_run {a c n : Nat} (hac : a ≤ c) (hc : c ≤ n) : sliceBounds (some (a : Int)) (some (c : Int)) none n = ((a : Int), (c : Int), 1) := by
  simp only [sliceBounds, Option.getD_none]
  have h1 : ¬ ((a : Int) < 0) := by omega
  have h2 : ¬ ((c : Int) < 0) := by omega
  simp only [h1, h2, if_false, show (1 : Int) > 0 by decide, if_true]
  congr 1
  · omega
  · congr 1; omega
set_option maxRecDepth 100000 in
/-- list.__setitem__ with a slice of step one and another list -/
theorem setItem_slice {l b sl : Addr} {items new : Array Value} {n n2 : Nat} {vl vu : Value} {a c : Nat} {Q : Unit → Shared → Prop}
    (e : s.heap.get? l = some { cls := .type "list", data := .seq items n }) (e2 : s.heap.get? b = some { cls := .type "list", data := .seq new n2 }) (hne : l ≠ b)
    (hs : s.heap.IsSliceOf sl vl vu .none) (pl : IsPart vl (some (a : Int))) (pu : IsPart vu (some (c : Int))) (hac : a ≤ c) (hc : c ≤ items.size)
    (hsz : items.size + new.size ≤ sizeLine) (h : Q () { s with heap := s.heap.update l (Obj.mapSeq fun xs => xs.extract 0 a ++ new ++ xs.extract c xs.size) }) :
    wpAny (model prog w) A (setItem (.ref l) (.ref sl) (.ref b)) Q E s := by
  have hl : s.heap.IsList l items := PySem.IsL.isList e
  have hb : s.heap.IsList b new := PySem.IsL.isList e2
  obtain ⟨os, hos, hcs, hds⟩ := id hs
  have hTs : s.TypeIs (.ref sl) "slice" := ⟨os, hos, hcs⟩
  have hstep : ¬ ((rawPart none == rawInt 0) = true) := Bool.false_ne_true
  have hsame : Builtin.List.listSameRef (.ref l) (.ref b) = false := by
    unfold Builtin.List.listSameRef
    exact beq_eq_false_iff_ne.mpr hne
  have hmax : (max (a : Int) (c : Int)).toNat = c := by omega
  have hz' : ((fun xs : Array Value => xs.extract 0 a ++ new ++ xs.extract c xs.size) items).size ≤ sizeLine + 1 := by
    simp only [Array.size_append, Array.size_extract]
    omega
  unfold setItem
  try with_reducible refine wpAny_holding ?_
  first | refine wpAny_bind (wpAny_pure ?_) | skip
  refine wpAny_bind (wpAny_sequenceKey hl.typeIs (by decide) ?_)
  refine wpAny_bind (wpAny_callSpecial?_slot (name := Str.ofString "__setitem__") hl.typeIs slot_list_setitem
    (wpAny_call_entry slot_list_setitem hl.typeIs entry_list_setitem ?_ (args_list_setitem _ _ _)))
  show wpAny _ _ (Builtin.List.listSubscript? (.ref sl) >>= _) _ _ s
  refine wpAny_bind ?_
  unfold Builtin.List.listSubscript?
  refine wpAny_bind (wpAny_specialOf hTs slice_no_index ?_)
  simp only [Option.isNone_none, if_true]
  refine wpAny_pure ?_
  show wpAny _ _ (typeOf (.ref sl) >>= _) _ _ s
  refine wpAny_bind (wpAny_typeOf hTs ?_)
  first
    | rw [if_neg (by decide)]
    | refine PySem.W.KFB.if_not (by decide) ?_
  rw [listSliceParts_eq]
  refine wpAny_bind (wpAny_bind (wpAny_field hos hds (x := .none) rfl (wpAny_bind (wpAny_listPart .none ?_))))
  rw [if_neg hstep]
  refine wpAny_bind (wpAny_field hos hds (x := vl) rfl (wpAny_bind (wpAny_listPart pl ?_)))
  refine wpAny_bind (wpAny_field hos hds (x := vu) rfl (wpAny_bind (wpAny_listPart pu (wpAny_pure ?_))))
  first
    | simp only [hsame, Bool.false_eq_true, if_false]
    | refine PySem.W.KFB.if_not hsame ?_
    | (dsimp only
       rw [if_neg (by rw [hsame]; exact Bool.false_ne_true)])
  refine wpAny_bind (m := Builtin.List.listAllItems (.ref b) "must assign iterable to extended slice") ?_
  unfold Builtin.List.listAllItems
  refine wpAny_bind (wpAny_typeOf hb.typeIs ?_)
  first
    | refine PySem.W.KFB.if_so (by decide) ?_
    | rw [if_pos (by decide)]
    | simp only [beq_self_eq_true, Bool.true_or, if_true]
  unfold Builtin.List.listItems
  refine wpAny_bind (wpAny_seqItems e2 rfl (wpAny_pure ?_))
  refine wpAny_bind (wpAny_bind (wpAny_seqItems e rfl (wpAny_pure ?_)))
  refine wpAny_bind (wpAny_of_eq ((sliceIndices_raw (some (a : Int)) (some (c : Int)) none items.size (by simp)).trans (congrArg (pure : Int × Int × Int → Sem (Int × Int × Int)) (bounds_run hac hc))) ?_)
  show wpAny _ _ (if ((1 : Int) == 1) = true then _ else _) _ _ s
  rw [if_pos (by decide)]
  refine wpAny_bind (wpAny_rule ?_)
  first
    | simp only [notLongL hsz, Bool.false_eq_true, if_false]
    | refine PySem.W.KFB.if_not (notLongL hsz) ?_
  first | refine wpAny_bind (wpAny_pure ?_) | skip
  show wpAny _ _ (updateSeq l (fun xs => xs.extract 0 ((a : Int)).toNat ++ new ++ xs.extract (max (a : Int) (c : Int)).toNat xs.size) >>= _) _ _ s
  rw [hmax, Int.toNat_natCast]
  refine wpAny_bind (wpAny_updateSeq (hz := Nat.le_trans (Nat.le_add_right _ _) hsz) (_hz' := hz') e rfl ?_)
  refine wpAny_bind (wpAny_letGo ?_)
  first
    | exact wpAny_bind (wpAny_pure (wpAny_pure ⟨.none, rfl, wpAny_pure h⟩))
    | exact wpAny_pure ⟨.none, rfl, wpAny_pure h⟩
end

section
variable {X : Cx}
/-- xs[a:c] = ys of another list, at the value level: sl is the slice object that was just made -/
theorem set_slice {pins : List (Addr × Obj)} {s : Shared} {σ : St} {H : Hp} {l b sl : Addr} {xs ys : List V} {a c : Int} {vl vu : Value} {Q : Unit → Shared → Prop} (I : Inv X pins σ H s)
    (hH : H l = some (.lst xs)) (hB : H b = some (.lst ys)) (hne : l ≠ b) (hs : s.heap.IsSliceOf sl vl vu .none) (ra : RelV (.int a) vl) (rc : RelV (.int c) vu) (h0 : 0 ≤ a) (hac : a ≤ c) (hc : c ≤ xs.length)
    (hz : xs.length + ys.length ≤ sizeLine) (h : ∀ s', Inv X pins σ (upd H l (.lst (xs.take a.toNat ++ ys ++ xs.drop c.toNat))) s' → Q () s') :
    wpAny (model X.prog X.w) X.A (setItem (.ref l) (.ref sl) (.ref b)) Q X.xe s := by
  obtain ⟨ta, rfl⟩ := ra
  obtain ⟨tc, rfl⟩ := rc
  obtain ⟨z, its, n, r, hl, e⟩ := I.lstM hH
  obtain ⟨z2, its2, n2, r2, hl2, e2⟩ := I.lstM hB
  obtain ⟨a', rfl⟩ := Int.eq_ofNat_of_zero_le h0
  obtain ⟨c', rfl⟩ := Int.eq_ofNat_of_zero_le (Int.le_trans h0 hac)
  simp only [Int.toNat_natCast] at h
  refine setItem_slice (a := a') (c := c') e e2 hne hs (.int _ _) (.int _ _) (by omega) (by rw [List.size_toArray]; omega) (by rw [List.size_toArray, List.size_toArray]; omega) (h _ ?_)
  refine I.lset (its' := its.take a' ++ its2 ++ its.drop c') (t' := s.toks) hH e ?_ (Vals.append (Vals.append (r.take _) r2) (r.drop _)) ?_
  · exact splice_eq its its2 a' c'
  · rw [List.length_append, List.length_append, List.length_take, List.length_drop]
    omega
end
end L2

namespace Att
open PySem PySem.W PySem.Calls PyProof.Rows

/-! ### the script -/
theorem ints_of_wellAll {P : Params} {h : Heap} : ∀ (ns : List Int) (vs : List Value), WellAll P h vs (ns.map WData.int) → IntsAre vs ns := by
  intro ns
  induction ns with
  | nil =>
    intro vs w
    rw [List.map_nil] at w
    cases w
    exact .nil
  | cons n ns ih =>
    intro vs w
    rw [List.map_cons] at w
    cases w with
    | cons a b =>
      cases a
      exact .cons _ _ (ih _ b)

theorem script_of {l : OpenLaw} {n : Nat} (hn : l.most = some n) {P : Params} {h : Heap} {args : List WData} {vals : List Value}
    (hpre : l.row.toRowW.claim.pre args = true) (hwl : WellAll P h vals args) :
    ∃ a vs ns, vals = [Value.ref a] ∧ args = [WData.list (ns.map WData.int)] ∧ h.get? a = some { cls := .type "list", data := .seq vs.toArray } ∧ IntsAre vs ns ∧ ns.length ≤ n := by
  have hsh : WShape.hasAll [] args [.list .int] = true := (pre_splitW hpre).1
  have hc : l.pre.holds [] { args := args } = true := (pre_splitW hpre).2
  obtain ⟨d, r, rfl, h1, h2⟩ := hasAllW_cons hsh
  obtain rfl := hasAllW_nil h2
  obtain ⟨xs, rfl, h3⟩ := hasW_list h1
  obtain ⟨ns, rfl⟩ := items_int h3
  have hlen : ns.length ≤ n := by
    unfold OpenLaw.pre at hc
    have h4 : (WTm.not (.lt (.lit (.int (n : Int))) (.len (.arg 0)))).holds [] { args := [.list (ns.map .int)] } = true := by
      have h4 := (holds_andW hc).1
      rw [hn] at h4
      exact h4
    have h5 := condW_of h4 (w_not (w_lt w_lit (w_len_list (w_arg rfl))))
    rw [List.length_map] at h5
    refine Nat.le_of_not_lt fun q => ?_
    have q' : (n : Int) < ((ns.length : Nat) : Int) := by omega
    first
      | (rw [decide_eq_true q'] at h5; exact absurd h5 (by decide))
      | (simp at h5; omega)
  cases hwl with
  | cons w1 w2 =>
    cases w2
    cases w1 with
    | list ho hall => exact ⟨_, _, ns, rfl, rfl, ho, ints_of_wellAll ns _ hall, hlen⟩

theorem post_true (l : OpenLaw) (args : List WData) : l.row.toRowW.claim.post args (.bool true) args = true :=
  postW_of (r := l.row.toRowW) (X := (true == true))
    (show WShape.has [] (.bool true) .bool = true by first | rfl | decide | simp [WShape.has, WShape.arms, WShape.armsAll])
    (show (WTm.eq .res (.lit (.bool true))).value [] { args := args, res := some (.bool true), after := args } = some (.bool (true == true)) from w_eq_bool (w_res rfl) w_lit) rfl

/-! ### the attachment: holds_open's last premise (the goal 'hc' behind k_head) from a wpAny of the law's body -/
theorem attach {l : OpenLaw} {n : Nat} {q : Program} {loose : List Str} {XP : (Str → Option Value) → Heap → Prop} {YP : World → Heap → Prop} {d : DefRec} {x : Str}
    (hn : l.most = some n) (hdf : d.params.defaults = [])
    (hbind : ∀ pm cd doc v : Value, bindArgs (docDef d.name d.params d.body d.scope pm cd doc) ⟨[v], []⟩ = pure [(x, v)])
    (hx : d.scope.names.lookup x = some .local ∨ d.scope.names.lookup x = some .cell)
    (hk : d.scope.kind = .function) (hco : d.scope.isCoroutine = false) (hgen : d.scope.isGenerator = false)
    (body : ∀ (w : World) (s₀ s₁ s : Shared) (mg mb : Str → Option Value) (fa : Addr) (o : Obj) (pm cd doc : Value) (a : Addr) (vs : List Value) (ns : List Int),
      Ground q loose [] XP w s₀ mg mb s₁.heap → YP w s₁.heap →
      s₁.heap.get? fa = some o → o.data = .func (docDef d.name d.params d.body d.scope pm cd doc) → s₁.heap.CodeRec cd d.name → mg d.name = some (.ref fa) →
      s₁.heap.get? a = some { cls := .type "list", data := .seq vs.toArray } → IntsAre vs ns → ns.length ≤ n →
      s.gens = #[] → s.os = s₁.os →
      Fr s₁.heap s₁.heap.objs.size s.heap (bindL (envOfC d.name d.scope s₁.heap.objs.size fa cd).kindOf [(x, .ref a)] fun _ => none) →
      Cl s₁.heap.objs.size (cellsFrom (s₁.heap.objs.size + 1) d.scope.names []) s.heap (bindC (envOfC d.name d.scope s₁.heap.objs.size fa cd).kindOf [(x, .ref a)] fun _ => none) →
      wpAny (model l.prog w) (callerA.deeper (envOfC d.name d.scope s₁.heap.objs.size fa cd)) (execs d.body (envOfC d.name d.scope s₁.heap.objs.size fa cd))
        (fun f s' => f = .ret (.bool true) ∧ OldK s₁.heap s'.heap ∧ s'.os = s₁.os ∧ AllBare s'.gens) (fun _ _ => False) s) :
    WalkO q loose XP YP l.row.toRowW d [] (fun f vs => PySem.call f vs) := by
  intro w s₀ s₁ mg mb G Y fa o pm cd doc dV kV ho hd hcd hD hmg hg args vals as hpre hlay hrd hwl hlo
  obtain rfl : dV = .none := Dflts.none hD hdf
  obtain rfl : kV = .none := Dflts.noKw hD
  obtain ⟨a, vs, ns, rfl, rfl, hobj, hints, hlen⟩ := script_of hn hpre hwl
  refine enter_call ?_
  refine call_cells_ret (o := o) (by rw [depth_caller]; decide) ho (fd_plain hd) G.T.nolimit hcd (hbind pm cd doc (.ref a)) (fun y hy => ?_) (fun h₁ tk F X => ?_) hco hgen hk
  · obtain rfl : y = (x, Value.ref a) := List.mem_singleton.mp hy
    rcases hx with e | e
    · exact .inl e
    · exact .inr ⟨e, cellsFrom_some _ _ _ (.inl e)⟩
  · refine wpAny_mono (body w s₀ s₁ { s₁ with heap := h₁, toks := tk } mg mb fa o pm cd doc a vs ns G Y ho (fd_plain hd) hcd hmg hobj hints hlen hg rfl F X) (fun f s' hq => ?_) (fun _ _ hq => hq)
    obtain ⟨rfl, h2, h3, h4⟩ := hq
    exact ⟨.inl ⟨.bool true, .bool true, [], rfl, fun _ => rfl, .bool true, post_true l _, fun _ => ⟨List.Pairwise.nil, fun _ hm => (nomatch hm)⟩⟩, h2, h3, h4⟩

/-- the same from a codeAny of the CALL (for a layer whose function contracts speak of calls) -/
theorem attach_call {l : OpenLaw} {n : Nat} {q : Program} {loose : List Str} {XP : (Str → Option Value) → Heap → Prop} {YP : World → Heap → Prop} {d : DefRec}
    (hn : l.most = some n) (hdf : d.params.defaults = [])
    (call : ∀ (w : World) (s₀ s₁ : Shared) (mg mb : Str → Option Value) (fa : Addr) (o : Obj) (pm cd doc : Value) (a : Addr) (vs : List Value) (ns : List Int),
      Ground q loose [] XP w s₀ mg mb s₁.heap → YP w s₁.heap →
      s₁.heap.get? fa = some o → o.data = .func (docDef d.name d.params d.body d.scope pm cd doc) → s₁.heap.CodeRec cd d.name → mg d.name = some (.ref fa) →
      s₁.heap.get? a = some { cls := .type "list", data := .seq vs.toArray } → IntsAre vs ns → ns.length ≤ n → s₁.gens = #[] →
      codeAny (model l.prog w) callerA (.call (.ref fa) ⟨[.ref a], []⟩) (fun r s' => r = .ok (.ret (.bool true)) ∧ OldK s₁.heap s'.heap ∧ s'.os = s₁.os ∧ AllBare s'.gens) s₁) :
    WalkO q loose XP YP l.row.toRowW d [] (fun f vs => PySem.call f vs) := by
  intro w s₀ s₁ mg mb G Y fa o pm cd doc dV kV ho hd hcd hD hmg hg args vals as hpre hlay hrd hwl hlo
  obtain rfl : dV = .none := Dflts.none hD hdf
  obtain rfl : kV = .none := Dflts.noKw hD
  obtain ⟨a, vs, ns, rfl, rfl, hobj, hints, hlen⟩ := script_of hn hpre hwl
  refine enter_call (codeAny_mono (call w s₀ s₁ mg mb fa o pm cd doc a vs ns G Y ho (fd_plain hd) hcd hmg hobj hints hlen hg) fun r s' hq => ?_)
  obtain ⟨rfl, h2, h3, h4⟩ := hq
  exact ⟨.inl ⟨.bool true, .bool true, [], rfl, fun _ => rfl, .bool true, post_true l _, fun _ => ⟨List.Pairwise.nil, fun _ hm => (nomatch hm)⟩⟩, h2, h3, h4⟩

/-- the same where the top left finished generators (o_head chose holds_openN): nothing may have changed at all and no generator may be left -/
theorem attachN {l : OpenLaw} {n : Nat} {q : Program} {loose : List Str} {XP : (Str → Option Value) → Heap → Prop} {YP : World → Heap → Prop} {d : DefRec} {x : Str}
    (hn : l.most = some n) (hdf : d.params.defaults = [])
    (hbind : ∀ pm cd doc v : Value, bindArgs (docDef d.name d.params d.body d.scope pm cd doc) ⟨[v], []⟩ = pure [(x, v)])
    (hx : d.scope.names.lookup x = some .local ∨ d.scope.names.lookup x = some .cell)
    (hk : d.scope.kind = .function) (hco : d.scope.isCoroutine = false) (hgen : d.scope.isGenerator = false)
    (body : ∀ (w : World) (s₀ s₁ s : Shared) (mg mb : Str → Option Value) (fa : Addr) (o : Obj) (pm cd doc : Value) (a : Addr) (vs : List Value) (ns : List Int),
      Ground q loose [] XP w s₀ mg mb s₁.heap → YP w s₁.heap →
      s₁.heap.get? fa = some o → o.data = .func (docDef d.name d.params d.body d.scope pm cd doc) → s₁.heap.CodeRec cd d.name → mg d.name = some (.ref fa) →
      s₁.heap.get? a = some { cls := .type "list", data := .seq vs.toArray } → IntsAre vs ns → ns.length ≤ n →
      s.gens = #[] → s.os = s₁.os →
      Fr s₁.heap s₁.heap.objs.size s.heap (bindL (envOfC d.name d.scope s₁.heap.objs.size fa cd).kindOf [(x, .ref a)] fun _ => none) →
      Cl s₁.heap.objs.size (cellsFrom (s₁.heap.objs.size + 1) d.scope.names []) s.heap (bindC (envOfC d.name d.scope s₁.heap.objs.size fa cd).kindOf [(x, .ref a)] fun _ => none) →
      wpAny (model l.prog w) (callerA.deeper (envOfC d.name d.scope s₁.heap.objs.size fa cd)) (execs d.body (envOfC d.name d.scope s₁.heap.objs.size fa cd))
        (fun f s' => f = .ret (.bool true) ∧ (∀ b o, s₁.heap.get? b = some o → s'.heap.get? b = some o) ∧ s'.os = s₁.os ∧ s'.gens = #[]) (fun _ _ => False) s) :
    WalkN q loose XP YP l.row.toRowW d [] (fun f vs => PySem.call f vs) := by
  intro w s₀ s₁ mg mb G Y fa o pm cd doc dV kV ho hd hcd hD hmg hg args vals as hpre hlay hrd hwl hlo
  obtain rfl : dV = .none := Dflts.none hD hdf
  obtain rfl : kV = .none := Dflts.noKw hD
  obtain ⟨a, vs, ns, rfl, rfl, hobj, hints, hlen⟩ := script_of hn hpre hwl
  refine enter_callW ?_
  refine call_cells_ret (o := o) (by rw [depth_caller]; decide) ho (fd_plain hd) G.T.nolimit hcd (hbind pm cd doc (.ref a)) (fun y hy => ?_) (fun h₁ tk F X => ?_) hco hgen hk
  · obtain rfl : y = (x, Value.ref a) := List.mem_singleton.mp hy
    rcases hx with e | e
    · exact .inl e
    · exact .inr ⟨e, cellsFrom_some _ _ _ (.inl e)⟩
  · refine wpAny_mono (body w s₀ s₁ { s₁ with heap := h₁, toks := tk } mg mb fa o pm cd doc a vs ns G Y ho (fd_plain hd) hcd hmg hobj hints hlen hg rfl F X) (fun f s' hq => ?_) (fun _ _ hq => hq)
    obtain ⟨rfl, h2, h3, h4⟩ := hq
    exact ⟨.inl ⟨.bool true, .bool true, [], rfl, fun _ => rfl, .bool true, post_true l _, fun _ => ⟨List.Pairwise.nil, fun _ hm => (nomatch hm)⟩⟩, h2, h3, h4⟩

/-! ### rules over ANY heap (no ledger) from facts about the written part K: the library's own take a ledger (News) for what they write -/
section
variable {prog : Program} {w : World} {A : Around} {E : Value → Shared → Prop} {s : Shared} {K : Frag}

/-- a def of the module, or a method (qual 'C.m'), entered: the frame is the next address; cells behind it -/
theorem call_fn {R : Result → Shared → Prop} {name qual : Str} {params : Arguments} {body : List Stmt} {scope : Scope} {dV kV doc pm cdv ct oc : Value} {an od : Option Addr} {osl : Array (Option Value)} {f : Addr} {args : Args} {binds : List (Str × Value)}
    (X : K.In s.heap) (hlim : s.heap.NoLimit) (ho : K.lookup f = some ⟨oc, od, .func (fnOf name qual params body scope dV kV doc pm an cdv ct), osl⟩) (hcd : codeIn K cdv qual = true) (hroom : A.depth < recursionLimit)
    (hbind : BindsTo s (fnOf name qual params body scope dV kV doc pm an cdv ct) args binds)
    (hkind : (binds.all fun y => scope.names.lookup y.1 == some .local || scope.names.lookup y.1 == some .cell) = true)
    (h : ∀ s₁, InCallC s s.heap.objs.size (bindL (envOfC qual scope s.heap.objs.size f cdv).kindOf binds fun _ => none) (cellsFrom (s.heap.objs.size + 1) scope.names [])
        (bindC (envOfC qual scope s.heap.objs.size f cdv).kindOf binds fun _ => none) s₁ →
      wpAny (model prog w) (A.deeper (envOfC qual scope s.heap.objs.size f cdv)) (execs body (envOfC qual scope s.heap.objs.size f cdv))
        (fun fl s' => R (.ok (.ret (match fl with | .ret v => v | _ => .none))) s')
        (fun e s' => wpAny (model prog w) (A.deeper (envOfC qual scope s.heap.objs.size f cdv)) (leaving (envOfC qual scope s.heap.objs.size f cdv) e) (fun _ s'' => R (.error e) s'') (fun e' s'' => R (.error e') s'') s') s₁)
    (hco : scope.isCoroutine = false) (hgen : scope.isGenerator = false) (hk : scope.kind = .function) : codeAny (model prog w) A (.call (.ref f) args) R s := by
  refine codeAny_call_function hroom (X _ _ ho) rfl hco hgen rfl (codeRec_of X hcd) (hbind _ _ _ _ ?_)
  refine wpAny_newFunctionEnv_cells hk (kindsX hkind _) fun env he s₁ x => ?_
  subst he
  exact ⟨hlim.keeps x.toInCall.keep, codeAny_func (h s₁ x)⟩

/-- C(..): dict at size, instance at size + 1, then __init__ -/
theorem make_obj {R : Result → Shared → Prop} {C fI : Addr} {rest : List Value} {kw : List (Str × Value)}
    (X : K.In s.heap) (hm : makesIn K C = true) (hi : findIn K (.ref C) "__init__" = some (some (.ref fI))) (hf : isFn K (.ref fI) = true)
    (h : codeAny (model prog w) (A.under (.builtin "type.__call__" ⟨.ref C :: rest, kw⟩)) (.call (.ref fI) ⟨.ref (s.heap.objs.size + 1) :: rest, kw⟩) (InitBack (s.heap.objs.size + 1) R)
      { s with heap := (s.heap.push emptyDict).push (instObj C s.heap.objs.size) }) : codeAny (model prog w) A (.call (.ref C) ⟨rest, kw⟩) R s := by
  obtain ⟨hh, g, d, t, os⟩ := s
  exact make_core (makes_of X hm) (looks_findIn X hi) (fun self => bind_fn X self (beq_iff_eq.mp hf)) (.inl rfl) h

/-- x.name where the instance's dict holds the name and the class does not -/
theorem get_field {x C : Addr} {ox : Obj} {es : List DictEntry} {n : Nat} {name : Str} {expr : Bool} {v : Value} {Q : Value → Shared → Prop}
    (X : K.In s.heap) (I : PySem.W.InstAt s.heap x ox C (some (dictOf es n))) (hg : plainGet K C name = true) (hh : hasDictIn K C = true) (ha : findIn K (.ref C) name = some none)
    (hl : getL name es = some (some v)) (hv : handedIn v = true) (h : Q v { s with toks := s.toks + 1 }) : wpAny (model prog w) A (getAttr (.ref x) name expr) Q E s :=
  get_value X I (plainGet_of hg).1 (findObj_own hh ha rfl hl) hv h

/-- x.m(..): the method found in the class -/
theorem get_method {x C f : Addr} {ox : Obj} {es : List DictEntry} {n : Nat} {name : Str} {pl : Sem Bool} {Q : Value × List Value → Shared → Prop}
    (X : K.In s.heap) (I : PySem.W.InstAt s.heap x ox C (some (dictOf es n))) (hg : plainGet K C name = true) (hf : findIn K (.ref C) name = some (some (.ref f))) (ht : isFn K (.ref f) = true)
    (hl : getL name es = some none) (h : Q (.ref f, [.ref x]) s) : wpAny (model prog w) A (getMethod (.ref x) name pl) Q E s :=
  method_fn X I (plainGet_of hg).1 (plainGet_of hg).2 hf (beq_iff_eq.mp ht) (by show (lookIn name (dictOf es n)).map _ = _; rw [lookIn_dict, hl]; rfl) h

/-! the whole heap as the ledger: makes every rule that writes through a ledger a rule over any heap -/
def noObjs (h : Heap) : Heap := { h with objs := #[] }
theorem noObjs_get (h : Heap) (b : Addr) : (noObjs h).get? b = none := by
  cases e : (noObjs h).get? b with
  | none => rfl
  | some o => exact absurd (Heap.lt_size e) (Nat.not_lt_zero _)
def ledger (h : Heap) (L d : Addr) : List (Addr × Obj) := (List.range h.objs.size).filterMap fun a => if a = L ∨ a = d then none else (h.get? a).map fun o => (a, o)
theorem mem_ledger {h : Heap} {L d a : Addr} {o : Obj} : (a, o) ∈ ledger h L d ↔ a ≠ L ∧ a ≠ d ∧ h.get? a = some o := by
  unfold ledger
  rw [List.mem_filterMap]
  constructor
  · rintro ⟨b, _, e⟩
    split at e
    · cases e
    · rename_i hb
      obtain ⟨o', ho, e'⟩ := Option.map_eq_some_iff.mp e
      cases e'
      exact ⟨fun q => hb (.inl q), fun q => hb (.inr q), ho⟩
  · rintro ⟨n1, n2, ho⟩
    refine ⟨a, List.mem_range.mpr (Heap.lt_size ho), ?_⟩
    rw [if_neg (show ¬ (a = L ∨ a = d) from fun q => q.elim n1 n2), ho] <;> rfl
theorem news_ledger {h : Heap} {L d : Addr} {od : Obj} (hne : d ≠ L) (ho : h.get? d = some od) : News (noObjs h) L h ([] ++ (d, od) :: ledger h L d) := by
  rintro ⟨a, o⟩ hp
  rcases List.mem_cons.mp hp with e | hp
  · cases e
    exact ⟨ho, hne, noObjs_get _ _⟩
  · obtain ⟨n1, n2, e⟩ := mem_ledger.mp hp
    exact ⟨e, n1, noObjs_get _ _⟩
theorem fr_all {h : Heap} {L : Addr} {m : Str → Option Value} (n : h.Ns L m) : Fr (noObjs h) L h m :=
  ⟨n, fun b o e => (by rw [noObjs_get] at e; cases e), Nat.zero_le _⟩
/-- Upd of the head entry (for append_K, setItem_K ..) -/
theorem upd_ledger {h : Heap} {L d : Addr} {o o' : Obj} : Upd d o o' ((d, o) :: ledger h L d) ((d, o') :: ledger h L d) :=
  .head fun ⟨_, _⟩ hp => (mem_ledger.mp hp).2.1

/-- x.name = v over any heap: L is any namespace of the heap (the frame's, say): its map stays, its object is not told; all else but the dict stays -/
theorem set_field {x C dx L : Addr} {ox : Obj} {m : Str → Option Value} {es es' : List DictEntry} {n n' : Nat} {name : Str} {v : Value} {Q : Unit → Shared → Prop}
    (X : K.In s.heap) (I : PySem.W.InstAt s.heap x ox C (some (dictOf es n))) (hd : ox.dict = some dx) (hL : s.heap.Ns L m) (hne : dx ≠ L)
    (hs : findIn K (.ref C) "__setattr__" = some (some (.builtin "object.__setattr__"))) (hp : plainOver K C = true) (ht : takerIn K C name = some none) (hh : hasDictIn K C = true) (hl : (getL name es).isSome = true)
    (e : (putL name (PyData.keyHash w.params name) (.str name (s.toks + 1)) v es, putN name es n) = (es', n')) (hz : es'.length ≤ 1000)
    (h : ∀ h' : Heap, h'.Ns L m → h'.get? dx = some (dictOf es' n') → (∀ b o, b ≠ dx → b ≠ L → s.heap.get? b = some o → h'.get? b = some o) → Q () { s with heap := h', toks := s.toks + 2 }) :
    wpAny (model prog w) A (setAttr (.ref x) name v) Q E s := by
  obtain ⟨e1, e2⟩ := Prod.mk.inj e
  have hdx : s.heap.get? dx = some (dictOf es n) := by
    have := I.dict
    rw [hd] at this
    exact this
  refine set_plain X I hs (osa_dict (s := { s with toks := s.toks + 1 }) (h₀ := noObjs s.heap) (L := L) (m := m) (od := dictOf es n) (od' := dictOf es' n') (es := es') (n := n') (pre := []) (post := ledger s.heap L dx)
    (fr_all hL) (news_ledger hne hdx) X I hd hp ht hh hl (fun _ q => nomatch q) (fun ⟨_, _⟩ q => (mem_ledger.mp q).2.1) (by rw [putName_dict, e1, e2]) rfl hz fun h' F' N' => ?_)
  exact h h' F'.ns (N'.get (List.Mem.head _)) fun b o n1 n2 ho => N'.get (List.Mem.tail _ (mem_ledger.mpr ⟨n2, n1, ho⟩))
end
end Att

namespace L2
open PySem PySem.Spec PyProof.Rows

theorem vals_ints : ∀ {vs : List Value} {ns : List Int}, IntsAre vs ns → Vals (ns.map V.int) vs
  | _, _, .nil => .nil
  | _, _, .cons n t h => .cons ⟨t, rfl⟩ (vals_ints h)

/-- nothing is tracked but the script, known to the object (or it is an object of the module) -/
def Only (H : Hp) : Prop := ∀ b, H b = none ∨ ∃ o xs, H b = some (.frz o (.lst xs))

/-- THE HEAD: the law's promise, at the heap behind the top. F, the promise of the law's def, may use that base is part of the heap (so K.In base, base.Ns mainGlobals mg stand in Mod) -/
theorem law_call {P : Program} {w : World} {K : PySem.W.Frag} {mg mb : Str → Option Value} {CX : CXT} {k : Nat} {fa a : Addr} {fd : FuncData} {x : Str} {sp : Sp} {s₁ : Shared} {vs : List Value} {ns : List Int}
    (KX : K.In s₁.heap) (hns : s₁.heap.Ns mainGlobals mg) (hb : s₁.heap.Ns builtinsNs mb) (hbb : ∀ x : Str, x ≠ "__name__" → mb x = bootBuiltins x) (hlim : s₁.heap.NoLimit) (hg : s₁.gens = #[])
    (ha : s₁.heap.get? a = some { cls := .type "list", data := .seq vs.toArray }) (hi : IntsAre vs ns) (hl : ns.length ≤ sizeLine) (hr : Room k callerA)
    (F : ∀ base : Heap, K.In base → base.Ns mainGlobals mg → FnOk P w K mg base CX k fa fd [x] sp) (hbind : ∀ (s : Shared) (u : Value), BindsTo s fd ⟨[u], []⟩ [(x, u)])
    (hsp : ∀ H : Hp, Only H → SqL K H a (ns.map V.int) → sp [.ref a] H (fun v _ => v = .bl true) fun _ _ _ => False)
    (hCX : ∀ H e s', CX [] H s₁ (fun _ _ _ => False) e s' → False) :
    codeAny (model P w) callerA (.call (.ref fa) ⟨[.ref a], []⟩) (fun r s' => r = .ok (.ret (.bool true)) ∧ OldK s₁.heap s'.heap ∧ s'.os = s₁.os ∧ AllBare s'.gens) s₁ := by
  have rv := vals_ints hi
  have lenV := hi.length
  -- from an abstract heap in which nothing but the script may be tracked
  have core : ∀ H : Hp, Only H → SqL K H a (ns.map V.int) → HOk P w H s₁.heap → (∀ b, H b ≠ none → b = a) → (H a ≠ none → K.lookup a = none) →
      codeAny (model P w) callerA (.call (.ref fa) ⟨[.ref a], []⟩) (fun r s' => r = .ok (.ret (.bool true)) ∧ OldK s₁.heap s'.heap ∧ s'.os = s₁.os ∧ AllBare s'.gens) s₁ := by
    intro H hO hS hok hA hK
    have base_of : ∀ {b : Addr} {o : Obj}, s₁.heap.get? b = some o → H b = none → (hidT s₁.heap H).get? b = some o := fun e n => hidT_get e n
    have noA : ∀ {b : Addr} {o : Obj} {es : Array DictEntry} {ep : Nat}, s₁.heap.get? b = some o → o.data = .dict es ep → H b = none := fun {b o es ep} e d => by
      cases q : H b with
      | none => rfl
      | some u =>
        have e' : b = a := hA b (by rw [q]; simp)
        subst e'
        rw [ha] at e; cases e
        have d' : Data.seq vs.toArray _ = Data.dict es ep := d
        cases d'
    have nsK : ∀ {b : Addr} {m : Str → Option Value}, s₁.heap.Ns b m → (hidT s₁.heap H).Ns b m := fun {b m} ⟨o, es, ep, e, d, r⟩ => ⟨o, es, ep, base_of e (noA e d), d, r⟩
    have hKb : K.In (hidT s₁.heap H) := fun b o e => base_of (KX b o e) (by
      cases q : H b with
      | none => rfl
      | some u =>
        have e' : b = a := hA b (by rw [q]; simp)
        subst e'
        rw [hK (by rw [q]; simp)] at e; cases e)
    have hM : Mod K mg (hidT s₁.heap H) := ⟨hKb, nsK hns, ⟨mb, nsK hb, hbb⟩, let ⟨mc, h1, h2⟩ := hlim; ⟨mc, nsK h1, h2⟩⟩
    have e0 : Env0 P w K mg (hidT s₁.heap H) callerA [] s₁ H := ⟨rfl, hM, fun b o e => of_hidT e, Nat.le_of_eq (hidT_size _ _), trivial, fun b hb => absurd (show b ∈ ([] : List Addr) from hb) (by simp), hok, .of_eq hg⟩
    refine codeAny_mono ((F _ hKb (nsK hns)).run callerA [] s₁ H ⟨[.ref a], []⟩ [.ref a] [.ref a] _ _ hr e0 (hbind s₁ (.ref a)) (.cons rfl .nil) (hsp H hO hS)) fun r s' h => ?_
    cases r with
    | error e => exact (hCX H e s' h).elim
    | ok fl =>
      cases fl with
      | next => exact False.elim h
      | brk => exact False.elim h
      | cont => exact False.elim h
      | ret u =>
        obtain ⟨v, H', os, bare, un, hok', r', q⟩ := h
        have q' : v = .bl true := q
        subst q'
        obtain rfl : u = Value.bool true := r'
        refine ⟨rfl, OldK.of_keep fun b o e => ?_, os, bare⟩
        cases q : H b with
        | none => exact un.keep b o e q (by intro z; exact absurd (show b ∈ ([] : List Addr) from z) (by simp)) (by simp)
        | some u =>
          rcases hO b with z | ⟨ob, xs, z⟩
          · rw [q] at z; cases z
          · have z2 := un.frzs b ob _ z
            obtain ⟨e1, _⟩ := hok b _ z
            obtain ⟨e2, _⟩ := hok' b _ z2
            rw [e] at e1; cases e1
            exact e2
  cases hk : K.lookup a with
  | some o =>
    -- the script is one of the module's own objects
    have e := KX a o hk
    rw [ha] at e
    cases e
    refine core (fun _ => none) (fun _ => .inl rfl) (.inr ⟨_, vs.toArray, _, hk, rfl, rfl, rfl, by rw [List.size_toArray, lenV]; exact hl, by simpa using rv⟩) (fun b u z => by have z' : (none : Option HO) = some u := z; cases z') (fun b z => absurd rfl z) fun z => absurd rfl z
  | none =>
    refine core (fun b => if b = a then some (.frz { cls := .type "list", data := .seq vs.toArray } (.lst (ns.map V.int))) else none) (fun b => ?_) (.inl (.inr ⟨{ cls := .type "list", data := .seq vs.toArray }, if_pos rfl⟩)) (fun b u z => ?_) (fun b z => ?_) fun _ => hk
    · by_cases hb : b = a
      · exact .inr ⟨_, _, if_pos hb⟩
      · exact .inl (if_neg hb)
    · by_cases hb : b = a
      · have z' := (if_pos hb).symm.trans z
        cases z'
        subst hb
        exact ⟨ha, by rw [List.length_map]; exact hl, vs, _, rv, ha⟩
      · have z' := (if_neg hb).symm.trans z
        cases z'
    · by_cases hb : b = a
      · exact hb
      · exact absurd (if_neg hb) z
end L2

namespace L2
open PySem PySem.Spec PyProof.Rows

abbrev KOf {K : PySem.W.Frag} {h : Heap} (_ : K.In h) : PySem.W.Frag := K

/-- the goal that k_head leaves (case hc), from the law's promise. F gives the function object fd (K's own) once, then the promise over every base -/
theorem walk_of {l : PySem.W.OpenLaw} {n k : Nat} {q : Program} {loose : List Str} {XP : (Str → Option Value) → Heap → Prop} {YP : World → Heap → Prop} {d : DefRec} {K : Params → PySem.W.Frag} {CX : World → CXT} {sp : World → Sp} {x : Str}
    (hn : l.most = some n) (hn2 : n ≤ sizeLine) (hdf : d.params.defaults = []) (hr : Room k callerA)
    (hY : ∀ (w : World) (h : Heap), YP w h → (K w.params).In h)
    (F : ∀ (w : World) (mg : Str → Option Value) (fa : Addr) (h : Heap), (K w.params).In h → h.Ns mainGlobals mg → mg d.name = some (.ref fa) →
      ∃ fd : FuncData, (∀ (s : Shared) (u : Value), BindsTo s fd ⟨[u], []⟩ [(x, u)]) ∧
        ∀ base : Heap, (K w.params).In base → base.Ns mainGlobals mg → FnOk l.prog w (K w.params) mg base (CX w) k fa fd [x] (sp w))
    (hsp : ∀ (w : World) (H : Hp) (a : Addr) (ns : List Int), ns.length ≤ n → Only H → SqL (K w.params) H a (ns.map V.int) → sp w [.ref a] H (fun v _ => v = .bl true) fun _ _ _ => False)
    (hCX : ∀ (w : World) (H : Hp) (s : Shared) (e : Value) (s' : Shared), CX w [] H s (fun _ _ _ => False) e s' → False) :
    PySem.W.WalkO q loose XP YP l.row.toRowW d [] (fun f vs => PySem.call f vs) := by
  refine Att.attach_call hn hdf fun w s₀ s₁ mg mb fa o pm cd doc a vs ns G Y ho hd hcd hmg hobj hints hlen hg => ?_
  have KX := hY w _ Y
  obtain ⟨fd, hb, hF⟩ := F w mg fa _ KX G.T.g hmg
  exact law_call KX G.T.g G.T.b G.T.builtins G.T.nolimit hg hobj hints (Nat.le_trans hlen hn2) hr hF hb (fun H hO hS => hsp w H a ns hlen hO hS) fun H e s' => hCX w H s₁ e s'
/-- the same where the promise hangs on the written part alone: (sp := My.sp_law), no hole under a binder -/
theorem walk_ofK {l : PySem.W.OpenLaw} {n k : Nat} {q : Program} {loose : List Str} {XP : (Str → Option Value) → Heap → Prop} {YP : World → Heap → Prop} {d : DefRec} {K : Params → PySem.W.Frag} {CX : CXT} {sp : PySem.W.Frag → Sp} {x : Str}
    (hn : l.most = some n) (hn2 : n ≤ sizeLine) (hdf : d.params.defaults = []) (hr : Room k callerA)
    (hY : ∀ (w : World) (h : Heap), YP w h → (K w.params).In h)
    (F : ∀ (w : World) (mg : Str → Option Value) (fa : Addr) (h : Heap), (K w.params).In h → h.Ns mainGlobals mg → mg d.name = some (.ref fa) →
      ∃ fd : FuncData, (∀ (s : Shared) (u : Value), BindsTo s fd ⟨[u], []⟩ [(x, u)]) ∧
        ∀ base : Heap, (K w.params).In base → base.Ns mainGlobals mg → FnOk l.prog w (K w.params) mg base CX k fa fd [x] (sp (K w.params)))
    (hsp : ∀ (K : PySem.W.Frag) (H : Hp) (a : Addr) (ns : List Int), ns.length ≤ n → Only H → SqL K H a (ns.map V.int) → sp K [.ref a] H (fun v _ => v = .bl true) fun _ _ _ => False)
    (hCX : ∀ (H : Hp) (s : Shared) (e : Value) (s' : Shared), CX [] H s (fun _ _ _ => False) e s' → False) :
    PySem.W.WalkO q loose XP YP l.row.toRowW d [] (fun f vs => PySem.call f vs) :=
  walk_of (K := K) (CX := fun _ => CX) (sp := fun w => sp (K w.params)) hn hn2 hdf hr hY F (fun w H a ns h1 h2 h3 => hsp (K w.params) H a ns h1 h2 h3) fun _ H s e s' => hCX H s e s'
end L2

/- THE LAST THEOREM (shape; LID, My.* are yours):
   My.Adr: a structure of the addresses that your layer names (classes, functions); My.Txt K t: a structure (Prop) of the equations over K;
   My.txt_mk : {K} {implicit addresses ..} (e1 : nsIn K mainGlobals "law" = some (some (.ref f))) (e2 : K.lookup f = some ⟨oc, od, .func (fnOf "law" "law" params body scope dV kV doc pm an cdv ct), sl⟩) (e3 : codeIn K cdv "law" = true) .. : ∃ t, My.Txt K t

set_option maxRecDepth 100000 in
set_option maxHeartbeats 0 in
theorem PySem.Challenge.cw_LID_holds : PySem.Challenge.rw_LID.Holds := by
  w_on; o_law; k_head; (case hw => w_witness2)
  k_fill
  refine L2.walk_of (l := PySem.Challenge.rw_LID) (n := 63) (k := 40) (x := "script") (CX := fun w => ..) (sp := fun _ => My.sp_law) rfl (by decide) rfl ⟨rfl, by decide, by decide⟩ (fun w h Y => PySem.W.kIn_of Y) ?F ?S ?C
  case F =>
    intro w mg fa h KX G hmg
    have T : ∃ t, My.Txt (L2.KOf KX) t := by
      dsimp only [L2.KOf]                          -- K must stand as «<heap const> w.params» for k_is
      refine' My.txt_mk ?e1 ?e2 ?e3 ..
      (case e1 => PySem.W.k_is)                    -- in the order: a name -> its address -> its object -> its parts
      (case e2 => PySem.W.k_is)
      ..
    obtain ⟨t, T⟩ := T
    have e0 := hmg.symm.trans (PySem.W.mg_of KX G T.law)
    cases e0                                       -- fa is the law's own address
    exact ⟨_, fun s u => .of_eq rfl, fun base kb nb => My.law_fn T kb nb⟩     -- if «.of_eq rfl» comes too early: refine' ⟨_, ?b, fun base kb nb => My.law_fn T kb nb⟩; exact fun s u => .of_eq rfl
  case S => exact fun w H a ns hl hO hS => ..
  case C => exact ..
(the tactic k_is has no namespace: write k_is) -/

/-! SHORT WORDS over the layer: a def of the text, its body, what a loop and a test want. -/
namespace L2
open PySem PySem.Spec PyProof.Rows

/-! ### the text by places -/
/-- the j-th statement of a class's body -/
def inClass (s : Stmt) (j : Nat) : Stmt := match s with
  | .ClassDef _ _ _ body _ _ _ _ _ _ _ => body.getD j (.Pass ⟨0, 0, 0, 0⟩)
  | _ => .Pass ⟨0, 0, 0, 0⟩
def defArgs (s : Stmt) : Arguments := match s with
  | .FunctionDef _ a _ _ _ _ _ _ _ _ => a
  | _ => { posonlyargs := [], args := [], vararg := none, kwonlyargs := [], kw_defaults := [], kwarg := none, defaults := [] }
def defBody (s : Stmt) : List Stmt := match s with
  | .FunctionDef _ _ b _ _ _ _ _ _ _ => b
  | _ => []
def defScope (s : Stmt) : Scope := match s with
  | .FunctionDef _ _ _ _ _ _ sc _ _ _ => sc
  | _ => { kind := .function, names := [], isGenerator := false, isCoroutine := false }

/-! ### no exception leaves a def -/
abbrev CX0 : CXT := fun _ _ _ _ _ _ => False
abbrev E0 : XK := fun _ _ _ => False
theorem pass0 {X : Cx} : Passes CX0 X E0 := fun _ _ _ _ _ _ _ h => h.elim

/-! ### a def (or method) of the text as it stands behind the top -/
structure Fun (K : PySem.W.Frag) (x qual : Str) (st : Stmt) (f : Addr) (fd : FuncData) : Prop where
  ex : ∃ (oc : Value) (od : Option Addr) (kV doc pm : Value) (an : Option Addr) (cdv ct : Value) (osl : Array (Option Value)),
    fd = PySem.W.fnOf x qual (defArgs st) (defBody st) (defScope st) .none kV doc pm an cdv ct ∧ K.lookup f = some ⟨oc, od, .func fd, osl⟩ ∧ PySem.W.codeIn K cdv qual = true
  kp : PySem.W.keepIn K (.ref f) = true
section
variable {P : Program} {w : World} {K : PySem.W.Frag} {mg : Str → Option Value} {base : Heap}
/-- THE RULE for a def: its body as a term of rules, and the reading of that term -/
theorem Fun.ok {x qual : Str} {st : Stmt} {f : Addr} {fd : FuncData} {N ps : List Str} {k : Nat} {sp : Sp} (F : Fun K x qual st f fd) (S : FnScope N ps (defScope st)) (len : ∀ vs H Q E, sp vs H Q E → vs.length = ps.length)
    (hbody : ∀ (cdv : Value) (A : Around) (outer : List Env) (s : Shared) (H : Hp) (vs : List V) (Q : VK) (E : XK), Room k (A.deeper (envOfC qual (defScope st) s.heap.objs.size f cdv)) → sp vs H Q E →
      ∃ t, PSs (cxOf CX0 P w K mg base N qual (defScope st) f cdv A outer s H E).nox (defBody st) t ∧ t { nx := fun _ H' => Q .non H', rt := Q } (start N vs) H) : FnOk P w K mg base CX0 (k + 1) f fd ps sp := by
  obtain ⟨oc, od, kV, doc, pm, an, cdv, ct, osl, rfl, lk, hcd⟩ := F.ex
  refine fn_of lk hcd S len fun A outer s H vs Q E hr hsp => ?_
  obtain ⟨t, h, q⟩ := hbody cdv A outer s H vs Q E hr hsp
  exact ⟨t, h.nox, q⟩
/-- how its arguments bind (no defaults): h is «fun _ _ _ _ _ _ us hl => match us, hl with | [_, _], _ => rfl», one _ a parameter -/
theorem Fun.binds {x qual : Str} {st : Stmt} {f : Addr} {fd : FuncData} {ps : List Str} (F : Fun K x qual st f fd)
    (h : ∀ (kV doc pm : Value) (an : Option Addr) (cdv ct : Value) (us : List Value), us.length = ps.length → bindArgs (PySem.W.fnOf x qual (defArgs st) (defBody st) (defScope st) .none kV doc pm an cdv ct) ⟨us, []⟩ = pure (ps.zip us)) : Binds K fd ps [] := by
  obtain ⟨oc, od, kV, doc, pm, an, cdv, ct, osl, rfl, lk, hcd⟩ := F.ex
  exact .all (h kV doc pm an cdv ct)
theorem fun_mk {x qual : Str} {st : Stmt} {f : Addr} {oc : Value} {od an : Option Addr} {osl : Array (Option Value)} {kV doc pm cdv ct : Value} (l : K.lookup f = some ⟨oc, od, .func (PySem.W.fnOf x qual (defArgs st) (defBody st) (defScope st) .none kV doc pm an cdv ct), osl⟩)
    (c : PySem.W.codeIn K cdv qual = true) (k : PySem.W.keepIn K (.ref f) = true) : Fun K x qual st f (PySem.W.fnOf x qual (defArgs st) (defBody st) (defScope st) .none kV doc pm an cdv ct) := ⟨⟨oc, od, kV, doc, pm, an, cdv, ct, osl, rfl, l, c⟩, k⟩
end
theorem hu_of {A : Around} {k : Nat} (hr : Room k A) : A.units + 1 < cLine := Nat.lt_of_le_of_lt (Nat.add_le_add_left (by decide : 1 ≤ 64) _) hr.units
theorem small1000 {n : Nat} (h : n ≤ 1000) : n < sizeLine := Nat.lt_of_le_of_lt h (by decide)

/-! ### expressions in short: the name that stands in the i-th slot -/
section
variable {X : Cx}
theorem pv (i : Nat) {x : Str} {pos : Pos} (hN : X.N[i]? = some x := by rfl) (hv : Vis X.env.scope x := by first | exact Or.inl rfl | exact Or.inr (Or.inl rfl) | exact Or.inr (Or.inr rfl)) (hd : (x == ("__debug__" : Str)) = false := by decide)
    (hcd : (x == ("__classdict__" : Str)) = false := by decide) : PE X (.Name x pos) (tVar i) := pe_var hN hv hd hcd
end

/-! ### tests -/
theorem iteF {A B : Prop} (h : B) : if false = true then A else B := by
  rw [if_neg Bool.false_ne_true]
  exact h
theorem iteT {A B : Prop} (h : A) : if true = true then A else B := by
  rw [if_pos rfl]
  exact h
theorem ite2 {c A B : Prop} [Decidable c] (h1 : c → A) (h2 : ¬ c → B) : if c then A else B := by
  by_cases h : c
  · rw [if_pos h]
    exact h1 h
  · rw [if_neg h]
    exact h2 h
theorem iteNS {c A B : Prop} [Decidable c] (hc : c) (h : B) : if (!decide c) = true then A else B := by
  rw [decide_eq_true hc]
  exact iteF h

/-! ### heaps -/
/-- all that was tracked is as it was -/
def Same (H H' : Hp) : Prop := ∀ b o, H b = some o → H' b = some o
theorem Same.refl (H : Hp) : Same H H := fun _ _ h => h
theorem Same.trans {H H1 H2 : Hp} (a : Same H H1) (b : Same H1 H2) : Same H H2 := fun c o h => b c o (a c o h)
theorem Same.free {H H' : Hp} (e : Same H H') {l : Addr} (h : H' l = Option.none) : H l = Option.none := by
  cases q : H l with
  | none => rfl
  | some o =>
    rw [e l o q] at h
    cases h
theorem Same.seq {K : PySem.W.Frag} {H H' : Hp} {a : Addr} {xs : List V} (e : Same H H') (h : SqL K H a xs) : SqL K H' a xs := by
  rcases h with (h | ⟨o, h⟩) | h
  · exact .inl (.inl (e _ _ h))
  · exact .inl (.inr ⟨o, e _ _ h⟩)
  · exact .inr h

end L2
end
section
set_option Elab.async false
set_option linter.all false
set_option maxRecDepth 100000
namespace L2
open PySem PySem.Spec PyProof.Rows

/-! ### lists of pairs as tables -/
section
variable {κ : Type} [DecidableEq κ]
def valV (kvs : List (κ × V)) (k : κ) : Option V := (kvs.find? fun kv => decide (kv.1 = k)).map (·.2)
/-- in its place, or at the end -/
def putK (kvs : List (κ × V)) (k : κ) (v : V) : List (κ × V) :=
  if (kvs.any fun kv => decide (kv.1 = k)) = true then kvs.map (fun kv => if kv.1 = k then (kv.1, v) else kv) else kvs ++ [(k, v)]
def dropK (kvs : List (κ × V)) (k : κ) : List (κ × V) := kvs.filter fun kv => decide (kv.1 ≠ k)

theorem valV_nil {k : κ} : valV ([] : List (κ × V)) k = none := rfl
theorem valV_pos {p : κ × V} {r : List (κ × V)} {k : κ} (e : p.1 = k) : valV (p :: r) k = some p.2 := by simp [valV, List.find?_cons, e]
theorem valV_neg {p : κ × V} {r : List (κ × V)} {k : κ} (e : ¬ p.1 = k) : valV (p :: r) k = valV r k := by simp [valV, List.find?_cons, e]
theorem valV_any (k : κ) : ∀ kvs : List (κ × V), (kvs.any fun kv => decide (kv.1 = k)) = (valV kvs k).isSome
  | [] => rfl
  | p :: r => by
    rw [List.any_cons]
    by_cases e : p.1 = k
    · simp only [valV_pos e, decide_eq_true e, Bool.true_or, Option.isSome_some]
    · rw [valV_neg e, decide_eq_false e, Bool.false_or]; exact valV_any k r
theorem valV_map (k j : κ) (y : V) : ∀ kvs : List (κ × V), valV (kvs.map fun kv => if kv.1 = k then (kv.1, y) else kv) j = (valV kvs j).map fun x => if j = k then y else x
  | [] => rfl
  | p :: r => by
    have ih := valV_map k j y r
    rw [List.map_cons]
    by_cases h : p.1 = k
    · rw [if_pos h]
      by_cases e : p.1 = j
      · rw [valV_pos (p := (p.1, y)) e, valV_pos e, Option.map_some, if_pos (e.symm.trans h)]
      · rw [valV_neg (p := (p.1, y)) e, valV_neg e, ih]
    · rw [if_neg h]
      by_cases e : p.1 = j
      · rw [valV_pos (p := p) e, valV_pos e, Option.map_some, if_neg (fun z => h (e.trans z))]
      · rw [valV_neg (p := p) e, valV_neg e, ih]
theorem valV_snoc (k j : κ) (y : V) : ∀ kvs : List (κ × V), valV kvs k = none → valV (kvs ++ [(k, y)]) j = if j = k then some y else valV kvs j
  | [], _ => by
    by_cases e : k = j
    · rw [if_pos e.symm]; exact valV_pos (p := (k, y)) e
    · rw [if_neg (fun z => e z.symm)]; exact valV_neg (p := (k, y)) e
  | p :: r, hn => by
    rw [List.cons_append]
    have hk : ¬ p.1 = k := fun z => by rw [valV_pos z] at hn; cases hn
    rw [valV_neg hk] at hn
    have ih := valV_snoc k j y r hn
    by_cases e : p.1 = j
    · rw [valV_pos e, valV_pos e, if_neg (fun z => hk (e.trans z))]
    · rw [valV_neg e, valV_neg e, ih]
theorem valV_put (kvs : List (κ × V)) (k j : κ) (y : V) : valV (putK kvs k y) j = if j = k then some y else valV kvs j := by
  unfold putK
  by_cases a : (kvs.any fun kv => decide (kv.1 = k)) = true
  · rw [if_pos a, valV_map]
    rw [valV_any] at a
    by_cases e : j = k
    · obtain ⟨x, hx⟩ := Option.isSome_iff_exists.mp a
      rw [if_pos e, e, hx, Option.map_some, if_pos rfl]
    · rw [if_neg e]
      cases valV kvs j with
      | none => rfl
      | some x => rw [Option.map_some, if_neg e]
  · rw [if_neg a]
    refine valV_snoc k j y kvs ?_
    rw [valV_any] at a
    cases q : valV kvs k with
    | none => rfl
    | some x => rw [q] at a; exact (a rfl).elim
theorem length_putK (kvs : List (κ × V)) (k : κ) (v : V) : (putK kvs k v).length ≤ kvs.length + 1 := by
  unfold putK
  split
  · rw [List.length_map]; omega
  · rw [List.length_append, List.length_cons, List.length_nil]; omega
theorem putK_new {kvs : List (κ × V)} {k : κ} (v : V) (h : valV kvs k = none) : putK kvs k v = kvs ++ [(k, v)] := by
  unfold putK
  rw [valV_any, h]
  exact if_neg (by decide)

theorem RelO.isSome_eq {o : Option V} {u : Option Value} (r : RelO o u) : o.isSome = u.isSome := by
  cases o with
  | none => cases u with
    | none => rfl
    | some _ => exact (show False from r).elim
  | some _ => cases u with
    | none => exact (show False from r).elim
    | some _ => rfl
theorem RelO.getD {o : Option V} {u : Option Value} {d : V} {d' : Value} (r : RelO o u) (rd : RelV d d') : RelV (o.getD d) (u.getD d') := by
  cases o with
  | none => cases u with
    | none => exact rd
    | some _ => exact (show False from r).elim
  | some _ => cases u with
    | none => exact (show False from r).elim
    | some _ => exact r

/-- raw tables of the same keys -/
theorem KV.val {kvs : List (κ × V)} {vs : List (κ × Value)} (r : KV kvs vs) (k : κ) : RelO (valV kvs k) (valueAt vs k) := by
  unfold KV at r
  induction r with
  | nil => exact True.intro
  | @cons p q ps qs h t ih =>
    obtain ⟨h1, h2⟩ := h
    by_cases e : p.1 = k
    · have e' : q.1 = k := h1.symm.trans e
      have b : valueAt (q :: qs) k = some q.2 := by simp [valueAt, List.find?_cons, e']
      rw [valV_pos e, b]; exact h2
    · have e' : ¬ q.1 = k := fun z => e (h1.trans z)
      have b : valueAt (q :: qs) k = valueAt qs k := by simp [valueAt, List.find?_cons, e']
      rw [valV_neg e, b]; exact ih
theorem KV.any {kvs : List (κ × V)} {vs : List (κ × Value)} (r : KV kvs vs) (k : κ) : (kvs.any fun kv => decide (kv.1 = k)) = vs.any fun kv => decide (kv.1 = k) := by
  unfold KV at r
  induction r with
  | nil => rfl
  | cons h t ih => rw [List.any_cons, List.any_cons, ih, h.1]
theorem KV.repl {kvs : List (κ × V)} {vs : List (κ × Value)} (r : KV kvs vs) (k : κ) {y : V} {u : Value} (ry : RelV y u) :
    KV (kvs.map fun kv => if kv.1 = k then (kv.1, y) else kv) (vs.map fun kv => if kv.1 = k then (kv.1, u) else kv) := by
  unfold KV at r ⊢
  induction r with
  | nil => exact .nil
  | @cons p q ps qs h t ih =>
    rw [List.map_cons, List.map_cons]
    refine .cons ?_ ih
    obtain ⟨h1, h2⟩ := h
    by_cases e : p.1 = k
    · rw [if_pos e, if_pos (h1.symm.trans e)]; exact ⟨h1, ry⟩
    · rw [if_neg e, if_neg (fun z => e (h1.trans z))]; exact ⟨h1, h2⟩
theorem KV.put {kvs : List (κ × V)} {vs : List (κ × Value)} (r : KV kvs vs) (k : κ) {y : V} {u : Value} (ry : RelV y u) : KV (putK kvs k y) (stored vs k u) := by
  unfold putK stored
  rw [r.any k]
  by_cases e : (vs.any fun kv => decide (kv.1 = k)) = true
  · rw [if_pos e, if_pos e]; exact r.repl k ry
  · rw [if_neg e, if_neg e]; exact Paired.snoc r ⟨rfl, ry⟩
theorem KV.drop {kvs : List (κ × V)} {vs : List (κ × Value)} (r : KV kvs vs) (k : κ) : KV (dropK kvs k) (without vs k) := by
  unfold KV at r ⊢
  unfold dropK without
  induction r with
  | nil => exact .nil
  | @cons p q ps qs h t ih =>
    obtain ⟨h1, h2⟩ := h
    rw [List.filter_cons, List.filter_cons]
    by_cases e : p.1 = k
    · have a : ¬ decide (p.1 ≠ k) = true := by simp [e]
      have b : ¬ decide (q.1 ≠ k) = true := by simp [h1.symm.trans e]
      rw [if_neg a, if_neg b]; exact ih
    · have e' : ¬ q.1 = k := fun z => e (h1.trans z)
      have a : decide (p.1 ≠ k) = true := by simp [e]
      have b : decide (q.1 ≠ k) = true := by simp [e']
      rw [if_pos a, if_pos b]; exact .cons ⟨h1, h2⟩ ih
theorem KV.keys {kvs : List (κ × V)} {vs : List (κ × Value)} (r : KV kvs vs) : kvs.map (·.1) = vs.map (·.1) := by
  unfold KV at r
  induction r with
  | nil => rfl
  | cons h t ih => rw [List.map_cons, List.map_cons, ih, h.1]
theorem KV.length {kvs : List (κ × V)} {vs : List (κ × Value)} (r : KV kvs vs) : kvs.length = vs.length := Paired.length r
theorem dropK_le (kvs : List (κ × V)) (k : κ) : (dropK kvs k).length ≤ kvs.length := List.length_filter_le _ _
end


/-! ### a tracked dict, its keys ints and texts or tuples of these -/
theorem kV_is {P : Program} {w : World} {k : Key} {u : Value} (r : RelV (kV k) u) : (mixKind P w).is k u = true := by
  cases k with
  | inl i => obtain ⟨t, e⟩ := (show ∃ t, u = Value.int i t from r); subst e; exact mixKind_int P w i t
  | inr x => obtain ⟨t, e⟩ := (show ∃ t, u = Value.str x t from r); subst e; exact mixKind_str P w x t
theorem kV_inj {a b : Key} (e : kV a = kV b) : a = b := by
  cases a with
  | inl i => cases b with
    | inl j => have e' : V.int i = V.int j := e; injection e' with e'; rw [e']
    | inr y => exact nomatch (show V.int i = V.str y from e)
  | inr x => cases b with
    | inl j => exact nomatch (show V.str x = V.int j from e)
    | inr y => have e' : V.str x = V.str y := e; injection e' with e'; rw [e']
theorem kVs_inj : ∀ {a b : List Key}, a.map kV = b.map kV → a = b
  | [], [], _ => rfl
  | [], _ :: _, e => by simp at e
  | _ :: _, [], e => by simp at e
  | x :: xs, y :: ys, e => by
    rw [List.map_cons, List.map_cons] at e
    injection e with e1 e2
    rw [kV_inj e1, kVs_inj e2]
theorem items_are {P : Program} {w : World} : ∀ {ks : List Key} {us : List Value}, Vals (ks.map kV) us → ItemsAre (mixKind P w) ks us
  | [], _, r => by rw [List.map_nil] at r; cases r; exact .nil
  | k :: ks, _, r => by
    rw [List.map_cons] at r
    cases r with
    | cons h t => exact .cons (kV_is h) (items_are t)

/-- raw entries of a dict with tuple keys -/
abbrev KT (H : Hp) : List (List Key × V) → List (List Key × Addr × Value) → Prop := Paired fun p q => p.1 = q.1 ∧ H q.2.1 = some (.tup (p.1.map kV)) ∧ RelV p.2 q.2.2
theorem KT.val {H : Hp} {kvs : List (List Key × V)} {xs : List (List Key × Addr × Value)} (r : KT H kvs xs) (k : List Key) : RelO (valV kvs k) ((atKey xs k).map (·.2)) := by
  induction r with
  | nil => exact True.intro
  | @cons p q ps qs h t ih =>
    obtain ⟨h1, _, h2⟩ := h
    by_cases e : p.1 = k
    · have e' : q.1 = k := h1.symm.trans e
      have b : atKey (q :: qs) k = some q.2 := by simp [atKey, List.find?_cons, e']
      rw [valV_pos e, b]; exact h2
    · have e' : ¬ q.1 = k := fun z => e (h1.trans z)
      have b : atKey (q :: qs) k = atKey qs k := by simp [atKey, List.find?_cons, e']
      rw [valV_neg e, b]; exact ih
theorem KT.repl {H : Hp} {kvs : List (List Key × V)} {xs : List (List Key × Addr × Value)} (r : KT H kvs xs) (k : List Key) {y : V} {u : Value} (ry : RelV y u) :
    KT H (kvs.map fun kv => if kv.1 = k then (kv.1, y) else kv) (xs.map (putAt k u)) := by
  induction r with
  | nil => exact .nil
  | @cons p q ps qs h t ih =>
    rw [List.map_cons, List.map_cons]
    refine .cons ?_ ih
    obtain ⟨h1, h2, h3⟩ := h
    unfold putAt
    by_cases e : p.1 = k
    · rw [if_pos e, if_pos (h1.symm.trans e)]; exact ⟨h1, h2, ry⟩
    · rw [if_neg e, if_neg (fun z => e (h1.trans z))]; exact ⟨h1, h2, h3⟩
theorem KT.put {H : Hp} {kvs : List (List Key × V)} {xs : List (List Key × Addr × Value)} (r : KT H kvs xs) (k : List Key) {b : Addr} {y : V} {u : Value} (hb : H b = some (.tup (k.map kV))) (ry : RelV y u) :
    KT H (putK kvs k y) (storedH xs k b u) := by
  have e : (kvs.any fun kv => decide (kv.1 = k)) = (atKey xs k).isSome := by
    rw [valV_any, (r.val k).isSome_eq, Option.isSome_map]
  unfold putK storedH
  rw [e]
  by_cases q : (atKey xs k).isSome = true
  · rw [if_pos q, if_pos q]; exact r.repl k ry
  · rw [if_neg q, if_neg q]; exact Paired.snoc r ⟨rfl, hb, ry⟩
theorem KT.keeps {H H' : Hp} {kvs : List (List Key × V)} {xs : List (List Key × Addr × Value)} (r : KT H kvs xs) (ht : ∀ b ys, H b = some (.tup ys) → H' b = some (.tup ys)) : KT H' kvs xs :=
  Paired.mapP r fun _ _ z => ⟨z.1, ht _ _ z.2.1, z.2.2⟩

section
variable {P : Program} {w : World} {H : Hp} {h : Heap} {a : Addr}
theorem rd_of {u : HO} (ok : HOk P w H h) (e : Rd H a u) : ObjOk P w H h a u := e.ok ok
theorem dk_rd {kvs : List (Key × V)} (ok : HOk P w H h) (e : Rd H a (.dK kvs)) : kvs.length ≤ sizeLine ∧ (a == sysModules) = false ∧ ∃ vs, KV kvs vs ∧ h.DictOf (mixKind P w) a vs :=
  show ObjOk P w H h a (.dK kvs) from rd_of ok e
theorem dk_of {kvs : List (Key × V)} (ok : HOk P w H h) (e : H a = some (.dK kvs)) : kvs.length ≤ sizeLine ∧ (a == sysModules) = false ∧ ∃ vs, KV kvs vs ∧ h.DictOf (mixKind P w) a vs := dk_rd ok (.inl e)
/-- a tracked tuple of ints and texts is a key -/
theorem key_of {ks : List Key} (ok : HOk P w H h) (e : H a = some (.tup (ks.map kV))) : (tupleKind (mixKind P w)).is h ks a := by
  obtain ⟨_, its, r, o, h1, h2, n, h3⟩ := (show ObjOk P w H h a (.tup (ks.map kV)) from ok a _ e)
  exact ⟨o, its.toArray, n, h1, h2, h3, by simpa using items_are r⟩
theorem dt_rd {kvs : List (List Key × V)} (ok : HOk P w H h) (e : Rd H a (.dT kvs)) : kvs.length ≤ sizeLine ∧ (a == sysModules) = false ∧
    ∃ xs, KT H kvs xs ∧ h.DictOfH (tupleKind (mixKind P w)) a xs := by
  obtain ⟨z, y, xs, r, o, es, ep, h1, h2, h3, h4, h5⟩ := (show ObjOk P w H h a (.dT kvs) from rd_of ok e)
  refine ⟨z, y, xs, r, o, es, ep, h1, h2, h3, h4, fun x hx => ?_, h5⟩
  have all : ∀ {l : List (List Key × V)} {m : List (List Key × Addr × Value)}, KT H l m → ∀ x ∈ m, (tupleKind (mixKind P w)).is h x.1 x.2.1 := by
    intro l m q
    induction q with
    | nil => intro x hx; exact nomatch hx
    | @cons p q ps qs hq t ih =>
      intro x hx
      rcases List.mem_cons.mp hx with e | hx
      · subst e
        exact key_of ok (by rw [← hq.1]; exact hq.2.1)
      · exact ih x hx
  exact all r x hx
theorem dt_of {kvs : List (List Key × V)} (ok : HOk P w H h) (e : H a = some (.dT kvs)) : kvs.length ≤ sizeLine ∧ (a == sysModules) = false ∧
    ∃ xs, KT H kvs xs ∧ h.DictOfH (tupleKind (mixKind P w)) a xs := dt_rd ok (.inl e)
end

/-- what the dict at a holds at the key y -/
def DGet (H : Hp) (a : Addr) (y : V) (r : Option V) : Prop :=
  (∃ kvs k, Rd H a (.dK kvs) ∧ y = kV k ∧ r = valV kvs k) ∨ ∃ kvs k b, Rd H a (.dT kvs) ∧ y = .ref b ∧ H b = some (.tup (k.map kV)) ∧ r = valV kvs k
/-- the heap behind a[y] = v -/
def DPut (H : Hp) (a : Addr) (y v : V) (H' : Hp) : Prop :=
  (∃ kvs k, H a = some (.dK kvs) ∧ y = kV k ∧ kvs.length < sizeLine ∧ H' = upd H a (.dK (putK kvs k v))) ∨
  ∃ kvs k b, H a = some (.dT kvs) ∧ y = .ref b ∧ H b = some (.tup (k.map kV)) ∧ kvs.length < sizeLine ∧ H' = upd H a (.dT (putK kvs k v))
theorem DGet.k {H : Hp} {a : Addr} {kvs : List (Key × V)} {k : Key} (e : H a = some (.dK kvs)) : DGet H a (kV k) (valV kvs k) := .inl ⟨kvs, k, .inl e, rfl, rfl⟩
theorem DGet.t {H : Hp} {a b : Addr} {kvs : List (List Key × V)} {k : List Key} (e : H a = some (.dT kvs)) (eb : H b = some (.tup (k.map kV))) : DGet H a (.ref b) (valV kvs k) := .inr ⟨kvs, k, b, .inl e, rfl, eb, rfl⟩
theorem DPut.k {H : Hp} {a : Addr} {kvs : List (Key × V)} {k : Key} {v : V} (e : H a = some (.dK kvs)) (hl : kvs.length < sizeLine) : DPut H a (kV k) v (upd H a (.dK (putK kvs k v))) := .inl ⟨kvs, k, e, rfl, hl, rfl⟩
theorem DPut.t {H : Hp} {a b : Addr} {kvs : List (List Key × V)} {k : List Key} {v : V} (e : H a = some (.dT kvs)) (eb : H b = some (.tup (k.map kV))) (hl : kvs.length < sizeLine) :
    DPut H a (.ref b) v (upd H a (.dT (putK kvs k v))) := .inr ⟨kvs, k, b, e, rfl, eb, hl, rfl⟩


section
variable {X : Cx} {pins : List (Addr × Obj)} {σ : St} {H : Hp} {s : Shared} {a : Addr} {y v : V} {u r : Value} {o : Option V} {A : Around} {E : Value → Shared → Prop}

theorem Inv.big (I : Inv X pins σ H s) : sysModules < s.heap.objs.size := by
  have h : mainGlobals < s.heap.objs.size := (I.mod.glob.keeps I.bk).lt
  exact Nat.lt_trans (by decide) h

/-- d[y], there -/
theorem d_getItem {Q : Value → Shared → Prop} (hu : A.units + 1 < cLine) (I : Inv X pins σ H s) (g : DGet H a y (some v)) (ry : RelV y u) (h : ∀ w' s', Inv X pins σ H s' → RelV v w' → Q w' s') :
    wpAny (model X.prog X.w) A (getItem (.ref a) u) Q E s := by
  rcases g with ⟨kvs, k, e, ey, l⟩ | ⟨kvs, k, b, e, ey, eb, l⟩
  · subst ey
    obtain ⟨z, hd, vs, rel, dd⟩ := dk_rd I.hok e
    obtain ⟨w', hw, rw'⟩ := RelO.some_of (v := v) (o := valueAt vs k) (by rw [l]; exact rel.val k)
    exact wpAny_getItem_of (kV_is ry) dd.mapOf hw (h w' _ (I.tok _) rw')
  · subst ey
    cases (show u = Value.ref b from ry)
    obtain ⟨z, hd, xs, rel, dd⟩ := dt_rd I.hok e
    obtain ⟨w', hw, rw'⟩ := RelO.some_of (v := v) (o := (atKey xs k).map (·.2)) (by rw [l]; exact rel.val k)
    obtain ⟨p, hp, hp2⟩ := Option.map_eq_some_iff.mp hw
    refine wpAny_getItem_heap (tupleKind_room_in1 hu) (key_of I.hok eb) dd hp ?_
    rw [hp2]
    exact h w' _ (I.tok _) rw'
/-- y in d -/
theorem d_in {Q : Value → Shared → Prop} (hu : A.units + 1 < cLine) (I : Inv X pins σ H s) (g : DGet H a y o) (ry : RelV y u) (h : ∀ s', Inv X pins σ H s' → Q (.bool o.isSome) s') :
    wpAny (model X.prog X.w) A (compareOp .In u (.ref a)) Q E s := by
  rcases g with ⟨kvs, k, e, ey, l⟩ | ⟨kvs, k, b, e, ey, eb, l⟩
  · subst ey
    obtain ⟨z, hd, vs, rel, dd⟩ := dk_rd I.hok e
    refine wpAny_in_of (kV_is ry) hd dd.mapOf ?_
    rw [← (rel.val k).isSome_eq, ← l]
    exact h _ (I.tok _)
  · subst ey
    cases (show u = Value.ref b from ry)
    obtain ⟨z, hd, xs, rel, dd⟩ := dt_rd I.hok e
    refine wpAny_in_heap (tupleKind_room_in1 hu) (key_of I.hok eb) hd dd ?_
    have q := (rel.val k).isSome_eq
    rw [Option.isSome_map] at q
    rw [← q, ← l]
    exact h _ (I.tok _)
theorem d_notIn {Q : Value → Shared → Prop} (hu : A.units + 1 < cLine) (I : Inv X pins σ H s) (g : DGet H a y o) (ry : RelV y u) (h : ∀ s', Inv X pins σ H s' → Q (.bool (!o.isSome)) s') :
    wpAny (model X.prog X.w) A (compareOp .NotIn u (.ref a)) Q E s := by
  rcases g with ⟨kvs, k, e, ey, l⟩ | ⟨kvs, k, b, e, ey, eb, l⟩
  · subst ey
    obtain ⟨z, hd, vs, rel, dd⟩ := dk_rd I.hok e
    refine wpAny_notIn_of (kV_is ry) hd dd.mapOf ?_
    rw [← (rel.val k).isSome_eq, ← l]
    exact h _ (I.tok _)
  · subst ey
    cases (show u = Value.ref b from ry)
    obtain ⟨z, hd, xs, rel, dd⟩ := dt_rd I.hok e
    refine wpAny_notIn_heap (tupleKind_room_in1 hu) (key_of I.hok eb) hd dd ?_
    have q := (rel.val k).isSome_eq
    rw [Option.isSome_map] at q
    rw [← q, ← l]
    exact h _ (I.tok _)
/-- a dict's object is replaced -/
theorem d_write {h' : Heap} {t' : Nat} {ob : HO} (I : Inv X pins σ H s) (mu : Mut (H a)) (hs : Heap.SameBut a s.heap h') (he : ∃ q, h'.get? a = some q) (new : ObjOk X.prog X.w (upd H a ob) h' a ob) :
    Inv X pins σ (upd H a ob) { s with heap := h', toks := t' } :=
  I.write (x := a) (e := a) mu (.inl rfl) (fun b q hb z => (hs.2 b hb).trans z) he new
theorem dk_new {P : Program} {w : World} {H' : Hp} {h' : Heap} {kvs : List (Key × V)} {vs : List (Key × Value)} (z : kvs.length ≤ sizeLine) (hd : (a == sysModules) = false) (rel : KV kvs vs) (dd : h'.DictOf (mixKind P w) a vs) :
    ObjOk P w H' h' a (.dK kvs) := ⟨z, hd, vs, rel, dd⟩
/-- d[y] = v -/
theorem d_setItem {H' : Hp} {Q : Unit → Shared → Prop} (hu : A.units + 1 < cLine) (I : Inv X pins σ H s) (g : DPut H a y v H') (ry : RelV y u) (rv : RelV v r) (h : ∀ s', Inv X pins σ H' s' → Q () s') :
    wpAny (model X.prog X.w) A (setItem (.ref a) u r) Q E s := by
  rcases g with ⟨kvs, k, e, ey, l, eH⟩ | ⟨kvs, k, b, e, ey, eb, l, eH⟩
  · subst ey eH
    obtain ⟨z, hd, vs, rel, dd⟩ := dk_of I.hok e
    have hz : vs.length ≤ sizeLine := by rw [← rel.length]; exact z
    have hl : (putK kvs k v).length ≤ sizeLine := by have := length_putK kvs k v; omega
    refine wpAny_setItem_pairs (hsz := hz) (kV_is ry) dd fun h' dd' hs => h _ ?_
    have he : ∃ q, h'.get? a = some q := let ⟨q, _, _, hq, _⟩ := dd'; ⟨q, hq⟩
    exact d_write I (by rw [e]; exact True.intro) hs he (dk_new hl hd (rel.put k rv) dd')
  · subst ey eH
    cases (show u = Value.ref b from ry)
    obtain ⟨z, hd, xs, rel, dd⟩ := dt_of I.hok e
    have hz : xs.length ≤ sizeLine := by rw [← Paired.length rel]; exact z
    have hl : (putK kvs k v).length ≤ sizeLine := by have := length_putK kvs k v; omega
    refine wpAny_setItem_heap (hsz := hz) (tupleKind_room_in1 hu) (key_of I.hok eb) dd fun h' dd' hs => h _ ?_
    obtain ⟨q, es, ep, hq, h2, h3, h4, _, h5⟩ := dd'
    refine d_write I (by rw [e]; exact True.intro) hs ⟨q, hq⟩ ⟨hl, hd, _, (rel.put k eb rv).keeps fun c ys ec => ?_, q, es, ep, hq, h2, h3, h4, h5⟩
    rw [upd_ne (ne_of ec e (fun z => nomatch z))]
    exact ec
end

section
variable {X : Cx} {pins : List (Addr × Obj)} {σ : St} {H : Hp} {s : Shared} {a : Addr} {kvs : List (Key × V)} {k : Key} {u : Value} {A : Around} {E : Value → Shared → Prop}
/-- del d[k] -/
theorem d_delItem {Q : Unit → Shared → Prop} (I : Inv X pins σ H s) (e : H a = some (.dK kvs)) (ry : RelV (kV k) u) (l : (valV kvs k).isSome = true) (h : ∀ s', Inv X pins σ (upd H a (.dK (dropK kvs k))) s' → Q () s') :
    wpAny (model X.prog X.w) A (delItem (.ref a) u) Q E s := by
  obtain ⟨z, hd, vs, rel, dd⟩ := dk_of I.hok e
  refine wpAny_delItem_slot dd.typeIs (by decide) PySem.F.slot_dict_delitem
    (call_meetsIn PySem.F.slot_dict_delitem dd.typeIs PySem.F.entry_dict_delitem (PySem.F.args_dict_delitem_2 _ _) (meets_dict_delitem_pairs (mixKind X.prog X.w) a (kV_is ry)) ⟨vs, dd, by rw [← rel.length]; exact z, by rw [← (rel.val k).isSome_eq]; exact l, fun h' dd' hs => h _ ?_⟩)
  have he : ∃ q, h'.get? a = some q := let ⟨q, _, _, hq, _⟩ := dd'; ⟨q, hq⟩
  exact d_write I (by rw [e]; exact True.intro) hs he (dk_new (Nat.le_trans (dropK_le kvs k) z) hd (rel.drop k) dd')
/-- d.pop(k[, x]), there -/
theorem d_pop {v : V} {more : List Value} {Q : Value → Shared → Prop} (I : Inv X pins σ H s) (e : H a = some (.dK kvs)) (ry : RelV (kV k) u) (l : valV kvs k = some v) (hm : more = [] ∨ ∃ x, more = [x])
    (h : ∀ w' s', Inv X pins σ (upd H a (.dK (dropK kvs k))) s' → RelV v w' → Q w' s') : wpAny (model X.prog X.w) A (call (.builtin "dict.pop") (.ref a :: u :: more)) Q E s := by
  obtain ⟨z, hd, vs, rel, dd⟩ := dk_of I.hok e
  obtain ⟨w', hw, rw'⟩ := RelO.some_of (v := v) (o := valueAt vs k) (by rw [← l]; exact rel.val k)
  have hp : (keyPart u).isSome = true := by
    cases k with
    | inl i => obtain ⟨t, q⟩ := (show ∃ t, u = Value.int i t from ry); subst q; rfl
    | inr x => obtain ⟨t, q⟩ := (show ∃ t, u = Value.str x t from ry); subst q; rfl
  have ha : argsOk "dict.pop" ⟨.ref a :: u :: more, []⟩ := by
    rcases hm with q | ⟨x, q⟩
    · subst q; exact PySem.F.args_dict_pop_2 _ _
    · subst q; exact PySem.F.args_dict_pop_3 _ _ _
  refine call_meetsIn PySem.F.slot_dict_pop dd.typeIs PySem.F.entry_dict_pop ha (meets_dict_pop_there (mixKind X.prog X.w) a (kV_is ry) more hm hp)
    ⟨vs, w', dd, by rw [← rel.length]; exact z, hw, fun h' dd' hs => h w' _ ?_ rw'⟩
  have he : ∃ q, h'.get? a = some q := let ⟨q, _, _, hq, _⟩ := dd'; ⟨q, hq⟩
  exact d_write I (by rw [e]; exact True.intro) hs he (dk_new (Nat.le_trans (dropK_le kvs k) z) hd (rel.drop k) dd')
/-- d.pop(k, x), not there -/
theorem d_popD {r : Value} {Q : Value → Shared → Prop} (I : Inv X pins σ H s) (e : H a = some (.dK kvs)) (ry : RelV (kV k) u) (l : valV kvs k = none) (h : ∀ s', Inv X pins σ H s' → Q r s') :
    wpAny (model X.prog X.w) A (call (.builtin "dict.pop") [.ref a, u, r]) Q E s := by
  obtain ⟨z, hd, vs, rel, dd⟩ := dk_of I.hok e
  have hn : valueAt vs k = none := RelO.none_of (by rw [← l]; exact rel.val k)
  have hp : (keyPart u).isSome = true := by
    cases k with
    | inl i => obtain ⟨t, q⟩ := (show ∃ t, u = Value.int i t from ry); subst q; rfl
    | inr x => obtain ⟨t, q⟩ := (show ∃ t, u = Value.str x t from ry); subst q; rfl
  exact call_meetsIn PySem.F.slot_dict_pop dd.typeIs PySem.F.entry_dict_pop (PySem.F.args_dict_pop_3 _ _ _) (meets_dict_pop_default (mixKind X.prog X.w) a (kV_is ry) hd hp r) ⟨vs, dd, hn, h _ (I.tok _)⟩
/-- d.clear() -/
theorem d_clear {Q : Value → Shared → Prop} (I : Inv X pins σ H s) (e : H a = some (.dK kvs)) (h : ∀ s', Inv X pins σ (upd H a (.dK [])) s' → Q .none s') : wpAny (model X.prog X.w) A (call (.builtin "dict.clear") [.ref a]) Q E s := by
  obtain ⟨z, hd, vs, rel, dd⟩ := dk_of I.hok e
  refine call_meetsIn PySem.F.slot_dict_clear dd.typeIs PySem.F.entry_dict_clear (PySem.F.args_dict_clear_1 _) (meets_dict_clear (mixKind X.prog X.w) a) ⟨vs, dd, by rw [← rel.length]; exact z, fun h' dd' hs => h _ ?_⟩
  have he : ∃ q, h'.get? a = some q := let ⟨q, _, _, hq, _⟩ := dd'; ⟨q, hq⟩
  exact d_write (t' := s.toks) I (by rw [e]; exact True.intro) hs he (dk_new (Nat.zero_le _) hd .nil dd')
/-- len(d) -/
theorem d_len {Q : Value → Shared → Prop} (I : Inv X pins σ H s) (e : Rd H a (.dK kvs)) (h : ∀ t s', Inv X pins σ H s' → Q (.int kvs.length t) s') : wpAny (model X.prog X.w) A (call (.builtin "len") [.ref a]) Q E s := by
  obtain ⟨z, hd, vs, rel, dd⟩ := dk_rd I.hok e
  refine call_len_dict hd dd (by rw [← rel.length]; rw [sizeLine_eq] at z; omega) ?_
  rw [← rel.length]
  exact h _ _ (I.tok _)
/-- if d -/
theorem d_truth {Q : Bool → Shared → Prop} (I : Inv X pins σ H s) (e : Rd H a (.dK kvs)) (h : ∀ s', Inv X pins σ H s' → Q (!kvs.isEmpty) s') : wpAny (model X.prog X.w) A (truthy (.ref a)) Q E s := by
  obtain ⟨z, hd, vs, rel, dd⟩ := dk_rd I.hok e
  refine wpAny_truthy_dict hd dd (by rw [← rel.length]; rw [sizeLine_eq] at z; omega) ?_
  have q : kvs.isEmpty = vs.isEmpty := by cases rel <;> rfl
  rw [← q]
  exact h _ (I.tok _)
end


/-! ### readings and rules -/
/-- the element of a subscription, not a slice -/
def NoSl (i : Expr) : Prop := ∀ ov iv, subscripted i false ov iv = operate [ov, iv] (getItem ov iv)
theorem subD_of {prog : Program} {w : World} {A : Around} {E : Value → Shared → Prop} {s : Shared} {env : Env} {value slice : Expr} {pos : Pos} {T id : String} {Q : Value → Shared → Prop}
    (hl : typeLookup (.type T) "__getitem__" = pure (some (.builtin id))) (hs : NoSl slice)
    (h : wpAny (model prog w) A (eval value env) (fun o s₁ => wpAny (model prog w) A (eval slice env) (fun i s₂ => s₂.TypeIs o T ∧ wpAny (model prog w) A (getItem o i) Q E s₂) E s₁) E s) :
    wpAny (model prog w) A (eval (.Subscript value slice pos) env) Q E s := by
  refine Subscript_ (wpAny_mono h (fun o s₁ h₁ => wpAny_mono h₁ (fun i s₂ h₂ => ?_) fun _ _ x => x) fun _ _ x => x)
  obtain ⟨hT, h₂⟩ := h₂
  unfold subscriptTail
  refine wpAny_bind ?_
  rw [getitemInPython_of_ne hT.not_modules]
  refine wpAny_bind (wpAny_specialOf hT hl ?_)
  have fin : wpAny (model prog w) A (subscripted slice false o i) (fun r s₃ => wpAny (model prog w) A (letTemporaryGo value o r >>= fun _ => pure r) Q E s₃) E s₂ := by
    rw [hs o i]
    exact wpAny_operating (wpAny_mono h₂ (fun r s₃ h₃ => wpAny_bind (wpAny_letTemporaryGo (wpAny_pure h₃))) fun _ _ x => x)
  first
    | exact wpAny_pure (wpAny_bind fin)
    | exact wpAny_bind (wpAny_pure (wpAny_bind fin))
    | exact wpAny_bind fin

theorem dict_typeIs {X : Cx} {pins : List (Addr × Obj)} {σ : St} {H : Hp} {s : Shared} {a : Addr} {y : V} {o : Option V} (I : Inv X pins σ H s) (g : DGet H a y o) : s.TypeIs (.ref a) "dict" := by
  rcases g with ⟨kvs, k, e, _, _⟩ | ⟨kvs, k, b, e, _, _, _⟩
  · obtain ⟨_, _, vs, _, dd⟩ := dk_rd I.hok e
    exact dd.typeIs
  · obtain ⟨_, _, xs, _, dd⟩ := dt_rd I.hok e
    exact dd.typeIs
theorem dict_noDict {X : Cx} {pins : List (Addr × Obj)} {σ : St} {H : Hp} {s : Shared} {a : Addr} {y : V} {o : Option V} (I : Inv X pins σ H s) (g : DGet H a y o) :
    ∀ b, Value.ref a = .ref b → ∃ ob, s.heap.get? b = some ob ∧ ob.dict = none := fun b q => by
  cases q
  rcases g with ⟨kvs, k, e, _, _⟩ | ⟨kvs, k, b, e, _, _, _⟩
  · obtain ⟨_, _, vs, _, ob, _, _, h1, h2, _⟩ := dk_rd I.hok e
    exact ⟨ob, h1, h2.2.1⟩
  · obtain ⟨_, _, xs, _, ob, _, _, h1, h2, _⟩ := dt_rd I.hok e
    exact ⟨ob, h1, h2.2.1⟩

/-- d[y] -/
def tDGet (td ty : TE) : TE := fun σ H Q => td σ H fun x H1 => ty σ H1 fun y H2 => ∃ a v, x = .ref a ∧ DGet H2 a y (some v) ∧ Q v H2
/-- y in d, y not in d -/
def tDIn (ty td : TE) : TE := fun σ H Q => ty σ H fun y H1 => td σ H1 fun x H2 => ∃ a o, x = .ref a ∧ DGet H2 a y o ∧ Q (.bl o.isSome) H2
def tDNotIn (ty td : TE) : TE := fun σ H Q => ty σ H fun y H1 => td σ H1 fun x H2 => ∃ a o, x = .ref a ∧ DGet H2 a y o ∧ Q (.bl (!o.isSome)) H2
/-- d[y] = v -/
def sDPut (td ty tv : TE) : TS := fun D σ H => tv σ H fun v H1 => td σ H1 fun x H2 => ty σ H2 fun y H3 => ∃ a H4, x = .ref a ∧ DPut H3 a y v H4 ∧ D.nx σ H4
/-- d[y] op= v -/
def sDAug (td ty tv : TE) (rd : V → V → Hp → VK → Prop) : TS := fun D σ H => td σ H fun x H1 => ty σ H1 fun y H2 => ∃ a v, x = .ref a ∧ DGet H2 a y (some v) ∧
  tv σ H2 fun y2 H3 => rd v y2 H3 fun z H4 => ∃ H5, DPut H4 a y z H5 ∧ D.nx σ H5
/-- del d[y] -/
def sDDel (td ty : TE) : TS := fun D σ H => td σ H fun x H1 => ty σ H1 fun y H2 => ∃ a kvs k, x = .ref a ∧ H2 a = some (.dK kvs) ∧ y = kV k ∧ (valV kvs k).isSome = true ∧ D.nx σ (upd H2 a (.dK (dropK kvs k)))

section
variable {X : Cx} {o i e value : Expr} {pos pos' tpos : Pos} {td ty tv : TE}
theorem pe_dget (hu : X.A.units + 1 < cLine) (ho : PE X o td) (hi : PE X i ty) (hs : NoSl i) : PE X (.Subscript o i pos) (tDGet td ty) := by
  intro pins s σ H Q I h
  refine subD_of PySem.F.slot_dict_getitem.lookup hs (thn (ho pins s σ H _ I h) fun u s1 ⟨x, H1, I1, rx, q1⟩ => thn (hi pins s1 σ H1 _ I1 q1) fun iv s2 ⟨y, H2, I2, ry, a, v, ex, g, q2⟩ => ?_)
  subst ex
  obtain rfl : u = Value.ref a := rx
  exact ⟨dict_typeIs I2 g, d_getItem hu I2 g ry fun w' s3 I3 rw' => ⟨v, H2, I3, rw', q2⟩⟩
theorem pc_din (hu : X.A.units + 1 < cLine) (hi : PE X i ty) (ho : PE X o td) : PC X .In i o (tDIn ty td) := by
  intro pins s σ H Q I h
  refine thn (hi pins s σ H _ I h) fun iv s1 ⟨y, H1, I1, ry, q1⟩ => thn (ho pins s1 σ H1 _ I1 q1) fun u s2 ⟨x, H2, I2, rx, a, ov, ex, g, q2⟩ => ?_
  subst ex
  obtain rfl : u = Value.ref a := rx
  exact d_in hu I2 g ry fun s3 I3 => ⟨.bl ov.isSome, H2, I3, rfl, q2⟩
theorem pc_dnotin (hu : X.A.units + 1 < cLine) (hi : PE X i ty) (ho : PE X o td) : PC X .NotIn i o (tDNotIn ty td) := by
  intro pins s σ H Q I h
  refine thn (hi pins s σ H _ I h) fun iv s1 ⟨y, H1, I1, ry, q1⟩ => thn (ho pins s1 σ H1 _ I1 q1) fun u s2 ⟨x, H2, I2, rx, a, ov, ex, g, q2⟩ => ?_
  subst ex
  obtain rfl : u = Value.ref a := rx
  exact d_notIn hu I2 g ry fun s3 I3 => ⟨.bl (!ov.isSome), H2, I3, rfl, q2⟩
theorem ps_dput (hu : X.A.units + 1 < cLine) (ho : PE X o td) (hi : PE X i ty) (hv : PE X value tv) (hs : swapsWith value (some (.Subscript o i pos')) pos.line X.env = pure false) :
    PS X (.Assign [.Subscript o i pos'] value pos) (sDPut td ty tv) := by
  intro pins s σ H D I h
  refine wpAny_Assign_Subscript (thn (hv pins s σ H _ I h) fun r s1 ⟨v, H1, I1, rv, q1⟩ => thn (ho pins s1 σ H1 _ I1 q1) fun u s2 ⟨x, H2, I2, rx, q2⟩ => thn (hi pins s2 σ H2 _ I2 q2) fun iv s3 ⟨y, H3, I3, ry, a, H4, ex, g, q3⟩ => ?_) hs
  subst ex
  obtain rfl : u = Value.ref a := rx
  exact d_setItem hu I3 g ry rv fun s4 I4 => ⟨σ, H4, I4, q3⟩
theorem ps_daug {op : Operator} {rd : V → V → Hp → VK → Prop} (hu : X.A.units + 1 < cLine) (ho : PE X o td) (hi : PE X i ty) (hv : PE X value tv) (hop : InOp X op rd)
    (ha : ∀ ov iv new, augStore i ov iv new = (do holding [new, ov, iv] (setItem ov iv new); release [new, ov, iv] []; pure .next)) : PS X (.AugAssign (.Subscript o i tpos) op value pos) (sDAug td ty tv rd) := by
  intro pins s σ H D I h
  refine wpAny_AugAssign_SubscriptAny (thn (ho pins s σ H _ I h) fun u s1 ⟨x, H1, I1, rx, q1⟩ => thn (hi pins s1 σ H1 _ I1 q1) fun iv s2 ⟨y, H2, I2, ry, a, v, ex, g, q2⟩ => ?_) ha
  subst ex
  obtain rfl : u = Value.ref a := rx
  refine d_getItem hu I2 g ry fun w' s3 I3 rw' => thn (hv pins s3 σ H2 _ I3 q2) fun w2 s4 ⟨y2, H3, I4, ry2, q3⟩ => thn (hop pins s4 σ H3 v y2 w' w2 _ I4 rw' ry2 q3) fun w3 s5 ⟨z, H4, I5, rz, H5, g5, q4⟩ => ?_
  exact d_setItem hu I5 g5 ry rz fun s6 I6 => ⟨σ, H5, I6, q4⟩
theorem ps_ddel (ho : PE X o td) (hi : PE X i ty) : PS X (.Delete [.Subscript o i tpos] pos) (sDDel td ty) := by
  intro pins s σ H D I h
  refine wpAny_Delete (wpAny_deleteEach_cons (wpAny_delete_Subscript (thn (ho pins s σ H _ I h) fun u s1 ⟨x, H1, I1, rx, q1⟩ => thn (hi pins s1 σ H1 _ I1 q1) fun iv s2 ⟨y, H2, I2, ry, a, kvs, k, ex, e, ey, l, q2⟩ => ?_)))
  subst ex ey
  obtain rfl : u = Value.ref a := rx
  exact d_delItem I2 e ry l fun s3 I3 => wpAny_deleteEach_nil ⟨σ, _, I3, q2⟩
end


/-! ### displays -/
theorem dk_empty {P : Program} {w : World} {H : Hp} (h : Heap) (hb : sysModules < h.objs.size) : ObjOk P w H (h.push { cls := .type "dict", data := .dict #[] }) h.objs.size (.dK []) :=
  ⟨Nat.zero_le _, beq_eq_false_iff_ne.mpr (Ne.symm (Nat.ne_of_lt hb)), [], .nil, Heap.DictOf.new h⟩
theorem dt_empty {P : Program} {w : World} {H : Hp} (h : Heap) (hb : sysModules < h.objs.size) : ObjOk P w H (h.push { cls := .type "dict", data := .dict #[] }) h.objs.size (.dT []) :=
  ⟨Nat.zero_le _, beq_eq_false_iff_ne.mpr (Ne.symm (Nat.ne_of_lt hb)), [], .nil, _, #[], 0, Heap.get?_push_size _ rfl, ⟨rfl, rfl, rfl⟩, rfl, rfl, List.nodup_nil⟩
/-- {}, to be a dict of the kind that is wanted -/
def tDNewK : TE := fun _ H Q => ∀ p, H p = none → Q (.ref p) (upd H p (.dK []))
def tDNewT : TE := fun _ H Q => ∀ p, H p = none → Q (.ref p) (upd H p (.dT []))
section
variable {X : Cx} {pos : Pos}
theorem pe_dnewK : PE X (.Dict [] [] pos) tDNewK := fun pins s σ H Q I h =>
  wpAny_Dict_empty ⟨.ref s.heap.objs.size, _, I.laid (a := s.heap.objs.size) (o := .dK []) (t' := s.toks) (fun _ _ q => Heap.get?_push_of_some _ q) (Nat.le_refl _) (dk_empty s.heap I.big), rfl, h _ (I.hok.fresh (Nat.le_refl _))⟩
theorem pe_dnewT : PE X (.Dict [] [] pos) tDNewT := fun pins s σ H Q I h =>
  wpAny_Dict_empty ⟨.ref s.heap.objs.size, _, I.laid (a := s.heap.objs.size) (o := .dT []) (t' := s.toks) (fun _ _ q => Heap.get?_push_of_some _ q) (Nat.le_refl _) (dt_empty s.heap I.big), rfl, h _ (I.hok.fresh (Nat.le_refl _))⟩
end

/-- the pairs of a display, from the left -/
def tPairs : List (TE × TE) → St → Hp → (List (V × V) → Hp → Prop) → Prop
  | [], _, H, Q => Q [] H
  | (tk, tv) :: r, σ, H, Q => tk σ H fun x H1 => tv σ H1 fun y H2 => tPairs r σ H2 fun ps H3 => Q ((x, y) :: ps) H3
abbrev VV : List (V × V) → List (Value × Value) → Prop := Paired fun p q => RelV p.1 q.1 ∧ RelV p.2 q.2
def PPs (X : Cx) (pos : Pos) (keys : List (Option Expr)) (values : List Expr) (trs : List (TE × TE)) : Prop :=
  ∀ (pins : List (Addr × Obj)) (s : Shared) (σ : St) (H : Hp) (Q : List (V × V) → Hp → Prop), Inv X pins σ H s → tPairs trs σ H Q →
    wpAny (model X.prog X.w) X.A (evalPairs (pairTrees keys values X.env pos)) (fun vs s' => ∃ ps H', Inv X pins σ H' s' ∧ VV ps vs ∧ Q ps H') X.xe s
theorem pps_nil {X : Cx} {pos : Pos} : PPs X pos [] [] [] := fun pins s σ H Q I h => pairTrees_nil_walk ⟨[], H, I, .nil, h⟩
theorem pps_cons {X : Cx} {pos : Pos} {k v : Expr} {ks : List (Option Expr)} {vs : List Expr} {tk tv : TE} {trs : List (TE × TE)} (hk : PE X k tk) (hv : PE X v tv) (hr : PPs X pos ks vs trs) :
    PPs X pos (some k :: ks) (v :: vs) ((tk, tv) :: trs) := fun pins s σ H Q I h =>
  pairTrees_cons_walk (thn (hk pins s σ H _ I h) fun u s1 ⟨x, H1, I1, rx, q1⟩ => thn (hv pins s1 σ H1 _ I1 q1) fun w2 s2 ⟨y, H2, I2, ry, q2⟩ =>
    thn (hr pins s2 σ H2 _ I2 q2) fun ws s3 ⟨ps, H3, I3, rel, q3⟩ => ⟨(x, y) :: ps, H3, I3, .cons ⟨rx, ry⟩ rel, q3⟩)

def mergeK (kvs more : List (Key × V)) : List (Key × V) := more.foldl (fun acc kv => putK acc kv.1 kv.2) kvs
theorem KV.merge : ∀ {more : List (Key × V)} {rs : List (Key × Value)} {kvs : List (Key × V)} {vs : List (Key × Value)}, KV more rs → KV kvs vs → KV (mergeK kvs more) (merged vs rs) := by
  intro more rs kvs vs r
  unfold KV at r
  induction r generalizing kvs vs with
  | nil => intro q; exact q
  | @cons p q ps qs h t ih =>
    intro r0
    have e : KV (putK kvs p.1 p.2) (stored vs q.1 q.2) := by
      have := r0.put p.1 h.2
      rw [← h.1]; exact this
    exact ih e
theorem length_mergeK : ∀ (more kvs : List (Key × V)), (mergeK kvs more).length ≤ kvs.length + more.length
  | [], kvs => by show kvs.length ≤ kvs.length + 0; omega
  | p :: r, kvs => by
    have h1 := length_mergeK r (putK kvs p.1 p.2)
    have h2 := length_putK kvs p.1 p.2
    show (mergeK (putK kvs p.1 p.2) r).length ≤ _
    rw [List.length_cons]; omega
theorem carries_of {P : Program} {w : World} : ∀ {kvs : List (Key × V)} {ws : List (Value × Value)}, VV (kvs.map fun kv => (kV kv.1, kv.2)) ws → ∃ rs, Carries (mixKind P w) ws rs ∧ KV kvs rs
  | [], _, r => by rw [List.map_nil] at r; cases r; exact ⟨[], True.intro, .nil⟩
  | p :: kvs, _, r => by
    rw [List.map_cons] at r
    cases r with
    | @cons a b as bs h t =>
      obtain ⟨rs, c, q⟩ := carries_of (P := P) (w := w) t
      obtain ⟨b1, b2⟩ := b
      exact ⟨(p.1, b2) :: rs, ⟨kV_is h.1, rfl, c⟩, .cons ⟨rfl, h.2⟩ q⟩
/-- {k: v, ..} with keys ints and texts; the new dict stands empty while the pairs are made -/
def tDisp (trs : List (TE × TE)) : TE := fun σ H Q => ∀ p, H p = none → tPairs trs σ (upd H p (.dK [])) fun ps H2 => H2 p = some (.dK []) ∧ ∃ kvs : List (Key × V), ps = kvs.map (fun kv => (kV kv.1, kv.2)) ∧ kvs.length ≤ 15 ∧ Q (.ref p) (upd H2 p (.dK (mergeK [] kvs)))
theorem pe_disp {X : Cx} {pos : Pos} {keys : List (Option Expr)} {values : List Expr} {trs : List (TE × TE)} (h : PPs X pos keys values trs) (hall : keys.all (·.isSome) = true) (hl : keys.length = values.length) (h0 : keys ≠ [])
    (h15 : keys.length ≤ 15) : PE X (.Dict keys values pos) (tDisp trs) := by
  intro pins s σ H Q I q
  have hn := I.hok.fresh (Nat.le_refl s.heap.objs.size)
  have I1 := I.laid (a := s.heap.objs.size) (o := .dK []) (h' := s.heap.push { cls := .type "dict", data := .dict #[] }) (t' := s.toks) (fun _ _ q => Heap.get?_push_of_some _ q) (Nat.le_refl _) (dk_empty s.heap I.big)
  refine wpAny_Dict_walk (knd := mixKind X.prog X.w) hall hl h0 h15 (thn (h pins _ σ _ _ I1 (q _ hn)) fun ws s2 ⟨ps, H2, I2, rel, e, kvs, ep, lk, q2⟩ => ?_)
  subst ep
  obtain ⟨rs, c, rk⟩ := carries_of (P := X.prog) (w := X.w) rel
  obtain ⟨z, hd, vs0, r0, dd⟩ := dk_of I2.hok e
  cases r0
  refine ⟨rs, c, dd, fun h' dd' hs => ⟨.ref s.heap.objs.size, _, ?_, rfl, q2⟩⟩
  have hz : (mergeK [] kvs).length ≤ sizeLine := by
    have h1 := length_mergeK kvs []
    rw [List.length_nil] at h1
    rw [sizeLine_eq]; omega
  have he : ∃ q, h'.get? s.heap.objs.size = some q := let ⟨q, _, _, hq, _⟩ := dd'; ⟨q, hq⟩
  exact d_write I2 (by rw [e]; exact True.intro) hs he (dk_new hz hd (rk.merge .nil) dd')


/-! ### methods -/
/-- a method call o.m(e) of a built-in, with one argument: what must be seen of the text -/
structure M1 (X : Cx) (o : Expr) (m : Str) (apos : Pos) (e : Expr) (cpos : Pos) : Prop where
  base : attributeBase o m X.env (eval o X.env) = eval o X.env
  few : ((backTo cpos (starEach [e] X.env)).all (fun x => !x.1) && (backToKw cpos (keywordEach [] X.env)).all (fun x => x.1.isSome)
    && decide (([e] : List Expr).length + ([] : List Keyword).length + (if ([] : List Keyword).isEmpty then 0 else 1) < 30)) = true
  line : (apos.endLine == cpos.line) = true
  trees : backTo cpos (starEach [e] X.env) = [(false, eval e X.env)]
structure M2 (X : Cx) (o : Expr) (m : Str) (apos : Pos) (e f : Expr) (cpos : Pos) : Prop where
  base : attributeBase o m X.env (eval o X.env) = eval o X.env
  few : ((backTo cpos (starEach [e, f] X.env)).all (fun x => !x.1) && (backToKw cpos (keywordEach [] X.env)).all (fun x => x.1.isSome)
    && decide (([e, f] : List Expr).length + ([] : List Keyword).length + (if ([] : List Keyword).isEmpty then 0 else 1) < 30)) = true
  line : (apos.endLine == cpos.line) = true
  trees : backTo cpos (starEach [e, f] X.env) = [(false, eval e X.env), (false, eval f X.env)]

/-- a is a dict, whatever its keys -/
def IsD (H : Hp) (a : Addr) : Prop := (∃ kvs, Rd H a (.dK kvs)) ∨ ∃ kvs, Rd H a (.dT kvs)
theorem isD_at {X : Cx} {pins : List (Addr × Obj)} {σ : St} {H : Hp} {s : Shared} {a : Addr} (I : Inv X pins σ H s) (d : IsD H a) :
    s.TypeIs (.ref a) "dict" ∧ (∀ b, Value.ref a = .ref b → ∃ ob, s.heap.get? b = some ob ∧ ob.dict = none) ∧ (a == sysModules) = false := by
  rcases d with ⟨kvs, e⟩ | ⟨kvs, e⟩
  · obtain ⟨_, hd, vs, _, dd⟩ := dk_rd I.hok e
    refine ⟨dd.typeIs, fun b q => ?_, hd⟩
    cases q
    obtain ⟨ob, _, _, h1, h2, _⟩ := dd
    exact ⟨ob, h1, h2.2.1⟩
  · obtain ⟨_, hd, xs, _, dd⟩ := dt_rd I.hok e
    refine ⟨dd.typeIs, fun b q => ?_, hd⟩
    cases q
    obtain ⟨ob, _, _, h1, h2, _⟩ := dd
    exact ⟨ob, h1, h2.2.1⟩

section
variable {X : Cx} {pins : List (Addr × Obj)} {σ : St} {H : Hp} {s : Shared} {a : Addr} {y d : V} {u r : Value} {o : Option V} {A : Around} {E : Value → Shared → Prop}
/-- d.get(y) -/
theorem d_get1 {Q : Value → Shared → Prop} (hu : A.units + 1 < cLine) (I : Inv X pins σ H s) (g : DGet H a y o) (ry : RelV y u) (h : ∀ w' s', Inv X pins σ H s' → RelV (o.getD .non) w' → Q w' s') :
    wpAny (model X.prog X.w) A (call (.builtin "dict.get") [.ref a, u]) Q E s := by
  rcases g with ⟨kvs, k, e, ey, l⟩ | ⟨kvs, k, b, e, ey, eb, l⟩
  · subst ey
    obtain ⟨z, hd, vs, rel, dd⟩ := dk_rd I.hok e
    refine call_meetsIn PySem.F.slot_dict_get dd.typeIs PySem.F.entry_dict_get (PySem.F.args_dict_get_2 _ _) (meets_dict_get (mixKind X.prog X.w) a (kV_is ry) hd) ⟨_, dd.mapOf, h _ _ (I.tok _) ?_⟩
    rw [l]
    exact (rel.val k).getD rfl
  · subst ey
    cases (show u = Value.ref b from ry)
    obtain ⟨z, hd, xs, rel, dd⟩ := dt_rd I.hok e
    refine call_meetsIn PySem.F.slot_dict_get dd.typeIs PySem.F.entry_dict_get (PySem.F.args_dict_get_2 _ _) (meetsH_dict_get (tupleKind (mixKind X.prog X.w)) a b hd) ⟨tupleKind_room_in1 hu, k, xs, key_of I.hok eb, dd, h _ _ (I.tok _) ?_⟩
    rw [l]
    exact (rel.val k).getD rfl
/-- d.get(y, x) -/
theorem d_get2 {Q : Value → Shared → Prop} (hu : A.units + 1 < cLine) (I : Inv X pins σ H s) (g : DGet H a y o) (ry : RelV y u) (rd : RelV d r) (h : ∀ w' s', Inv X pins σ H s' → RelV (o.getD d) w' → Q w' s') :
    wpAny (model X.prog X.w) A (call (.builtin "dict.get") [.ref a, u, r]) Q E s := by
  rcases g with ⟨kvs, k, e, ey, l⟩ | ⟨kvs, k, b, e, ey, eb, l⟩
  · subst ey
    obtain ⟨z, hd, vs, rel, dd⟩ := dk_rd I.hok e
    refine call_meetsIn PySem.F.slot_dict_get dd.typeIs PySem.F.entry_dict_get (PySem.F.args_dict_get_3 _ _ _) (meets_dict_get_default (mixKind X.prog X.w) a (kV_is ry) hd r) ⟨_, dd.mapOf, h _ _ (I.tok _) ?_⟩
    rw [l]
    exact (rel.val k).getD rd
  · subst ey
    cases (show u = Value.ref b from ry)
    obtain ⟨z, hd, xs, rel, dd⟩ := dt_rd I.hok e
    refine call_meetsIn PySem.F.slot_dict_get dd.typeIs PySem.F.entry_dict_get (PySem.F.args_dict_get_3 _ _ _) (meetsH_dict_get_default (tupleKind (mixKind X.prog X.w)) a b hd r) ⟨tupleKind_room_in1 hu, k, xs, key_of I.hok eb, dd, h _ _ (I.tok _) ?_⟩
    rw [l]
    exact (rel.val k).getD rd
end

def tDGet1 (td ty : TE) : TE := fun σ H Q => td σ H fun x H1 => ∃ a, x = .ref a ∧ IsD H1 a ∧ ty σ H1 fun y H2 => ∃ o, DGet H2 a y o ∧ Q (o.getD .non) H2
def tDGet2 (td ty tx : TE) : TE := fun σ H Q => td σ H fun x H1 => ∃ a, x = .ref a ∧ IsD H1 a ∧ ty σ H1 fun y H2 => tx σ H2 fun z H3 => ∃ o, DGet H3 a y o ∧ Q (o.getD z) H3
/-- d.pop(k): there; d.pop(k, x): there or not -/
def tDPop1 (td ty : TE) : TE := fun σ H Q => td σ H fun x H1 => ∃ a, x = .ref a ∧ IsD H1 a ∧ ty σ H1 fun y H2 => ∃ kvs k v, H2 a = some (.dK kvs) ∧ y = kV k ∧ valV kvs k = some v ∧ Q v (upd H2 a (.dK (dropK kvs k)))
def tDPop2 (td ty tx : TE) : TE := fun σ H Q => td σ H fun x H1 => ∃ a, x = .ref a ∧ IsD H1 a ∧ ty σ H1 fun y H2 => tx σ H2 fun z H3 => ∃ kvs k, H3 a = some (.dK kvs) ∧ y = kV k ∧
  (∀ v, valV kvs k = some v → Q v (upd H3 a (.dK (dropK kvs k)))) ∧ (valV kvs k = none → Q z H3)
section
variable {X : Cx} {o e f : Expr} {apos cpos : Pos} {td ty tx : TE}
theorem pe_dget1 (hu : X.A.units + 1 < cLine) (ho : PE X o td) (he : PE X e ty) (m : M1 X o "get" apos e cpos) : PE X (.Call (.Attribute o "get" apos) [e] [] cpos) (tDGet1 td ty) := by
  intro pins s σ H Q I h
  refine wpAny_Call_method m.base m.few m.line PySem.F.plainAttrs_dict PySem.F.slot_dict_get PySem.F.type_dict_get (thn (ho pins s σ H _ I h) fun u s1 ⟨x, H1, I1, rx, a, ex, d, q1⟩ => ?_)
  subst ex
  obtain rfl : u = Value.ref a := rx
  obtain ⟨t1, t2, _⟩ := isD_at I1 d
  refine ⟨t1, t2, ?_⟩
  rw [m.trees]
  refine Calls.callWith_builtin rfl (Calls.evalArgs_plain (Calls.spliced_cons (thn (he pins s1 σ H1 _ I1 q1) fun iv s2 ⟨y, H2, I2, ry, ov, g, q2⟩ => Calls.spliced_nil ?_)))
  exact d_get1 hu I2 g ry fun w' s3 I3 rw' => ⟨_, H2, I3, rw', q2⟩
theorem pe_dget2 (hu : X.A.units + 1 < cLine) (ho : PE X o td) (he : PE X e ty) (hf : PE X f tx) (m : M2 X o "get" apos e f cpos) : PE X (.Call (.Attribute o "get" apos) [e, f] [] cpos) (tDGet2 td ty tx) := by
  intro pins s σ H Q I h
  refine wpAny_Call_method m.base m.few m.line PySem.F.plainAttrs_dict PySem.F.slot_dict_get PySem.F.type_dict_get (thn (ho pins s σ H _ I h) fun u s1 ⟨x, H1, I1, rx, a, ex, d, q1⟩ => ?_)
  subst ex
  obtain rfl : u = Value.ref a := rx
  obtain ⟨t1, t2, _⟩ := isD_at I1 d
  refine ⟨t1, t2, ?_⟩
  rw [m.trees]
  refine Calls.callWith_builtin rfl (Calls.evalArgs_plain (Calls.spliced_cons (thn (he pins s1 σ H1 _ I1 q1) fun iv s2 ⟨y, H2, I2, ry, q2⟩ =>
    Calls.spliced_cons (thn (hf pins s2 σ H2 _ I2 q2) fun fv s3 ⟨z, H3, I3, rz, ov, g, q3⟩ => Calls.spliced_nil ?_))))
  exact d_get2 hu I3 g ry rz fun w' s4 I4 rw' => ⟨_, H3, I4, rw', q3⟩
theorem pe_dpop1 (ho : PE X o td) (he : PE X e ty) (m : M1 X o "pop" apos e cpos) : PE X (.Call (.Attribute o "pop" apos) [e] [] cpos) (tDPop1 td ty) := by
  intro pins s σ H Q I h
  refine wpAny_Call_method m.base m.few m.line PySem.F.plainAttrs_dict PySem.F.slot_dict_pop PySem.F.type_dict_pop (thn (ho pins s σ H _ I h) fun u s1 ⟨x, H1, I1, rx, a, ex, d, q1⟩ => ?_)
  subst ex
  obtain rfl : u = Value.ref a := rx
  obtain ⟨t1, t2, _⟩ := isD_at I1 d
  refine ⟨t1, t2, ?_⟩
  rw [m.trees]
  refine Calls.callWith_builtin rfl (Calls.evalArgs_plain (Calls.spliced_cons (thn (he pins s1 σ H1 _ I1 q1) fun iv s2 ⟨y, H2, I2, ry, kvs, k, v, ea, ey, l, q2⟩ => Calls.spliced_nil ?_)))
  subst ey
  exact d_pop I2 ea ry l (.inl rfl) fun w' s3 I3 rw' => ⟨v, _, I3, rw', q2⟩
theorem pe_dpop2 (ho : PE X o td) (he : PE X e ty) (hf : PE X f tx) (m : M2 X o "pop" apos e f cpos) : PE X (.Call (.Attribute o "pop" apos) [e, f] [] cpos) (tDPop2 td ty tx) := by
  intro pins s σ H Q I h
  refine wpAny_Call_method m.base m.few m.line PySem.F.plainAttrs_dict PySem.F.slot_dict_pop PySem.F.type_dict_pop (thn (ho pins s σ H _ I h) fun u s1 ⟨x, H1, I1, rx, a, ex, d, q1⟩ => ?_)
  subst ex
  obtain rfl : u = Value.ref a := rx
  obtain ⟨t1, t2, _⟩ := isD_at I1 d
  refine ⟨t1, t2, ?_⟩
  rw [m.trees]
  refine Calls.callWith_builtin rfl (Calls.evalArgs_plain (Calls.spliced_cons (thn (he pins s1 σ H1 _ I1 q1) fun iv s2 ⟨y, H2, I2, ry, q2⟩ =>
    Calls.spliced_cons (thn (hf pins s2 σ H2 _ I2 q2) fun fv s3 ⟨z, H3, I3, rz, kvs, k, ea, ey, q3, q4⟩ => Calls.spliced_nil ?_))))
  subst ey
  cases l : valV kvs k with
  | some v => exact d_pop I3 ea ry l (.inr ⟨fv, rfl⟩) fun w' s4 I4 rw' => ⟨v, _, I4, rw', q3 v l⟩
  | none => exact d_popD I3 ea ry l fun s4 I4 => ⟨z, H3, I4, rz, q4 l⟩
end

/-! ### dict(d): a copy -/
section
variable {X : Cx} {pins : List (Addr × Obj)} {σ : St} {H : Hp} {s : Shared} {a : Addr} {kvs : List (Key × V)} {A : Around} {E : Value → Shared → Prop}
theorem d_copyOf {Q : Value → Shared → Prop} (I : Inv X pins σ H s) (e : Rd H a (.dK kvs)) (h : ∀ p s', H p = none → Inv X pins σ (upd H p (.dK kvs)) s' → Q (.ref p) s') : wpAny (model X.prog X.w) A (call (.type "dict") [.ref a]) Q E s := by
  obtain ⟨z, hd, vs, rel, dd⟩ := dk_rd I.hok e
  refine kt_call_dict hd dd (by rw [← rel.length]; exact z) fun h' dd' hs => ?_
  refine h _ _ (I.hok.fresh (Nat.le_refl _)) (I.laid (a := s.heap.objs.size) (o := .dK kvs) (t' := s.toks) (fun b q hq => ?_) (Nat.le_refl _) (dk_new z (beq_eq_false_iff_ne.mpr (Ne.symm (Nat.ne_of_lt I.big))) rel dd'))
  exact (hs.2 b (Nat.ne_of_lt (Heap.lt_size hq))).trans (Heap.get?_push_of_some _ hq)
end


section
variable {X : Cx} {pins : List (Addr × Obj)} {σ : St} {H : Hp} {s : Shared} {a : Addr} {y : V} {u : Value} {A : Around} {E : Value → Shared → Prop}
/-- d[y], not there: a KeyError -/
theorem d_missing {Q : Value → Shared → Prop} (hu : A.units + 1 < cLine) (hh : A.handled = none) (I : Inv X pins σ H s) (g : DGet H a y none) (ry : RelV y u)
    (h : ∀ h' e t', Heap.NewExc s.heap h' e "KeyError" → E (.ref e) { s with heap := h', toks := t' }) : wpAny (model X.prog X.w) A (getItem (.ref a) u) Q E s := by
  rcases g with ⟨kvs, k, e, ey, l⟩ | ⟨kvs, k, b, e, ey, eb, l⟩
  · subst ey
    obtain ⟨z, hd, vs, rel, dd⟩ := dk_rd I.hok e
    have hn : valueAt vs k = none := RelO.none_of (by rw [l]; exact rel.val k)
    exact wpAny_getItem_missing_of (kV_is ry) hd hh dd.mapOf hn fun h' ex ne => h h' ex _ ne
  · subst ey
    cases (show u = Value.ref b from ry)
    obtain ⟨z, hd, xs, rel, dd⟩ := dt_rd I.hok e
    have hn : (atKey xs k).map (·.2) = none := RelO.none_of (by rw [l]; exact rel.val k)
    exact wpAny_getItem_missing_heap (tupleKind_room_in1 hu) (key_of I.hok eb) hd hh dd (Option.map_eq_none_iff.mp hn) fun h' ex ne => h h' ex _ ne
end
end L2
namespace L2
open PySem PySem.Spec PyProof.Rows
section
variable {X : Cx}
theorem call_lenD : CallR X (.builtin "len") (fun xs H Q => ∃ a kvs, xs = [V.ref a] ∧ H a = some (.dK kvs) ∧ Q (.int kvs.length) H) := by
  intro pins s σ H xs us Q I r h
  obtain ⟨a, kvs, rfl, ha, q⟩ := h
  obtain ⟨u, rfl, ru⟩ := vals1 r
  cases ru
  exact d_len I (.inl ha) fun t s' I' => ⟨.int kvs.length, H, I', ⟨t, rfl⟩, q⟩
end
end L2
end
section
set_option maxRecDepth 100000
set_option maxHeartbeats 4000000
namespace LX
open PySem PySem.W

/-- an exception's object, as it stands: class, attributes' dict, its fields -/
def excRec (c : Value) (od : Option Addr) (fs : Array Value) (sl : Array (Option Value)) : Obj := { cls := c, dict := od, data := .fields fs, slots := sl }
/-- the object of a class of errors -/
def clsRec (dd : Option Addr) (cd : ClassData) (k0 k1 k2 k3 k5 : Option Value) : Obj := { cls := .type "type", dict := dd, data := .cls cd, slots := #[k0, k1, k2, k3, some (.builtin "ValueError.__new__"), k5] }

/-- a class of errors of the text's own, under ValueError -/
structure XCls (K : Frag) (C : Addr) (cd : ClassData) : Prop where
  ob : ∃ dd k0 k1 k2 k3 k5, K.lookup C = some (clsRec dd cd k0 k1 k2 k3 k5)
  del : cd.hasDel = false
  line : ∃ r, cd.mro = .ref C :: r
  val : cd.mro.contains (.type "ValueError") = true
  bas : cd.mro.contains (.type "BaseException") = true
  obj : cd.mro.contains (.type "object") = true
  atr : cd.mro.contains (.type "AttributeError") = false
  nam : cd.mro.contains (.type "NameError") = false

/-- the same as a test -/
def xclsIn (K : Frag) (C : Addr) : Bool := match K.lookup C with
  | some ⟨.type "type", _, .cls cd, sl⟩ => (match cd.mro, sl.toList with
    | .ref D :: _, [_, _, _, _, some (.builtin n), _] => D == C && n == "ValueError.__new__" && !cd.hasDel && cd.mro.contains (.type "ValueError") && cd.mro.contains (.type "BaseException") &&
        cd.mro.contains (.type "object") && !cd.mro.contains (.type "AttributeError") && !cd.mro.contains (.type "NameError")
    | _, _ => false)
  | _ => false
theorem xcls_of {K : Frag} {C : Addr} (e : xclsIn K C = true) : ∃ cd, clsIn K C = some cd ∧ XCls K C cd := by
  unfold xclsIn at e
  split at e
  · rename_i dd cd sl ho
    split at e
    · rename_i D r k0 k1 k2 k3 n k5 hm hs
      simp only [Bool.and_eq_true, beq_iff_eq, Bool.not_eq_true'] at e
      obtain ⟨⟨⟨⟨⟨⟨⟨rfl, rfl⟩, e1⟩, e2⟩, e3⟩, e4⟩, e5⟩, e6⟩ := e
      obtain ⟨sl⟩ := sl
      simp only at hs
      subst hs
      exact ⟨cd, by unfold clsIn; rw [ho], ⟨dd, k0, k1, k2, k3, k5, ho⟩, e1, ⟨r, hm⟩, e2, e3, e4, e5, e6⟩
    · cases e
  · cases e

section
variable {K : Frag} {C : Addr} {cd : ClassData} {M : Model} {h : Heap}
theorem XCls.cls (x : XCls K C cd) : clsIn K C = some cd := by
  obtain ⟨dd, k0, k1, k2, k3, k5, e⟩ := x.ob
  unfold clsIn
  rw [e]
  rfl
theorem XCls.notEmpty (x : XCls K C cd) : cd.mro.isEmpty = false := by
  obtain ⟨r, e⟩ := x.line
  rw [e]
  rfl
theorem XCls.sub (x : XCls K C cd) (X : K.In h) (v : Value) : Looks M h (isSubtype (.ref C) v) (cd.mro.contains v) :=
  looks_mroIn X (by unfold mroIn; rw [x.cls, Option.bind_some, if_neg (by rw [x.notEmpty]; decide)])
theorem XCls.mro (x : XCls K C cd) (X : K.In h) : Looks M h (mroOf (.ref C)) cd.mro := (looks_clsIn X x.cls).andThen .now
theorem XCls.typ (x : XCls K C cd) (X : K.In h) : Looks M h (typeOf (.ref C)) (.type "type") := by
  obtain ⟨dd, k0, k1, k2, k3, k5, e⟩ := x.ob
  exact (Looks.ld (X _ _ e)).andThen .now
theorem XCls.isTy (x : XCls K C cd) (X : K.In h) : Looks M h (isType (.ref C)) true := by
  obtain ⟨dd, k0, k1, k2, k3, k5, e⟩ := x.ob
  intro A Q E s k q
  unfold isType loadHead
  exact wpAny_bind (wpAny_loadPart (k _ _ (X _ _ e)) (wpAny_pure q))
theorem XCls.madeBy (x : XCls K C cd) (X : K.In h) : Looks M h (Bind.madeBy (.ref C)) (some "ValueError.__new__") := by
  obtain ⟨dd, k0, k1, k2, k3, k5, e⟩ := x.ob
  obtain ⟨r, hr⟩ := x.line
  intro A Q E s k q
  unfold Bind.madeBy
  refine wpAny_bind (x.mro X A _ E s k ?_)
  rw [hr, List.forIn_cons]
  refine wpAny_bind (wpAny_bind (wpAny_bind (wpAny_bind (wpAny_loadPart (k _ _ (X _ _ e)) (wpAny_pure ?_)))))
  exact wpAny_pure (wpAny_pure (wpAny_pure q))
theorem XCls.static (x : XCls K C cd) (X : K.In h) : Looks M h (Bind.staticBase (.ref C)) (.ref C) := by
  obtain ⟨r, hr⟩ := x.line
  intro A Q E s k q
  unfold Bind.staticBase
  refine wpAny_bind (x.mro X A _ E s k ?_)
  rw [hr, List.forIn_cons]
  exact wpAny_bind (wpAny_bind (wpAny_bind (x.madeBy X A _ E s k (wpAny_pure (wpAny_pure (wpAny_pure q))))))
theorem canonVE : Manifest.canonical "ValueError.__new__" = Manifest.canonical "BaseException.__new__" := PySem.F.excBase_ValueError.canon
theorem XCls.here (x : XCls K C cd) (X : K.In h) : Looks M h (Bind.madeHere "BaseException.__new__" (.ref C)) () :=
  (x.static X).andThen ((x.madeBy X).andThen (Looks.of_pure (by simp only [Option.map_some, canonVE, bne_self_eq_false, Bool.false_eq_true, if_false])))
theorem XCls.here' (x : XCls K C cd) (X : K.In h) : Looks M h (Bind.madeHere "ValueError.__new__" (.ref C)) () :=
  (x.static X).andThen ((x.madeBy X).andThen (Looks.of_pure (by simp only [Option.map_some, bne_self_eq_false, Bool.false_eq_true, if_false])))
end

/-- behind __init__ -/
def Back (x : Addr) (R : Result → Shared → Prop) (r : Result) (s' : Shared) : Prop := match r with
  | .ok (.ret v) => v = .none ∧ R (.ok (.ret (.ref x))) s'
  | .ok _ => False
  | .error e => R (.error e) s'
/-- a new exception's record -/
abbrev newRec (C t : Addr) : Obj := excRec (.ref C) none #[.ref t, .none, .none, .none, .bool false, .none] #[]
abbrev tupRec (vs : List Value) : Obj := { cls := .type "tuple", data := .seq vs.toArray }
/-- the heap with a new exception -/
abbrev withNew (h : Heap) (C : Addr) (vs : List Value) : Heap := (h.push (tupRec vs)).push (newRec C h.objs.size)

section
variable {prog : Program} {w : World} {A : Around} {R : Result → Shared → Prop} {h : Heap} {g : Array GenState} {d : Drawn} {t : Nat} {os : OsState} {K : Frag} {C : Addr} {cd : ClassData} {vs : List Value}

theorem made_new (x : XCls K C cd) (X : K.In h) (hv : vs.length ≤ sizeLine) (k : R (.ok (.ret (.ref (h.objs.size + 1)))) ⟨withNew h C vs, g, d, t, os⟩) :
    codeAny (model prog w) A (.call (.builtin "ValueError.__new__") ⟨.ref C :: vs, []⟩) R ⟨h, g, d, t, os⟩ := by
  have F := PySem.F.excBase_ValueError
  have st := x.static (M := model prog w) X
  have ty := x.isTy (M := model prog w) X
  have mb := x.madeBy (M := model prog w) X
  have hh := x.here (M := model prog w) X
  have s1 := x.sub (M := model prog w) X (.type "ValueError")
  rw [x.val] at s1
  have s2 := x.sub (M := model prog w) X (.type "AttributeError")
  rw [x.atr] at s2
  have s3 := x.sub (M := model prog w) X (.type "NameError")
  rw [x.nam] at s3
  refine codeAny_call_builtin_code (Code.quiet_builtin _ F.quiet) ?_
  have star := F.noStar
  simp only [checkBuiltinCall, F.newKind, F.newSplit, F.newRow]
  repeat (first | simp only [bne_self_eq_false, Bool.false_eq_true, if_false, Bool.not_true] | lk)
  refine codeAny_builtinAt F.entry ?_
  unfold Builtin.«BaseException.__new__»
  refine wpAt_bind ?_
  show wpAt _ _ _ (stack >>= _) _ _ _
  refine wpAt_bind (wpAt_stack fun p below => wpAt_of_wpAny ?_)
  have hends := F.ends
  wp_walk
  refine wpAt_of_wpAny ?_
  rw [F.owner]
  repeat (first | simp only [bne_self_eq_false, Bool.false_eq_true, if_false, Bool.not_true] | lk)
  rw [if_neg (by rw [List.size_toArray]; omega)]
  obtain ⟨dd, k0, k1, k2, k3, k5, ho⟩ := x.ob
  repeat lk
  refine nd_load (Heap.get?_push_of_some _ (Heap.get?_push_of_some _ (X _ _ ho))) (wpAny_pure (wpAny_pure ?_))
  rw [x.del, if_neg Bool.false_ne_true]
  refine wpAny_pure (wpAny_pure ?_)
  show R _ _
  rw [Heap.size_push]
  exact k

/-- C(..) of an error class of the text's own whose __init__ is a def of the text -/
theorem exc_made {f : Addr} (x : XCls K C cd) (X : K.In h) (hi : findIn K (.ref C) "__init__" = some (some (.ref f))) (hf : typeIn K (.ref f) = some (.type "function")) (hv : vs.length ≤ sizeLine)
    (k : codeAny (model prog w) (A.under (.builtin "type.__call__" ⟨.ref C :: vs, []⟩)) (.call (.ref f) ⟨.ref (h.objs.size + 1) :: vs, []⟩) (Back (h.objs.size + 1) R) ⟨withNew h C vs, g, d, t, os⟩) :
    codeAny (model prog w) A (.call (.ref C) ⟨vs, []⟩) R ⟨h, g, d, t, os⟩ := by
  obtain ⟨dd, k0, k1, k2, k3, k5, ho⟩ := x.ob
  have hC := X _ _ ho
  have ht := x.typ (M := model prog w) X
  refine codeAny_of_tree ?_
  show wpAny _ _ (callAny (.ref C) _) _ _ _
  refine nd_load hC ?_
  show wpAny _ _ (callAny.viaDunder (.ref C) _) _ _ _
  unfold callAny.viaDunder
  have sp : Looks (model prog w) h (specialOf (.ref C) "__call__") (some (.builtin "type.__call__")) := ht.andThen (Looks.of_pure tc_lookup)
  refine wpAny_bind (sp.at ?_)
  dsimp only
  rw [tc_bind]
  refine wpAny_bind (wpAny_pure (wpAny_bind (wpAny_pure ?_)))
  refine wpAny_pure (a := Fin.again (.call (.builtin "type.__call__") ⟨.ref C :: vs, []⟩)) (And.intro rfl ?_)
  refine codeAny_call_builtin_at (Code.quiet_builtin _ (by decide +kernel)) entry_typeCall (check_slot tc_kind tc_split (ht.andThen (Looks.of_pure tc_sub)) (tc_args _ _ _) ?_)
  unfold Builtin.«type.__call__»
  have hm := x.mro (M := model prog w) X
  have em := x.notEmpty
  have mb := x.madeBy (M := model prog w) X
  repeat (first | simp only [em, Bool.false_eq_true, if_false] | with_reducible refine wpAny_call ?_ | lk)
  refine made_new x X hv ?_
  have kp : ∀ b o, h.get? b = some o → (withNew h C vs).get? b = some o := fun b o e => Heap.get?_push_of_some _ (Heap.get?_push_of_some _ e)
  have X1 : K.In (withNew h C vs) := X.keeps kp
  have hx : (withNew h C vs).get? (h.objs.size + 1) = some (newRec C h.objs.size) := by heap_get
  have t1 : Looks (model prog w) (withNew h C vs) (typeOf (.ref (h.objs.size + 1))) (.ref C) := (Looks.ld hx).andThen .now
  have s1 := x.sub (M := model prog w) X1 (.ref C)
  obtain ⟨r, hr⟩ := x.line
  rw [show cd.mro.contains (.ref C) = true by rw [hr]; simp] at s1
  have i1 := looks_findIn (M := model prog w) X1 hi
  have b1 := bind_fn (M := model prog w) X1 (.ref (h.objs.size + 1)) hf
  unfold isInstance callSpecial? specialOf
  repeat (first | with_reducible refine wpAny_call ?_ | lk)
  refine codeAny_mono k fun r s' z => ?_
  rcases r with e | (v | _ | _ | _) <;> first | exact z | exact z.elim | skip
  obtain ⟨rfl, z⟩ := z
  exact wpAny_pure (wpAny_pure z)
end
end LX
end
section
set_option maxRecDepth 100000
set_option maxHeartbeats 4000000
namespace LX
open PySem PySem.W
section
variable {prog : Program} {w : World} {A : Around} {E : Value → Shared → Prop} {h : Heap} {g : Array GenState} {d : Drawn} {t : Nat} {os : OsState} {K : Frag} {C e t0 : Addr} {cd : ClassData} {vs : List Value} {od : Option Addr} {fs : Array Value} {sl : Array (Option Value)}

theorem rec_type {M : Model} (he : h.get? e = some (excRec (.ref C) od fs sl)) : Looks M h (typeOf (.ref e)) (.ref C) := (Looks.ld he).andThen .now

/-- ValueError.__init__(e, ..): the arguments are kept anew -/
theorem init_called {Q : Value → Shared → Prop} (x : XCls K C cd) (X : K.In h) (he : h.get? e = some (excRec (.ref C) od fs sl)) (h0 : fs[0]? = some (.ref t0)) (hv : vs.length ≤ sizeLine)
    (k : Q .none ⟨(h.push (tupRec vs)).update e (Obj.mapFields (·.setIfInBounds 0 (.ref h.objs.size))), g, d, t, os⟩) :
    wpAny (model prog w) A (call (.builtin "ValueError.__init__") (.ref e :: vs)) Q E ⟨h, g, d, t, os⟩ := by
  have F := PySem.F.excBase_ValueError
  have ty := rec_type (M := model prog w) he
  have s1 := x.sub (M := model prog w) X (.type "ValueError")
  rw [x.val] at s1
  obtain ⟨dd, k0, k1, k2, k3, k5, ho⟩ := x.ob
  have hC : h.get? C = some ⟨.type "type", dd, .cls cd, #[k0, k1, k2, k3, some (.builtin "ValueError.__new__"), k5]⟩ := X _ _ ho
  have star := F.noStar
  refine wpAny_call (codeAny_call_builtin F.init.plain F.initEntry ?_)
  simp only [checkBuiltinCall, F.initKind, F.initSplit, F.initRow]
  unfold isInstance Bind.checkArgs
  refine wpAny_bind (wpAny_bind (ty.at (s1.at ?_)))
  simp only [Bool.false_eq_true, if_false, Bool.not_true]
  refine wpAny_bind (m := Bind.printed "*" true _ _) ?_
  unfold Bind.printed Bind.receiverType typeNameWhole
  rw [if_neg (by decide)]
  dsimp only
  rw [if_neg (by decide)]
  refine wpAny_bind (ty.at ?_)
  refine wpAny_bind (wpAny_bind ((looks_clsIn X x.cls).at (wpAny_pure (wpAny_pure ?_))))
  refine wpAny_bind (m := if ("ValueError" != "*") = true then pure "ValueError" else _) ?_
  rw [if_pos star]
  refine wpAny_pure (wpAny_onRaise ?_)
  show wpAny _ _ (Bind.check _ _ _ _ []) _ _ _
  rw [PyProof.Rows.check_varPos]
  refine wpAny_pure ?_
  unfold Builtin.«BaseException.__init__»
  dsimp only
  rw [if_neg (by simp)]
  unfold newTuple Builtin.BaseException.bexcPut
  have hsz : 0 < fs.size := (Array.getElem?_eq_some_iff.mp h0).1
  have e1 := Heap.get?_push_of_some (h := h) (tupRec vs) he
  refine wpAny_bind (wpAny_newObj_type ?_ (by show vs.toArray.size ≤ sizeLine; rw [List.size_toArray]; exact hv))
  refine wpAny_bind (wpAny_bind (wpAny_field (s := ⟨h.push (tupRec vs), g, d, t, os⟩) e1 rfl h0 ?_))
  refine wpAny_bind (wpAny_setField (s := ⟨h.push (tupRec vs), g, d, t, os⟩) e1 rfl hsz ?_)
  exact wpAny_letGo (wpAny_pure k)
end
end LX
end
section
set_option maxRecDepth 100000
set_option maxHeartbeats 4000000
namespace LX
open PySem PySem.W
section
variable {prog : Program} {w : World} {A : Around} {E : Value → Shared → Prop} {s : Shared} {K : Frag}
theorem ve_find : findCls K (.type "ValueError") (.type "type") "__init__" = some (.val (.builtin "ValueError.__init__")) := by kernel_rfl
theorem ve_ga : findIn K (.type "type") "__getattribute__" = some (some (.builtin "type.__getattribute__")) := by kernel_rfl
theorem ve_typ {M : Model} {h : Heap} : Looks M h (typeOf (.type "ValueError")) (.type "type") := Looks.of_pure (by kernel_rfl)
theorem ve_sub : subIn K (.type "type") (.type "type") = some true := by kernel_rfl
theorem ve_opq {M : Model} {h : Heap} : Looks M h (opaqueClassAbove (.type "ValueError")) none := Looks.of_pure (by kernel_rfl)
/-- ValueError.__init__, as it is called -/
theorem ve_init {pl : Sem Bool} {Q : Value × List Value → Shared → Prop} (X : K.In s.heap) (k : Q (.builtin "ValueError.__init__", []) { s with toks := s.toks + 1 }) :
    wpAny (model prog w) A (getMethod (.type "ValueError") "__init__" pl) Q E s := by
  have sp : Looks (model prog w) s.heap (specialOf (.type "ValueError") "__getattribute__") (some (.builtin "type.__getattribute__")) := ve_typ.andThen (looks_findIn X ve_ga)
  unfold getMethod
  refine wpAny_bind (sp.here ?_)
  dsimp only
  rw [if_pos canon_tga]
  refine wpAny_bind (cls_open (hook := none) X ve_opq ve_typ ve_ga (Looks.of_pure (by kernel_rfl)) ve_sub ve_find ?_)
  refine wpAny_pure ?_
  show wpAny _ _ (handedOut _) _ _ _
  rw [handedOut_of (by kernel_rfl)]
  exact wpAny_pure (wpAny_pure k)
end
end LX
end
section
set_option maxRecDepth 100000
set_option maxHeartbeats 4000000
namespace LX
open PySem PySem.W
section
variable {prog : Program} {w : World} {A : Around} {E : Value → Shared → Prop} {s : Shared} {K : Frag} {env : Env}
/-- what is raised: an exception of a class of the text's own, not raised yet -/
def RaisableX (K : Frag) (E : Value → Shared → Prop) (v : Value) (s1 : Shared) : Prop :=
  ∃ (ea C : Addr) (cd : ClassData) (od : Option Addr) (fs : Array Value) (sl : Array (Option Value)), v = .ref ea ∧ s1.heap.get? ea = some (excRec (.ref C) od fs sl) ∧ fs[1]? = some .none ∧ XCls K C cd ∧ K.In s1.heap ∧ E (.ref ea) s1
theorem raise_own {e : Expr} {pos : Pos} {Q : Flow → Shared → Prop} (hh : A.handled = none) (k : wpAny (model prog w) A (eval e env) (RaisableX K E) E s) :
    wpAny (model prog w) A (exec (.Raise (some e) none pos) env) Q E s := by
  show wpAny (model prog w) A (do standAt pos; raiseStmt env (some (do let v ← eval e env; standAt pos; pure v)) none) Q E s
  refine wpAny_bind (wpAny_standAt ?_)
  unfold raiseStmt
  dsimp only
  refine wpAny_bind (wpAny_bind (wpAny_mono k (fun v s1 q => wpAny_bind (wpAny_standAt (wpAny_pure ?_))) fun _ _ z => z))
  obtain ⟨ea, C, cd, od, fs, sl, rfl, he, h1, x, X, hE⟩ := q
  obtain ⟨hp, g, d, tk, os⟩ := s1
  have ty := rec_type (M := model prog w) he
  have nt : Looks (model prog w) hp (isType (.ref ea)) false := by
    intro A' Q' E' s' kk q
    unfold isType loadHead
    exact wpAny_bind (wpAny_loadPart (kk _ _ he) (wpAny_pure q))
  have sb := x.sub (M := model prog w) X (.type "BaseException")
  rw [x.bas] at sb
  have ct := x.typ (M := model prog w) X
  have f1 : Looks (model prog w) hp (field (.ref ea) 1) .none := looks_field he 1 h1
  refine wpAny_bind (wpAny_pure ?_)
  dsimp only
  refine wpAny_bind (wpAny_holding ?_)
  unfold excFromValue isExcClass isInstance
  repeat (first | simp only [Bool.false_eq_true, if_false, if_true] | lk)
  show wpAny _ _ handled _ _ _
  refine wpAny_handled ?_
  rw [hh]
  exact wpAny_throw hE
/-- does an exception of one class of ours match another one -/
theorem matches_own {ea C D : Addr} {cd cd' : ClassData} {od : Option Addr} {fs : Array Value} {sl : Array (Option Value)} {h : Heap} {g : Array GenState} {d : Drawn} {t : Nat} {os : OsState} {Q : Bool → Shared → Prop} {M : Model} (x : XCls K C cd) (y : XCls K D cd') (X : K.In h)
    (he : h.get? ea = some (excRec (.ref C) od fs sl)) (q : Q (cd.mro.contains (.ref D)) ⟨h, g, d, t, os⟩) : wpAny M A (excMatches (.ref ea) (.ref D)) Q E ⟨h, g, d, t, os⟩ := by
  have ty := rec_type (M := M) he
  have td := y.typ (M := M) X
  have ti := y.isTy (M := M) X
  have tn : Looks M h (isSubtype (.type "type") (.type "tuple")) false := Looks.of_pure tc_notTuple
  have yb := y.sub (M := M) X (.type "BaseException")
  rw [y.bas] at yb
  have xs := x.sub (M := M) X (.ref D)
  unfold excMatches isInstance isExcClass
  repeat (first | simp only [Bool.false_eq_true, if_false, if_true, Bool.not_true] | lk)
  cases hb : cd.mro.contains (.ref D) with
  | true =>
    rw [hb] at q
    simp only [if_true]
    repeat lk
    exact q
  | false =>
    rw [hb] at q
    simp only [Bool.false_eq_true, if_false]
    repeat lk
    exact q

/-- an exception as an instance of its class -/
theorem inst_none {ea C : Addr} {fs : Array Value} {sl : Array (Option Value)} {h : Heap} (he : h.get? ea = some (excRec (.ref C) none fs sl)) : InstAt h ea (excRec (.ref C) none fs sl) C none := ⟨he, rfl, rfl, True.intro⟩
theorem inst_some {ea C dx : Addr} {o : Obj} {fs : Array Value} {sl : Array (Option Value)} {h : Heap} (he : h.get? ea = some (excRec (.ref C) (some dx) fs sl)) (hd : h.get? dx = some o) : InstAt h ea (excRec (.ref C) (some dx) fs sl) C (some o) := ⟨he, rfl, rfl, hd⟩
theorem canonBE : (Manifest.canonical "BaseException.__getattribute__" != "object.__getattribute__") = false := by decide +kernel
/-- e.m(..): the method, a def of the class or of one above it -/
theorem meth_exc {ea C f : Addr} {ox : Obj} {od : Option Obj} {name : Str} {pl : Sem Bool} {Q : Value × List Value → Shared → Prop} (X : K.In s.heap) (I : InstAt s.heap ea ox C od)
    (hg : findIn K (.ref C) "__getattribute__" = some (some (.builtin "BaseException.__getattribute__"))) (hk : findIn K (.ref C) "__getattr__" = some none)
    (hf : findIn K (.ref C) name = some (some (.ref f))) (ht : typeIn K (.ref f) = some (.type "function")) (hs : shadowIn od name = some false) (k : Q (.ref f, [.ref ea]) s) :
    wpAny (model prog w) A (getMethod (.ref ea) name pl) Q E s := by
  unfold getMethod specialOf
  refine wpAny_bind (wpAny_bind (I.type.here ((looks_findIn X hg).here ?_)))
  dsimp only
  rw [canonBE, if_neg Bool.false_ne_true]
  refine wpAny_bind (wpAny_bind (I.type.here ((looks_findIn X hk).here ?_)))
  refine wpAny_bind (wpAny_bind (I.type.here ((looks_findIn X hf).here (wpAny_bind ((looks_typeIn X ht).here ?_)))))
  rw [if_neg (by decide +kernel)]
  refine wpAny_bind (wpAny_loadPart I.at_ ?_)
  have hd := I.dict
  cases e : ox.dict with
  | none => exact wpAny_bind (wpAny_rule (wpAny_pure k))
  | some dx =>
    cases od with
    | none => rw [e] at hd; exact hd.elim
    | some o =>
      rw [e] at hd
      obtain ⟨r, a, b⟩ := Option.map_eq_some_iff.mp hs
      refine wpAny_bind (wpAny_bind (wpAny_loadPart hd ?_))
      rw [nsLook_of a]
      refine wpAny_pure ?_
      rw [b]
      exact wpAny_bind (wpAny_rule (wpAny_pure k))
end
end LX
end
section
set_option maxRecDepth 100000
set_option maxHeartbeats 4000000
namespace LX
open PySem PySem.W
/-- what attributes of an exception's class ask -/
structure XGet (K : Frag) (C : Addr) : Prop where
  ga : findIn K (.ref C) "__getattribute__" = some (some (.builtin "BaseException.__getattribute__"))
  gt : findIn K (.ref C) "__getattr__" = some none
section
variable {prog : Program} {w : World} {A : Around} {E : Value → Shared → Prop} {h : Heap} {g : Array GenState} {d : Drawn} {t : Nat} {os : OsState} {K : Frag} {C ea : Addr} {cd : ClassData} {ox : Obj} {od : Option Obj} {name : Str}
/-- e.name, whatever is found -/
theorem getby_exc {tk : Tok} {fill expr : Bool} {r : Builtin.ObjectAttr.Found} {Q : Value → Shared → Prop} (x : XCls K C cd) (G : XGet K C) (X : K.In h) (I : InstAt h ea ox C od) (hf : findObj K C od name = some r)
    (k : match r with
      | .value v => handedIn v = true ∧ Q v ⟨h, g, d, t, os⟩
      | .bind gg a => wpAny (model prog w) A.in1 (call gg [a, .ref ea, .ref C]) (fun v s' => handedIn v = true ∧ Q v s') (fun _ _ => False) ⟨h, g, d, t, os⟩
      | .missing => False) :
    wpAny (model prog w) A (getAttrBy (.ref ea) (.str name tk) fill expr) Q E ⟨h, g, d, t, os⟩ := by
  have ty := I.type (M := model prog w)
  have l1 := looks_findIn (M := model prog w) X G.ga
  have l2 := looks_findIn (M := model prog w) X G.gt
  have l3 := looks_find (M := model prog w) X I hf
  have sb := x.sub (M := model prog w) X (.type "BaseException")
  rw [x.bas] at sb
  have S := PySem.F.excAttr_ValueError.ga
  unfold getAttrBy
  refine wpAny_holding (wpAny_bind (ty.at (wpAny_bind (l1.at ?_))))
  dsimp only
  rw [show (onTheHeap (Value.ref C) && Value.builtin "BaseException.__getattribute__" == Value.builtin "object.__getattribute__") = false by rw [show (Value.builtin "BaseException.__getattribute__" == Value.builtin "object.__getattribute__") = false by decide +kernel, Bool.and_false], if_neg Bool.false_ne_true]
  unfold getAttrByItsOwn
  have hb : Looks (model prog w) h (hookBefore (.ref C)) none := looks_hook X (by rw [if_pos (by rfl)]; exact G.gt)
  refine wpAny_bind (hb.at (wpAny_bind (wpAny_attempt (wpAny_holding ?_))))
  unfold callGetattribute
  rw [show (expr && onTheHeap (Value.builtin "BaseException.__getattribute__")) = false from Bool.and_false _, if_neg Bool.false_ne_true]
  unfold boundAndCalled
  rw [S.bind]
  refine wpAny_bind (wpAny_pure ?_)
  show wpAny _ _ (call (.builtin "BaseException.__getattribute__") [.ref ea, .str name tk]) _ _ _
  refine wpAny_call (codeAny_call_builtin S.plain PySem.F.entry_bexc_ga ?_)
  refine @check_slot (model prog w) _ _ ⟨h, g, d, t, os⟩ "BaseException.__getattribute__" "BaseException" "__getattribute__" (.ref ea) [.str name tk] [] _ (by decide +kernel) (by decide +kernel) (ty.andThen sb) (PySem.F.args_bexc_ga (.ref ea) (.str name tk)) ?_
  unfold Builtin.«object.__getattribute__»
  refine wpAny_bind (wpAny_pure (wpAny_bind (wpAny_pure (wpAny_bind (ty.at (wpAny_bind (l3.at ?_)))))))
  cases r with
  | value v =>
    refine wpAny_pure ?_
    show wpAny _ _ (handedOut v) _ _ _
    rw [handedOut_of k.1]
    exact wpAny_pure k.2
  | bind gg a =>
    refine wpAny_bind (wpAny_holding (wpAny_mono k (fun v s' z => wpAny_pure ?_) fun _ _ z => z.elim))
    show wpAny _ _ (handedOut v) _ _ _
    rw [handedOut_of z.1]
    exact wpAny_pure z.2
  | missing => exact k.elim
/-- e.__class__ as isinstance asks it -/
theorem class_exc {Q : Option Value → Shared → Prop} (x : XCls K C cd) (G : XGet K C) (X : K.In h) (I : InstAt h ea ox C od) (hc : findIn K (.ref C) "__class__" = some (some (.builtin "object.__class__")))
    (k : Q (some (.ref C)) ⟨h, g, d, t + 1, os⟩) : wpAny (model prog w) A (getAttr? (.ref ea) "__class__") Q E ⟨h, g, d, t, os⟩ := by
  have hn : specialIn K (.builtin "object.__class__") "__get__" = some (some (.builtin "getset_descriptor.__get__")) := by kernel_rfl
  have ht : takesIn K (.builtin "object.__class__") = some true := by kernel_rfl
  have hf : findObj K C od "__class__" = some (.bind (.builtin "getset_descriptor.__get__") (.builtin "object.__class__")) := by
    unfold findObj
    rw [x.cls, Option.bind_some, hc, Option.bind_some]
    dsimp only
    rw [hn, Option.bind_some]
    dsimp only
    rw [ht]
    rfl
  have mo : mroIn K C (.type "object") = some true := by
    unfold mroIn
    rw [x.cls, Option.bind_some, if_neg (by rw [x.notEmpty]; decide), x.obj]
  unfold getAttr? getAttrBy?
  refine wpAny_bind (wpAny_mkText (wpAny_bind (wpAny_attempt ?_)))
  refine getby_exc (t := t + 1) x G X I hf ?_
  refine wpAny_call ?_
  refine class_get (s := ⟨h, g, d, t + 1, os⟩) (ox := ox) (od := od) X I mo ⟨rfl, ?_⟩
  exact wpAny_pure k
/-- isinstance's ways with an exception -/
theorem kit_exc (x : XCls K C cd) (G : XGet K C) (hc : findIn K (.ref C) "__class__" = some (some (.builtin "object.__class__"))) : KitX K (.ref ea) (.ref C) (fun h => ∃ ox od, InstAt h ea ox C od) where
  ty := fun _ _ _ ⟨_, _, I⟩ => I.type
  it := fun _ _ X _ => x.isTy X
  ne := fun h tp dd its n sl X htp => by
    obtain ⟨d2, k0, k1, k2, k3, k5, e⟩ := x.ob
    refine Bool.eq_false_iff.mpr fun q => ?_
    have e2 : C = tp := Value.ref.inj (beq_iff_eq.mp q)
    subst e2
    have z := congrArg (fun o : Option Obj => o.map (·.data)) ((X _ _ e).symm.trans htp)
    simp [clsRec] at z
  ca := fun {_ _ _ _ _ s} X ⟨_, _, I⟩ k => by
    obtain ⟨hh, gg, dd, tt, oo⟩ := s
    exact class_exc x G X I hc k
end
end LX
end
section
set_option maxRecDepth 100000
set_option maxHeartbeats 4000000
namespace LX
open PySem PySem.W
section
variable {prog : Program} {w : World} {A : Around} {E : Value → Shared → Prop} {h : Heap} {g : Array GenState} {d : Drawn} {t : Nat} {os : OsState} {K : Frag} {C CH ea : Addr} {cd : ClassData} {fs : Array Value} {sl : Array (Option Value)} {name : Str} {v : Value}
/-- e.name = v, the first attribute of an exception -/
theorem set_exc {Q : Unit → Shared → Prop} (x : XCls K C cd) (hm : cd.mro = [.ref C, .ref CH, .type "ValueError", .type "Exception", .type "BaseException", .type "object"]) (hh : cd.hasDict = true) (X : K.In h) (he : h.get? ea = some (excRec (.ref C) none fs sl))
    (hs : findIn K (.ref C) "__setattr__" = some (some (.builtin "object.__setattr__"))) (hn : findIn K (.ref C) name = some none)
    (k : ∀ m, m.Ns1 h.objs.size (fun y => if y = name then some v else none) → m.get? ea = some (excRec (.ref C) (some h.objs.size) fs sl) → (∀ b o, b ≠ ea → h.get? b = some o → m.get? b = some o) → Q () ⟨m, g, d, t + 2, os⟩) :
    wpAny (model prog w) A (setAttr (.ref ea) name v) Q E ⟨h, g, d, t, os⟩ := by
  have SF := PySem.F.store_object
  have I := inst_none he
  refine set_plain (s := ⟨h, g, d, t, os⟩) X I hs ?_
  have ty := I.type (M := model prog w)
  have sb := x.sub (M := model prog w) X (.type "object")
  rw [x.obj] at sb
  have mr := x.mro (M := model prog w) X
  rw [hm] at mr
  have lk1 := looks_findIn (M := model prog w) X hn
  have c1 : Looks (model prog w) h (classOwn (.type "ValueError") "__setattr__") none := Looks.of_pure (by kernel_rfl)
  have c2 : Looks (model prog w) h (classOwn (.type "Exception") "__setattr__") none := Looks.of_pure (by kernel_rfl)
  have c3 : Looks (model prog w) h (classOwn (.type "BaseException") "__setattr__") none := Looks.of_pure (by kernel_rfl)
  have c4 : Looks (model prog w) h (classOwn (.type "object") "__setattr__") (some (.builtin "object.__setattr__")) := Looks.of_pure (by kernel_rfl)
  refine codeAny_call_builtin SF.slot.plain SF.entry (@check_slot (model prog w) _ _ ⟨h, g, d, t + 1, os⟩ "object.__setattr__" "object" "__setattr__" (.ref ea) [.str name t, v] [] _ SF.kind SF.split (ty.andThen sb) (SF.args (.ref ea) (.str name t) v) ?_)
  unfold Builtin.«object.__setattr__» Builtin.ObjectAttr.refuseIfOverridden
  repeat lk
  obtain ⟨dd, k0, k1, k2, k3, k5, ho⟩ := x.ob
  refine nd_load (X _ _ ho) (wpAny_pure (wpAny_pure ?_))
  rw [hh, if_neg (by decide)]
  show wpAny _ _ (do let d ← alloc emptyDict; update ea (fun o => { o with dict := some d }); pure (some d)) _ _ _
  refine wpAny_bind (wpAny_alloc (wpAny_bind ?_))
  have e1 := Heap.get?_push_of_some (h := h) emptyDict he
  refine wpAny_update (s := ⟨h.push emptyDict, g, d, t + 1, os⟩) e1 (wpAny_pure ?_)
  have e2 : ((h.push emptyDict).update ea fun o => { o with dict := some h.objs.size }).get? ea = some (excRec (.ref C) (some h.objs.size) fs sl) := Heap.get?_update_self _ e1 rfl
  have ne : h.objs.size ≠ ea := Nat.ne_of_gt (Heap.lt_size he)
  have n0 : ((h.push emptyDict).update ea fun o => { o with dict := some h.objs.size }).Ns h.objs.size (fun _ => none) :=
    ⟨emptyDict, #[], _, (Heap.get?_update_other _ _ (Ne.symm ne)).trans (Heap.get?_push_size h rfl), rfl, (fun e he => absurd he (by simp)), fun _ => rfl⟩
  have n1 := Heap.Ns1.of_empty n0
  show wpAny _ _ (Builtin.ObjectAttr.storeInDict h.objs.size (.str name t) name v) _ _ _
  unfold Builtin.ObjectAttr.storeInDict
  refine wpAny_bind (m := Builtin.ObjectAttr.newKeyGuard _ _ _) (wpAny_pure ?_)
  refine wpAny_bind (wpAny_nsSet1 (s := ⟨(h.push emptyDict).update ea fun o => { o with dict := some h.objs.size }, g, d, t + 1, os⟩) n1 fun m hn2 hs2 => ?_)
  obtain ⟨oD, esD, epD, hoD, hdD, hcD⟩ := hn2.count (PySem.Within.cons name v (ns := []) (fun y hy => absurd rfl hy))
  refine wpAny_bind (wpAny_lookBehind hoD (by rw [hdD]; exact pastItsLine_dict (Nat.le_trans hcD (by show 1 ≤ sizeLine + 1; decide))) ?_)
  refine wpAny_pure (k m hn2 ((hs2.2 _ (Ne.symm ne)).trans e2) fun b o hb q => ?_)
  have nb : b ≠ h.objs.size := Nat.ne_of_lt (Heap.lt_size q)
  rw [hs2.2 b nb, Heap.get?_update_other _ _ (Ne.symm hb)]
  exact Heap.get?_push_of_some _ q

/-- e.name, an attribute of the exception's own -/
theorem get_exc {dx : Addr} {mA : Str → Option Value} {expr : Bool} {Q : Value → Shared → Prop} (x : XCls K C cd) (G : XGet K C) (hh : cd.hasDict = true) (X : K.In h) (he : h.get? ea = some (excRec (.ref C) (some dx) fs sl)) (hd : h.Ns1 dx mA)
    (hn : findIn K (.ref C) name = some none) (hv : mA name = some v) (hv' : handedIn v = true) (k : Q v ⟨h, g, d, t + 1, os⟩) : wpAny (model prog w) A (getAttr (.ref ea) name expr) Q E ⟨h, g, d, t, os⟩ := by
  obtain ⟨o, es, ep, ho, hdd, hk, _, hmm⟩ := id hd
  have lo : lookIn name o = some (some v) := by
    have e := hmm name
    rw [hv] at e
    unfold nsFind findBy at e
    rw [← Array.find?_toList] at e
    unfold lookIn
    rw [hdd]
    dsimp only
    split
    · rename_i y q
      rw [q] at e
      exact congrArg some e
    · rename_i q
      rw [q] at e
      cases e
  have I := inst_some he ho
  have hf : findObj K C (some o) name = some (.value v) := by
    unfold findObj ownOf
    rw [x.cls, Option.bind_some, hn, Option.bind_some]
    dsimp only
    rw [Option.bind_some, Option.bind_some, if_pos hh, lo]
    rfl
  unfold getAttr
  refine wpAny_bind (wpAny_mkText ?_)
  exact getby_exc (t := t + 1) x G X I hf ⟨hv', k⟩
end
end LX
end
section
set_option maxRecDepth 100000
set_option maxHeartbeats 4000000
namespace LX
open PySem

/-- of a heap all is kept but the records at xs; the frames at fr keep all but their slots -/
structure Kept (fr xs : List Addr) (h k : Heap) : Prop where
  plain : ∀ b o, h.get? b = some o → b ∉ fr → b ∉ xs → k.get? b = some o
  frame : ∀ b o, h.get? b = some o → b ∈ fr → b ∉ xs → ∃ sl, k.get? b = some { o with slots := sl }
theorem Kept.trans {fr xs ys : List Addr} {h k m : Heap} (x : Kept fr xs h k) (y : Kept fr ys k m) : Kept fr (xs ++ ys) h m where
  plain := fun b o e hb hx => y.plain b o (x.plain b o e hb fun z => hx (List.mem_append_left _ z)) hb fun z => hx (List.mem_append_right _ z)
  frame := fun b o e hb hx => by
    obtain ⟨sl, e1⟩ := x.frame b o e hb fun z => hx (List.mem_append_left _ z)
    obtain ⟨sm, e2⟩ := y.frame b _ e1 hb fun z => hx (List.mem_append_right _ z)
    exact ⟨sm, e2⟩
theorem Kept.weak {fr xs ys : List Addr} {h k : Heap} (x : Kept fr xs h k) (s : ∀ b o, h.get? b = some o → b ∈ xs → b ∈ ys) : Kept fr ys h k :=
  ⟨fun b o e hb hy => x.plain b o e hb fun z => hy (s b o e z), fun b o e hb hy => x.frame b o e hb fun z => hy (s b o e z)⟩
theorem Kept.refl {fr xs : List Addr} {h : Heap} : Kept fr xs h h := ⟨fun _ _ e _ _ => e, fun _ o e _ _ => ⟨o.slots, e⟩⟩

abbrev framesOf (l : List Env) : List Addr := l.filterMap (·.frame)

section
variable {M : Model} {A : Around} {E : Value → Shared → Prop} {s : Shared} {base : Heap} {env : Env} {outer : List Env} {L e : Addr} {c : Value} {od : Option Addr} {fs : Array Value} {sl : Array (Option Value)}

/-- a frame is no record of fields -/
theorem frame_ne {l : List Env} (F : s.heap.FunFrames base l) (he : s.heap.get? e = some (excRec c od fs sl)) : e ∉ framesOf l := fun z => by
  obtain ⟨_, o, ho, hn⟩ := F.mem z
  rw [he] at ho
  cases ho
  exact hn fs rfl

theorem upd_rec {h : Heap} {a : Addr} {i : Nat} {x : Value} (ha : h.get? a = some (excRec c od fs sl)) :
    (h.update a (Obj.mapFields (·.setIfInBounds i x))).get? a = some (excRec c od (fs.setIfInBounds i x) sl) := Heap.get?_update_self _ ha rfl

/-- the entry of a traceback is laid and hung at the exception -/
theorem entry_laid {head : Value} {had : Bool} {Q : Unit → Shared → Prop} (hA : A.frames = some (env :: outer)) (F : s.heap.FunFrames base (env :: outer)) (hL : env.frame = some L)
    (he : s.heap.get? e = some (excRec c od fs sl)) (h1 : 1 < fs.size)
    (k : ∀ m T oc ts, s.heap.objs.size ≤ T → Kept (framesOf (env :: outer)) [e] s.heap m → m.get? e = some (excRec c od (fs.setIfInBounds 1 (.ref T)) sl) → m.get? T = some (excRec oc none ts #[]) → ts[3]? = some (rawInt L) → Q () { s with heap := m }) :
    wpAny M A (do let a ← frameOf env; let pl ← entryPlaceOf L had; let b ← EntryCells.newEntry head a .none (rawInt L) .none pl; setField (.ref e) 1 b) Q E s := by
  have ne := frame_ne F he
  refine wpAny_bind (wpAny_frameOf_fun hA F hL fun g hg => ?_)
  obtain ⟨g0, g1, g2⟩ := hg
  refine wpAny_bind (wpAny_entryPlaceOf fun pl hp => ?_)
  unfold EntryCells.newEntry newFields
  refine wpAny_bind (wpAny_newObj_type ?_ (hp.sizeOk5 _ _ _ _ _))
  have e1 : g.get? e = some (excRec c od fs sl) := (g1 e ne).trans he
  have e2 := Heap.get?_push_of_some (h := g) { cls := .type "traceback", dict := none, data := .fields ([head, .ref L, .none, rawInt L, .none] ++ (if pl.isEmpty then List.replicate 6 Value.none else pl)).toArray } e1
  refine wpAny_setField e2 rfl h1 ?_
  have Te : g.objs.size ≠ e := Nat.ne_of_gt (Heap.lt_size e1)
  refine k _ g.objs.size (.type "traceback") ([head, .ref L, .none, rawInt L, .none] ++ (if pl.isEmpty then List.replicate 6 Value.none else pl)).toArray (Nat.le_of_eq g0.symm) ⟨fun b o q hb hx => ?_, fun b o q hb hx => ?_⟩ (upd_rec e2) ?_ ?_
  · have be : b ≠ e := fun z => hx (by rw [z]; exact List.mem_singleton.mpr rfl)
    rw [Heap.get?_update_other _ _ (Ne.symm be)]
    exact Heap.get?_push_of_some _ ((g1 b hb).trans q)
  · have be : b ≠ e := fun z => hx (by rw [z]; exact List.mem_singleton.mpr rfl)
    obtain ⟨sm, q2⟩ := g2 b o q
    refine ⟨sm, ?_⟩
    rw [Heap.get?_update_other _ _ (Ne.symm be)]
    exact Heap.get?_push_of_some _ q2
  · rw [Heap.get?_update_other _ _ (Ne.symm Te)]
    exact Heap.get?_push_size g rfl
  · first | (simp; done) | (rcases hp with rfl | ⟨_, _, _, _, _, _, _, rfl⟩ <;> simp)

/-- how an exception's traceback lies: none, or an entry that no frame holds -/
inductive Trail (h : Heap) (e : Addr) (fs : Array Value) : Option Addr → Prop where
  | none (h1 : fs[1]? = some .none) : Trail h e fs none
  | some {T : Addr} {oc : Value} {ts : Array Value} {d : Option Addr} {sl : Array (Option Value)} (h1 : fs[1]? = some (.ref T)) (ne : T ≠ e) (hT : h.get? T = some (excRec oc d ts sl)) (h3 : ts[3]? = some .none) : Trail h e fs (some T)
theorem Trail.size {h : Heap} {fs : Array Value} {T : Option Addr} (t : Trail h e fs T) : 1 < fs.size := by
  cases t with
  | none h1 => exact (Array.getElem?_eq_some_iff.mp h1).1
  | some h1 => exact (Array.getElem?_eq_some_iff.mp h1).1

/-- noteFrame at a frame that the exception has not been noted at -/
theorem note_on {T0 : Option Addr} {Q : Unit → Shared → Prop} (hA : A.frames = some (env :: outer)) (F : s.heap.FunFrames base (env :: outer)) (hL : env.frame = some L) (he : s.heap.get? e = some (excRec c od fs sl)) (t : Trail s.heap e fs T0)
    (k : ∀ m T oc ts, s.heap.objs.size ≤ T → Kept (framesOf (env :: outer)) (e :: T0.toList) s.heap m → m.get? e = some (excRec c od (fs.setIfInBounds 1 (.ref T)) sl) → m.get? T = some (excRec oc none ts #[]) → ts[3]? = some (rawInt L) → Q () { s with heap := m }) :
    wpAny M A (noteFrame (.ref e) env) Q E s := by
  unfold noteFrame
  simp only [hL]
  have h1s := t.size
  cases t with
  | none h1 =>
    refine wpAny_bind (wpAny_field he rfl h1 ?_)
    rw [if_neg (by decide)]
    exact entry_laid hA F hL he h1s k
  | @some T oc ts d sm h1 ne hT h3 =>
    refine wpAny_bind (wpAny_field he rfl h1 ?_)
    rw [if_pos (show (Value.ref T != Value.none) = true by simp)]
    refine wpAny_bind (wpAny_field hT rfl h3 ?_)
    rw [if_neg (show ¬ ((Value.none == rawInt L) = true) by simp [rawInt])]
    have h3s : 3 < ts.size := (Array.getElem?_eq_some_iff.mp h3).1
    refine wpAny_bind (wpAny_setField hT rfl h3s ?_)
    have oth : ∀ b, b ≠ T → (s.heap.update T (Obj.mapFields (·.setIfInBounds 3 Value.none))).get? b = s.heap.get? b := fun b hb => Heap.get?_update_other _ _ (Ne.symm hb)
    have nT := frame_ne F hT
    have F1 : (s.heap.update T (Obj.mapFields (·.setIfInBounds 3 Value.none))).FunFrames base (env :: outer) := F.of_keeps fun b o hb hn => ⟨o, (oth b fun z => by rw [z, hT] at hb; cases hb; exact hn ts rfl).trans hb, rfl⟩
    refine entry_laid (s := { s with heap := s.heap.update T (Obj.mapFields (·.setIfInBounds 3 Value.none)) }) hA F1 hL ((oth e (Ne.symm ne)).trans he) h1s fun m T' oc' ts' z1 z2 z3 z4 z5 => k m T' oc' ts' ?_ ?_ z3 z4 z5
    · have zz : (s.heap.update T (Obj.mapFields (·.setIfInBounds 3 Value.none))).objs.size = s.heap.objs.size := (Heap.SameBut.update (h := s.heap) (a := T) (f := Obj.mapFields (·.setIfInBounds 3 Value.none))).1
      rw [← zz]; exact z1
    · have kk : Kept (framesOf (env :: outer)) [T] s.heap (s.heap.update T (Obj.mapFields (·.setIfInBounds 3 Value.none))) :=
        ⟨fun b o q _ hx => (oth b fun z => hx (by rw [z]; exact List.mem_singleton.mpr rfl)).trans q, fun b o q _ hx => ⟨o.slots, (oth b fun z => hx (by rw [z]; exact List.mem_singleton.mpr rfl)).trans q⟩⟩
      refine (kk.trans z2).weak fun b o _ q => ?_
      simp only [List.mem_append, List.mem_singleton] at q
      simp only [Option.toList_some, List.mem_cons, List.not_mem_nil, or_false]
      exact q.symm

/-- setFlight none at an exception whose entry stands -/
theorem flight_off {T : Addr} {oc : Value} {ts : Array Value} {d : Option Addr} {sm : Array (Option Value)} {Q : Unit → Shared → Prop} (he : s.heap.get? e = some (excRec c od fs sl)) (h1 : fs[1]? = some (.ref T)) (ne : T ≠ e)
    (hT : s.heap.get? T = some (excRec oc d ts sm)) (h3 : 3 < ts.size)
    (k : ∀ m, (∀ b o, b ≠ T → s.heap.get? b = some o → m.get? b = some o) → Trail m e fs (some T) → m.get? e = some (excRec c od fs sl) → Q () { s with heap := m }) : wpAny M A (setFlight (.ref e) none) Q E s := by
  unfold setFlight
  refine wpAny_bind (wpAny_field he rfl h1 ?_)
  rw [if_pos (show (Value.ref T != Value.none) = true by simp)]
  have oth : ∀ b o, b ≠ T → s.heap.get? b = some o → (s.heap.update T (Obj.mapFields (·.setIfInBounds 3 Value.none))).get? b = some o := fun b o hb q => (Heap.get?_update_other _ _ (Ne.symm hb)).trans q
  exact wpAny_setField hT rfl h3 (k _ oth (.some h1 ne (upd_rec hT) (by simp [h3])) (oth e _ (Ne.symm ne) he))

/-- an exception leaves a frame -/
theorem leaves {T0 : Option Addr} {Q : Unit → Shared → Prop} (hA : A.frames = some (env :: outer)) (F : s.heap.FunFrames base (env :: outer)) (hL : env.frame = some L) (he : s.heap.get? e = some (excRec c od fs sl)) (t : Trail s.heap e fs T0)
    (k : ∀ m T fs', s.heap.objs.size ≤ T → Kept (framesOf (env :: outer)) (e :: T0.toList) s.heap m → m.get? e = some (excRec c od fs' sl) → fs'[0]? = fs[0]? → Trail m e fs' (some T) → Q () { s with heap := m }) :
    wpAny M A (leaving env (.ref e)) Q E s := by
  unfold leaving
  refine wpAny_bind (note_on hA F hL he t fun m T oc ts z1 z2 z3 z4 z5 => ?_)
  have Te : T ≠ e := Nat.ne_of_gt (Nat.lt_of_lt_of_le (Heap.lt_size he) z1)
  have f1 : (fs.setIfInBounds 1 (Value.ref T))[1]? = some (.ref T) := by
    have := t.size
    simp [this]
  refine flight_off (s := { s with heap := m }) z3 f1 Te z4 (Array.getElem?_eq_some_iff.mp z5).1 fun m' q1 q2 q3 => k m' T _ z1 ⟨fun b o q hb hx => ?_, fun b o q hb hx => ?_⟩ q3 (by simp) q2
  · exact q1 b o (Nat.ne_of_lt (Nat.lt_of_lt_of_le (Heap.lt_size q) z1)) (z2.plain b o q hb hx)
  · obtain ⟨sm, r⟩ := z2.frame b o q hb hx
    exact ⟨sm, q1 b _ (Nat.ne_of_lt (Nat.lt_of_lt_of_le (Heap.lt_size q) z1)) r⟩
end
end LX
end
section
set_option Elab.async false
set_option linter.all false
set_option maxRecDepth 100000
set_option maxHeartbeats 4000000
namespace L2
open PySem PySem.Spec PyProof.Rows LX

/-! ### an exception as a tracked thing -/
/-- class C, the dict of its attributes at od; fresh: not raised yet -/
def ExP (fresh : Bool) (C e : Addr) (od : Option Addr) (h : Heap) : Prop := ∃ fs sl t0, h.get? e = some (excRec (.ref C) od fs sl) ∧ fs[0]? = some (.ref t0) ∧ (fresh = true → fs[1]? = some .none)
def exo (fresh : Bool) (C e : Addr) (od : Option Addr) : HO := .ext (ExP fresh C e od)
section
variable {P : Program} {w : World} {H : Hp} {h : Heap} {b : Bool} {C e : Addr} {od : Option Addr}
theorem exo_ok (x : ExP b C e od h) : ObjOk P w H h e (exo b C e od) := by
  refine ⟨x, ?_, fun h1 h2 p k => ?_⟩
  · obtain ⟨fs, sl, t0, z, _⟩ := x
    exact ⟨_, z⟩
  · obtain ⟨fs, sl, t0, z, r⟩ := p
    exact ⟨fs, sl, t0, k _ z, r⟩
theorem exo_get (ok : HOk P w H h) (z : H e = some (exo b C e od)) : ExP b C e od h := (show ObjOk P w H h e (exo b C e od) from ok e _ z).1
end
/-- no longer tracked -/
def del (H : Hp) (a : Addr) : Hp := fun b => if b = a then none else H b
theorem del_same {H : Hp} {a : Addr} : del H a a = none := by unfold del; rw [if_pos rfl]
theorem del_ne {H : Hp} {a b : Addr} (h : b ≠ a) : del H a b = H b := by unfold del; rw [if_neg h]
theorem del_some {H : Hp} {a b : Addr} {o : HO} (h : del H a b = some o) : H b = some o ∧ b ≠ a := by
  unfold del at h
  by_cases q : b = a
  · rw [if_pos q] at h; cases h
  · rw [if_neg q] at h; exact ⟨h, q⟩

/-! ### heaps that keep what is tracked -/
section
variable {P : Program} {w : World} {H H' : Hp} {h h' : Heap} {a : Addr}
theorem HOk.keeps (ok : HOk P w H h) (k : ∀ b u o, H b = some u → h.get? b = some o → h'.get? b = some o) : HOk P w H h' := fun b u q =>
  (ok b u q).stay (fun c v hc r => by
    rcases hc with rfl | hc
    · exact k c u v q r
    · exact k c _ v hc r) (fun _ z => z) fun _ _ z => z
theorem HOk.del (ok : HOk P w H h) (ha : ∀ y, H a ≠ some (.own y)) (hb : ∀ xs, H a ≠ some (.tup xs)) : HOk P w (del H a) h := fun b u q => by
  obtain ⟨q1, q2⟩ := del_some q
  refine (ok b u q1).stay (fun _ _ _ r => r) (fun c z => ?_) fun c xs z => ?_
  · rw [del_ne fun e => ha b (by rw [← e]; exact z)]; exact z
  · rw [del_ne fun e => hb xs (by rw [← e]; exact z)]; exact z
theorem HOk.add (ok : HOk P w H h) {o : HO} (ha : H a = none) (new : ObjOk P w (upd H a o) h a o) : HOk P w (upd H a o) h := fun b u q => by
  by_cases e : b = a
  · subst e
    rw [upd_same] at q
    cases q
    exact new
  · rw [upd_ne e] at q
    refine (ok b u q).stay (fun _ _ _ r => r) (fun c z => ?_) fun c xs z => ?_
    · rw [upd_ne fun e => by rw [e, ha] at z; cases z]; exact z
    · rw [upd_ne fun e => by rw [e, ha] at z; cases z]; exact z
end
theorem funFrames_kept {h k base : Heap} : ∀ {l : List Env}, h.FunFrames base l → (∀ b ∈ frs l, ∀ o, h.get? b = some o → ∃ sl, k.get? b = some { o with slots := sl }) → k.FunFrames base l
  | [], _, _ => True.intro
  | env :: r, ⟨h1, ⟨L, o, e1, e2, e3, e4⟩, h2⟩, q => by
    have hm : L ∈ frs (env :: r) := List.mem_filterMap.mpr ⟨env, List.mem_cons_self, e1⟩
    obtain ⟨sl, z⟩ := q L hm o e3
    refine ⟨h1, ⟨L, _, e1, e2, z, e4⟩, funFrames_kept h2 fun b hb o' z' => q b ?_ o' z'⟩
    obtain ⟨x, hx, hy⟩ := List.mem_filterMap.mp hb
    exact List.mem_filterMap.mpr ⟨x, List.mem_cons_of_mem _ hx, hy⟩

/-! ### how an exception lies behind a call -/
structure Lies (P : Program) (w : World) (outer : List Env) (H H' : Hp) (s : Shared) (ea C T : Addr) (od : Option Addr) (fs : Array Value) (sl : Array (Option Value)) (s' : Shared) : Prop where
  os : s'.os = s.os
  bare : AllBare s'.gens
  un : Un (frs outer) [] H H' s.heap s'.heap
  hok : HOk P w H' s'.heap
  newE : s.heap.get? ea = none
  newT : s.heap.get? T = none
  freeE : H' ea = none
  freeT : H' T = none
  at_ : s'.heap.get? ea = some (excRec (.ref C) od fs sl)
  args : ∃ t0, fs[0]? = some (.ref t0)
  trail : Trail s'.heap ea fs (some T)
def CXE (P : Program) (w : World) : CXT := fun outer H s E e s' => ∃ ea C T od fs sl H', e = .ref ea ∧ Lies P w outer H H' s ea C T od fs sl s' ∧ E (.ref C) od H'

section
variable {X : Cx} {pins : List (Addr × Obj)} {σ : St} {H H' : Hp} {s s' : Shared} {ea C T : Addr} {od : Option Addr} {fs : Array Value} {sl : Array (Option Value)}
/-- the frames behind it -/
theorem Lies.frames (I : Inv X pins σ H s) (l : Lies X.prog X.w X.stack H H' s ea C T od fs sl s') : s'.heap.FunFrames X.base X.stack :=
  funFrames_kept I.stack fun b hb o z => l.un.any z (I.stkFree b hb) (by simp)
/-- what is kept of the state ahead of the call when the exception is noted in this frame -/
theorem Lies.on {m : Heap} {t' : Nat} (I : Inv X pins σ H s) (l : Lies X.prog X.w X.stack H H' s ea C T od fs sl s') (k : Kept (framesOf X.stack) [ea, T] s'.heap m) :
    Un (frs X.stack) [] H H' s.heap m ∧ HOk X.prog X.w H' m := by
  have fr : ∀ b, b ∈ frs X.stack → H' b = none := fun b hb => by
    obtain ⟨_, o, z, _⟩ := I.stack.mem hb
    exact l.un.free b o z (I.stkFree b hb) (by simp)
  have ne : ∀ b o, s.heap.get? b = some o → b ∉ [ea, T] := fun b o z q => by
    rcases List.mem_cons.mp q with e | q
    · rw [e, l.newE] at z; cases z
    · rw [List.mem_singleton.mp q, l.newT] at z; cases z
  refine ⟨⟨fun b o z n hb hx => ?_, fun b o z n hb hx => ?_, l.un.free, fun b o z hx => ?_, l.un.tups, l.un.frzs, l.un.tbls⟩, ?_⟩
  · exact k.plain b o (l.un.keep b o z n hb hx) hb (ne b o z)
  · obtain ⟨s1, z1⟩ := l.un.slot b o z n hb hx
    obtain ⟨s2, z2⟩ := k.frame b _ z1 hb (ne b o z)
    exact ⟨s2, z2⟩
  · obtain ⟨o1, z1⟩ := l.un.there b o z hx
    by_cases hb : b ∈ framesOf X.stack
    · obtain ⟨s2, z2⟩ := k.frame b _ z1 hb (ne b o z)
      exact ⟨_, z2⟩
    · exact ⟨_, k.plain b _ z1 hb (ne b o z)⟩
  · refine l.hok.keeps fun b u o z q => k.plain b o q (fun hb => ?_) fun hx => ?_
    · rw [fr b hb] at z; cases z
    · rcases List.mem_cons.mp hx with e | hx
      · rw [e, l.freeE] at z; cases z
      · rw [List.mem_singleton.mp hx, l.freeT] at z; cases z
end
end L2
end
section
set_option Elab.async false
set_option linter.all false
set_option maxRecDepth 100000
set_option maxHeartbeats 4000000
namespace L2
open PySem PySem.Spec PyProof.Rows LX

/-! ### an exception passes a def's frame -/
section
variable {P : Program} {w : World} {K : PySem.W.Frag} {mg : Str → Option Value} {base : Heap} {N : List Str} {qual : Str} {scope : Scope} {f : Addr} {cdv : Value} {A : Around} {outer : List Env} {s₀ : Shared} {H₀ : Hp} {E₀ : XK}
abbrev cxE (P : Program) (w : World) (K : PySem.W.Frag) (mg : Str → Option Value) (base : Heap) (N : List Str) (qual : Str) (scope : Scope) (f : Addr) (cdv : Value) (A : Around) (outer : List Env) (s₀ : Shared) (H₀ : Hp) (E₀ : XK) : Cx :=
  cxOf (CXE P w) P w K mg base N qual scope f cdv A outer s₀ H₀ E₀

theorem leave_lies {pins : List (Addr × Obj)} {σ : St} {H H' : Hp} {s s' : Shared} {ea C T : Addr} {od : Option Addr} {fs : Array Value} {sl : Array (Option Value)} (I : Inv (cxE P w K mg base N qual scope f cdv A outer s₀ H₀ E₀) pins σ H s)
    (l : Lies P w (cxE P w K mg base N qual scope f cdv A outer s₀ H₀ E₀).stack H H' s ea C T od fs sl s') (hE : E₀ (.ref C) od H') : (cxE P w K mg base N qual scope f cdv A outer s₀ H₀ E₀).xe (.ref ea) s' := by
  refine leaves I.ok.frames (Lies.frames I l) rfl l.at_ l.trail fun m T' fs' z1 z2 z3 z4 z5 => ?_
  obtain ⟨un, hok⟩ := l.on (t' := s'.toks) I z2
  have J : Inv (cxE P w K mg base N qual scope f cdv A outer s₀ H₀ E₀) pins σ H' { s' with heap := m } := I.call' l.os un hok l.bare (fun b z => absurd z (by simp))
  have old : ∀ b o, s₀.heap.get? b = some o → ∃ o', s.heap.get? b = some o' := fun b o z => I.base.there b o z (List.not_mem_nil)
  have e0 : s₀.heap.get? ea = none := by
    cases q : s₀.heap.get? ea with
    | none => rfl
    | some o =>
      obtain ⟨o', z⟩ := old ea o q
      rw [l.newE] at z; cases z
  have t0 : s₀.heap.get? T' = none := by
    cases q : s₀.heap.get? T' with
    | none => rfl
    | some o =>
      obtain ⟨o1, y1⟩ := old T' o q
      obtain ⟨o2, y2⟩ := l.un.there T' o1 y1 (by simp)
      exact absurd (Heap.lt_size y2) (Nat.not_lt.mpr z1)
  obtain ⟨a0, ha⟩ := l.args
  exact ⟨ea, C, T', od, fs', sl, H', rfl, ⟨J.os, J.bare, J.base, J.hok, e0, t0, l.freeE, l.hok.fresh z1, z3, ⟨a0, by rw [z4]; exact ha⟩, z5⟩, hE⟩
theorem passE {E : XK} (hE : ∀ c od H', E c od H' → E₀ c od H') : Passes (CXE P w) (cxE P w K mg base N qual scope f cdv A outer s₀ H₀ E₀) E := fun pins σ H s e s' I h => by
  obtain ⟨ea, C, T, od, fs, sl, H', rfl, l, q⟩ := h
  exact leave_lies I l (hE _ _ _ q)

/-- a new exception is raised in the def's own body -/
theorem leave_new {pins : List (Addr × Obj)} {σ : St} {H : Hp} {s : Shared} {ea C : Addr} {od : Option Addr} (I : Inv (cxE P w K mg base N qual scope f cdv A outer s₀ H₀ E₀) pins σ H s) (h1 : H ea = some (exo true C ea od)) (h0 : H₀ ea = none)
    (hE : E₀ (.ref C) od (del H ea)) : (cxE P w K mg base N qual scope f cdv A outer s₀ H₀ E₀).xe (.ref ea) s := by
  obtain ⟨fs, sl, a0, z, ha, hf⟩ := exo_get I.hok h1
  have frz : ∀ b, b ∈ frs (cxE P w K mg base N qual scope f cdv A outer s₀ H₀ E₀).stack → H b = none := I.stkFree
  have e0 : s₀.heap.get? ea = none := by
    cases q : s₀.heap.get? ea with
    | none => rfl
    | some o =>
      have := I.base.free ea o q h0 List.not_mem_nil
      rw [h1] at this; cases this
  refine leaves I.ok.frames I.stack rfl z (.none (hf rfl)) fun m T' fs' z1 z2 z3 z4 z5 => ?_
  have hd : HOk P w (del H ea) s.heap := I.hok.del (fun y q => by rw [h1] at q; cases q) fun xs q => by rw [h1] at q; cases q
  have hm : HOk P w (del H ea) m := hd.keeps fun b u o q r => by
    obtain ⟨q1, q2⟩ := del_some q
    exact z2.plain b o r (fun hb => by rw [frz b hb] at q1; cases q1) (by simpa using q2)
  have neE : ∀ b o, s₀.heap.get? b = some o → b ≠ ea := fun b o q r => by rw [r, e0] at q; cases q
  have t0 : s₀.heap.get? T' = none := by
    cases q : s₀.heap.get? T' with
    | none => rfl
    | some o =>
      obtain ⟨o2, y2⟩ := I.base.there T' o q List.not_mem_nil
      exact absurd (Heap.lt_size y2) (Nat.not_lt.mpr z1)
  have neL : ∀ b o, s₀.heap.get? b = some o → b ∈ framesOf (cxE P w K mg base N qual scope f cdv A outer s₀ H₀ E₀).stack → b ∈ frs outer := fun b o q hb => by
    rcases List.mem_cons.mp (I.stkSub b hb) with r | r
    · exact absurd (Heap.lt_size q) (by rw [r]; exact Nat.not_lt.mpr I.ok.above)
    · exact r
  have sub : ∀ b, b ∈ frs outer → b ∈ framesOf (cxE P w K mg base N qual scope f cdv A outer s₀ H₀ E₀).stack := fun b hb => by
    obtain ⟨x, hx, hy⟩ := List.mem_filterMap.mp hb
    exact List.mem_filterMap.mpr ⟨x, List.mem_cons_of_mem _ hx, hy⟩
  refine ⟨ea, C, T', od, fs', sl, del H ea, rfl, ⟨I.os, I.bare, ⟨fun b o q n hb hx => ?_, fun b o q n hb hx => ?_, fun b o q n hx => ?_, fun b o q hx => ?_, fun b xs q => ?_, fun b o u q => ?_, fun b ps q => ?_⟩, hm, e0, t0, del_same, ?_, z3, ⟨a0, by rw [z4]; exact ha⟩, z5⟩, hE⟩
  · exact z2.plain b o (I.base.keep b o q n hb hx) (fun z => hb (neL b o q z)) (by simpa using neE b o q)
  · obtain ⟨s1, y1⟩ := I.base.slot b o q n hb hx
    obtain ⟨s2, y2⟩ := z2.frame b _ y1 (sub b hb) (by simpa using neE b o q)
    exact ⟨s2, y2⟩
  · rw [del_ne (neE b o q)]
    exact I.base.free b o q n hx
  · obtain ⟨o1, y1⟩ := I.base.there b o q hx
    by_cases hb : b ∈ framesOf (cxE P w K mg base N qual scope f cdv A outer s₀ H₀ E₀).stack
    · obtain ⟨s2, y2⟩ := z2.frame b _ y1 hb (by simpa using neE b o q)
      exact ⟨_, y2⟩
    · exact ⟨_, z2.plain b _ y1 hb (by simpa using neE b o q)⟩
  · have r := I.base.tups b xs q
    rw [del_ne fun e => by rw [e, h1] at r; cases r]; exact r
  · have r := I.base.frzs b o u q
    rw [del_ne fun e => by rw [e, h1] at r; cases r]; exact r
  · obtain ⟨more, r⟩ := I.base.tbls b ps q
    exact ⟨more, by rw [del_ne fun e => by rw [e, h1] at r; cases r]; exact r⟩
  · by_cases q : T' = ea
    · rw [q]; exact del_same
    · rw [del_ne q]; exact I.hok.fresh z1
end
end L2
end
section
set_option Elab.async false
set_option linter.all false
set_option maxRecDepth 100000
set_option maxHeartbeats 4000000
namespace L2
open PySem PySem.Spec PyProof.Rows LX

/-! ### a def, with exceptions -/
theorem Fun.okE {P : Program} {w : World} {K : PySem.W.Frag} {mg : Str → Option Value} {base : Heap} {x qual : Str} {st : Stmt} {f : Addr} {fd : FuncData} {N ps : List Str} {k : Nat} {sp : Sp} (F : Fun K x qual st f fd) (S : FnScope N ps (defScope st)) (len : ∀ vs H Q E, sp vs H Q E → vs.length = ps.length)
    (hbody : ∀ (cdv : Value) (A : Around) (outer : List Env) (s : Shared) (H : Hp) (vs : List V) (Q : VK) (E : XK), Room k (A.deeper (envOfC qual (defScope st) s.heap.objs.size f cdv)) → sp vs H Q E →
      ∃ t, PSs (cxE P w K mg base N qual (defScope st) f cdv A outer s H E) (defBody st) t ∧ t { nx := fun _ H' => Q .non H', rt := Q } (start N vs) H) : FnOk P w K mg base (CXE P w) (k + 1) f fd ps sp := by
  obtain ⟨oc, od, kV, doc, pm, an, cdv, ct, osl, rfl, lk, hcd⟩ := F.ex
  exact fn_of lk hcd S len fun A outer s H vs Q E hr hsp => hbody cdv A outer s H vs Q E hr hsp

/-! ### raise -/
def RaisesTo (X : Cx) (E : XK) : Prop := ∀ (pins : List (Addr × Obj)) (σ : St) (H : Hp) (s : Shared) (ea C : Addr) (od : Option Addr), Inv X pins σ H s → H ea = some (exo true C ea od) → X.H₀ ea = none → E (.ref C) od (del H ea) → X.xe (.ref ea) s
theorem raiseE {P : Program} {w : World} {K : PySem.W.Frag} {mg : Str → Option Value} {base : Heap} {N : List Str} {qual : Str} {scope : Scope} {f : Addr} {cdv : Value} {A : Around} {outer : List Env} {s₀ : Shared} {H₀ : Hp} {E₀ : XK} :
    RaisesTo (cxE P w K mg base N qual scope f cdv A outer s₀ H₀ E₀) E₀ := fun _ _ _ _ _ _ _ I h1 h0 q => leave_new I h1 h0 q
def tRaise (H₀ : Hp) (K : PySem.W.Frag) (E : XK) (te : TE) : TS := fun _ σ H => te σ H fun v H1 => ∃ ea C od, v = .ref ea ∧ H1 ea = some (exo true C ea od) ∧ (∃ cd, XCls K C cd) ∧ H₀ ea = none ∧ E (.ref C) od (del H1 ea)
section
variable {X : Cx}
theorem ps_raise {e : Expr} {te : TE} {pos : Pos} {E : XK} (hc : X.calm = true) (hx : RaisesTo X E) (he : PE X e te) : PS X (.Raise (some e) none pos) (tRaise X.H₀ X.K E te) := by
  intro pins s σ H D I h
  refine raise_own (K := X.K) (I.ok.hd hc) (thn (he pins s σ H _ I h) fun u s1 ⟨v, H1, I1, r, ea, C, od, ev, h1, ⟨cd, xc⟩, h0, q⟩ => ?_)
  subst ev
  obtain rfl : u = Value.ref ea := r
  obtain ⟨fs, sl, a0, z, ha, hf⟩ := exo_get I1.hok h1
  exact ⟨ea, C, cd, od, fs, sl, rfl, z, hf rfl, xc, I1.kIn, hx pins σ H1 s1 ea C od I1 h1 h0 q⟩

/-! ### calls whose exceptions this body wants, by the names' values at the call -/
def PassesX (CX : CXT) (X : Cx) (EK : St → XK) : Prop := ∀ (pins : List (Addr × Obj)) (σ : St) (H : Hp) (s : Shared) (e : Value) (s' : Shared), Inv X pins σ H s → CX X.stack H s (EK σ) e s' → X.xe e s'
theorem Passes.x {CX : CXT} {E : XK} (h : Passes CX X E) : PassesX CX X (fun _ => E) := fun pins σ H s e s' I q => h pins σ H s e s' I q

def xCall (sp : Sp) (dvs : List V) (EK : St → XK) (t : TA) : TE := fun σ H Q => t σ H fun vs H1 => sp (vs ++ dvs) H1 Q (EK σ)
def xMeth (C : Addr) (m : Str) (sp : Sp) (dvs : List V) (EK : St → XK) (ta : TE) (t : TA) : TE := fun σ H Q => ta σ H fun x H1 => ∃ a dx fs, x = .ref a ∧ H1 a = some (.ins C dx fs) ∧ fs.lookup m = none ∧
  t σ H1 fun vs H2 => sp (x :: (vs ++ dvs)) H2 Q (EK σ)
def xMake (C : Addr) (sp : Sp) (dvs : List V) (EK : St → XK) (t : TA) : TE := fun σ H Q => t σ H fun vs H1 => ∀ x dx, H1 x = none → H1 dx = none → dx ≠ x →
  sp (.ref x :: (vs ++ dvs)) (upd (upd H1 dx (.own x)) x (.ins C dx [])) (fun v H2 => v = .non ∧ Q (.ref x) H2) (EK σ)
/-- C(..), C a class of errors -/
def xErr (C : Addr) (sp : Sp) (EK : St → XK) (t : TA) : TE := fun σ H Q => t σ H fun vs H1 => ∀ ea, H1 ea = none → sp (.ref ea :: vs) (upd H1 ea (exo true C ea none)) (fun v H2 => v = .non ∧ Q (.ref ea) H2) (EK σ)

variable {CX : CXT} {k : Nat} {f C : Addr} {fd : FuncData} {ps : List Str} {sp : Sp} {dvs : List V} {ds : List Value} {EK : St → XK} {x m : Str} {p pos apos : Pos} {e o : Expr} {es : List Expr} {ta : TE} {t : TA}

theorem xrun {pins : List (Addr × Obj)} {σ : St} {H : Hp} {s : Shared} {Q : VK} {us : List Value} {vs : List V} (F : FnOk X.prog X.w X.K X.mg X.base CX k f fd ps sp) (hr : Room k X.A) (hb : Binds X.K fd ps ds) (hd : Vals dvs ds) (hx : PassesX CX X EK)
    (I : Inv X pins σ H s) (r : Vals vs us) (h : sp (vs ++ dvs) H Q (EK σ)) : wpAny (model X.prog X.w) X.A (call (.ref f) us) (EP X pins σ Q) X.xe s := by
  have r2 : Vals (vs ++ dvs) (us ++ ds) := r.append hd
  have hl : (us ++ ds).length = ps.length := by rw [← r2.length]; exact F.len _ _ _ _ h
  refine wpAny_call (codeAny_mono (F.run X.A X.stack s H ⟨us, []⟩ (us ++ ds) (vs ++ dvs) Q (EK σ) hr I.env0 (hb s us I.kIn hl) r2 h) fun r s' hq => ?_)
  cases r with
  | error e => exact hx pins σ H s e s' I hq
  | ok fl =>
    cases fl with
    | ret u => exact I.after hq
    | _ => exact False.elim hq
theorem xe_call (F : FnOk X.prog X.w X.K X.mg X.base CX k f fd ps sp) (hr : Room k X.A) (hg : Gl X x) (hm : X.mg x = some (.ref f)) (hk : PySem.W.keepIn X.K (.ref f) = true) (hb : Binds X.K fd ps ds) (hd : Vals dvs ds) (hx : PassesX CX X EK)
    (ha : PA X (e :: es) t) (hdb : (x == ("__debug__" : Str)) = false := by decide) (he : starEach (e :: es) X.env = (false, eval e X.env) :: starEach es X.env := by rfl) (hpl : (backTo pos (starEach es X.env)).any (·.1) = false := by rfl) :
    PE X (.Call (.Name x p) (e :: es) [] pos) (xCall sp dvs EK t) := by
  intro pins s σ H Q I h
  refine wpAny_Call_Name_kw (ld_glob I hg hm ?_ hdb)
  exact PySem.W.callWith_K (h₀ := X.base) I.ok.mod.kin hk (thn (ha pos pins s σ H _ I h) fun us s1 ⟨vs, H1, I1, r, q⟩ => ⟨I1.kIn, xrun F hr hb hd hx I1 r q⟩) he hpl
theorem xe_call0 (F : FnOk X.prog X.w X.K X.mg X.base CX k f fd ps sp) (hr : Room k X.A) (hg : Gl X x) (hm : X.mg x = some (.ref f)) (hk : PySem.W.keepIn X.K (.ref f) = true) (hb : Binds X.K fd ps ds) (hd : Vals dvs ds) (hx : PassesX CX X EK)
    (hdb : (x == ("__debug__" : Str)) = false := by decide) : PE X (.Call (.Name x p) [] [] pos) (xCall sp dvs EK tNil) := by
  intro pins s σ H Q I h
  refine wpAny_Call_Name_kw (ld_glob I hg hm ?_ hdb)
  exact PySem.W.callWith_K0 I.kIn hk (xrun (us := []) F hr hb hd hx I .nil h)
theorem xe_meth {pl : Sem Bool} (he : PE X o ta) (c : Cls X.K C) (hm : Meth X.K C m f) (F : FnOk X.prog X.w X.K X.mg X.base CX k f fd ps sp) (hr : Room k X.A) (hb : Binds X.K fd ps ds) (hd : Vals dvs ds) (hx : PassesX CX X EK) (ha : PA X (e :: es) t)
    (hst : starEach (e :: es) X.env = (false, eval e X.env) :: starEach es X.env := by rfl) (hpl : (backTo pos (starEach es X.env)).any (·.1) = false := by rfl)
    (ht : eval (.Call (.Attribute o m apos) (e :: es) [] pos) X.env = (do
      let ov ← eval o X.env
      standAt apos.atName
      let (f, first) ← holding [ov] (getMethod ov m pl)
      callWith pos f first (backTo pos (starEach (e :: es) X.env)) (backToKw pos (keywordEach [] X.env))) := by rfl) :
    PE X (.Call (.Attribute o m apos) (e :: es) [] pos) (xMeth C m sp dvs EK ta t) := by
  intro pins s σ H Q I h
  refine PySem.W.methodCall_KW (pl := pl) (thn (he pins s σ H _ I h) fun u s1 ⟨x, H1, I1, rx, a, dx, fs, ex, ea, l, q⟩ => ?_) ht
  subst ex
  obtain rfl : u = Value.ref a := rx
  refine getmeth_ok I1 ea c hm l ?_
  exact PySem.W.callWith_K (first := [.ref a]) (h₀ := X.base) I.ok.mod.kin hm.kp (thn (ha pos pins s1 σ H1 _ I1 q) fun us s2 ⟨vs, H2, I2, r, q2⟩ => ⟨I2.kIn, xrun (us := .ref a :: us) (vs := .ref a :: vs) F hr hb hd hx I2 (.cons rfl r) q2⟩) hst hpl
theorem xe_meth0 {pl : Sem Bool} (he : PE X o ta) (c : Cls X.K C) (hm : Meth X.K C m f) (F : FnOk X.prog X.w X.K X.mg X.base CX k f fd ps sp) (hr : Room k X.A) (hb : Binds X.K fd ps ds) (hd : Vals dvs ds) (hx : PassesX CX X EK)
    (ht : eval (.Call (.Attribute o m apos) [] [] pos) X.env = (do
      let ov ← eval o X.env
      standAt apos.atName
      let (f, first) ← holding [ov] (getMethod ov m pl)
      callWith pos f first (backTo pos (starEach [] X.env)) (backToKw pos (keywordEach [] X.env))) := by rfl) :
    PE X (.Call (.Attribute o m apos) [] [] pos) (xMeth C m sp dvs EK ta tNil) := by
  intro pins s σ H Q I h
  refine PySem.W.methodCall_KW (pl := pl) (thn (he pins s σ H _ I h) fun u s1 ⟨x, H1, I1, rx, a, dx, fs, ex, ea, l, q⟩ => ?_) ht
  subst ex
  obtain rfl : u = Value.ref a := rx
  refine getmeth_ok I1 ea c hm l ?_
  exact PySem.W.callWith_K0 (first := [.ref a]) I1.kIn hm.kp (xrun (us := [.ref a]) (vs := [.ref a]) F hr hb hd hx I1 (.cons rfl .nil) q)

/-- what a class of errors must have to be made -/
structure MkX (K : PySem.W.Frag) (C f : Addr) : Prop where
  cls : ∃ cd, XCls K C cd
  init : PySem.W.findIn K (.ref C) "__init__" = some (some (.ref f))
  fn : PySem.W.isFn K (.ref f) = true
  kp : PySem.W.keepIn K (.ref C) = true
theorem xrunErr {pins : List (Addr × Obj)} {σ : St} {H : Hp} {s : Shared} {Q : VK} {us : List Value} {vs : List V} (M : MkX X.K C f) (F : FnOk X.prog X.w X.K X.mg X.base CX k f fd ps sp) (hr : Room (k + 1) X.A) (hb : Binds X.K fd ps []) (hx : PassesX CX X EK) (hps : ps.length ≤ 1000)
    (I : Inv X pins σ H s) (r : Vals vs us) (h : ∀ ea, H ea = none → sp (.ref ea :: vs) (upd H ea (exo true C ea none)) (fun v H2 => v = .non ∧ Q (.ref ea) H2) (EK σ)) :
    wpAny (model X.prog X.w) X.A (call (.ref C) us) (EP X pins σ Q) X.xe s := by
  have hq := h (s.heap.objs.size + 1) (I.hok.fresh (Nat.le_succ _))
  obtain ⟨cd, xc⟩ := M.cls
  have r2 : Vals (V.ref (s.heap.objs.size + 1) :: vs) (Value.ref (s.heap.objs.size + 1) :: us) := .cons rfl r
  have hl : (Value.ref (s.heap.objs.size + 1) :: us).length = ps.length := by rw [← r2.length]; exact F.len _ _ _ _ hq
  have hz : us.length ≤ sizeLine := by rw [List.length_cons] at hl; rw [sizeLine_eq]; omega
  have I2 : Inv X pins σ (upd H (s.heap.objs.size + 1) (exo true C (s.heap.objs.size + 1) none)) { s with heap := withNew s.heap C us } := by
    refine I.laid (t' := s.toks) (fun b u q => Heap.get?_push_of_some _ (Heap.get?_push_of_some _ q)) (Nat.le_succ _) (exo_ok ⟨#[.ref s.heap.objs.size, .none, .none, .none, .bool false, .none], #[], s.heap.objs.size, ?_, rfl, fun _ => rfl⟩)
    show (withNew s.heap C us).get? (s.heap.objs.size + 1) = some (newRec C s.heap.objs.size)
    heap_get
  obtain ⟨hh, g, d, tk, os⟩ := s
  refine wpAny_call (exc_made xc I.kIn M.init (beq_iff_eq.mp M.fn) hz (codeAny_mono (F.run _ X.stack _ _ ⟨Value.ref (hh.objs.size + 1) :: us, []⟩ (Value.ref (hh.objs.size + 1) :: us) _ _ (EK σ) (hr.make C us []) (I2.env0.make C us [])
    (by have := hb _ (Value.ref (hh.objs.size + 1) :: us) I2.kIn (by rw [List.append_nil]; exact hl); rw [List.append_nil] at this; exact this) r2 hq) fun r s' hq' => ?_))
  cases r with
  | error e => exact hx pins σ _ _ e s' I2 hq'
  | ok fl =>
    cases fl with
    | ret u =>
      obtain ⟨v, H', I3, rv, ev, q3⟩ := I2.after hq'
      subst ev
      exact ⟨rv, ⟨V.ref (hh.objs.size + 1), H', I3, rfl, q3⟩⟩
    | _ => exact False.elim hq'
theorem xe_err (M : MkX X.K C f) (F : FnOk X.prog X.w X.K X.mg X.base CX k f fd ps sp) (hr : Room (k + 1) X.A) (hg : Gl X x) (hm : X.mg x = some (.ref C)) (hb : Binds X.K fd ps []) (hx : PassesX CX X EK)
    (ha : PA X (e :: es) t) (hps : ps.length ≤ 1000 := by decide) (hdb : (x == ("__debug__" : Str)) = false := by decide) (he : starEach (e :: es) X.env = (false, eval e X.env) :: starEach es X.env := by rfl) (hpl : (backTo pos (starEach es X.env)).any (·.1) = false := by rfl) :
    PE X (.Call (.Name x p) (e :: es) [] pos) (xErr C sp EK t) := by
  intro pins s σ H Q I h
  refine wpAny_Call_Name_kw (ld_glob I hg hm ?_ hdb)
  exact PySem.W.callWith_K (h₀ := X.base) I.ok.mod.kin M.kp (thn (ha pos pins s σ H _ I h) fun us s1 ⟨vs, H1, I1, r, q⟩ => ⟨I1.kIn, xrunErr M F hr hb hx hps I1 r q⟩) he hpl
end
end L2
end
section
set_option Elab.async false
set_option linter.all false
set_option maxRecDepth 100000
set_option maxHeartbeats 4000000
namespace L2
open PySem PySem.Spec PyProof.Rows LX

theorem upd_self {H : Hp} {a : Addr} {o : HO} (h : H a = some o) : upd H a o = H := by
  funext b
  by_cases e : b = a
  · rw [e, upd_same, h]
  · rw [upd_ne e]
section
variable {X : Cx}
/-! ### ValueError.__init__(self, ..) -/
def tVe (K : PySem.W.Frag) (t : TA) : TE := fun σ H Q => t σ H fun vs H1 => ∃ ea C od r, vs = .ref ea :: r ∧ r.length ≤ 1000 ∧ H1 ea = some (exo true C ea od) ∧ (∃ cd, XCls K C cd) ∧ Q .non H1
theorem pe_ve {p apos pos : Pos} {e : Expr} {es : List Expr} {t : TA} {pl : Sem Bool} (hg : Gl X "ValueError") (hm : X.mg "ValueError" = none) (ha : PA X (e :: es) t)
    (hst : starEach (e :: es) X.env = (false, eval e X.env) :: starEach es X.env := by rfl) (hpl : (backTo pos (starEach es X.env)).any (·.1) = false := by rfl)
    (ht : eval (.Call (.Attribute (.Name "ValueError" p) "__init__" apos) (e :: es) [] pos) X.env = (do
      let ov ← eval (.Name "ValueError" p) X.env
      standAt apos.atName
      let (f, first) ← holding [ov] (getMethod ov "__init__" pl)
      callWith pos f first (backTo pos (starEach (e :: es) X.env)) (backToKw pos (keywordEach [] X.env))) := by rfl) :
    PE X (.Call (.Attribute (.Name "ValueError" p) "__init__" apos) (e :: es) [] pos) (tVe X.K t) := by
  intro pins s σ H Q I h
  refine PySem.W.methodCall_KW (pl := pl) (ld_blt I hg hm PyProof.Rows.Boot.«ValueError» ?_) ht
  refine ve_init I.kIn ?_
  refine PyProof.Rows.callWith_builtin1 (thn (ha pos pins _ σ H _ (I.tok _) h) fun us s1 ⟨vs, H1, I1, r, ea, C, od, rr, ev, hl, h1, ⟨cd, xc⟩, q⟩ => ?_) hst hpl
  subst ev
  cases r with
  | @cons _ u _ us' r1 r2 =>
  obtain rfl : u = Value.ref ea := r1
  obtain ⟨fs, sl, a0, z, ha, hf⟩ := exo_get I1.hok h1
  have hz : us'.length ≤ sizeLine := by rw [← r2.length, sizeLine_eq]; omega
  have I2 : Inv X pins σ H1 { s1 with heap := s1.heap.push (tupRec us') } := I1.kept (t' := s1.toks) fun b u q => Heap.get?_push_of_some _ q
  have z2 := Heap.get?_push_of_some (h := s1.heap) (tupRec us') z
  have hs0 : 0 < fs.size := (Array.getElem?_eq_some_iff.mp ha).1
  have I3 : Inv X pins σ (upd H1 ea (exo true C ea od)) { s1 with heap := (s1.heap.push (tupRec us')).update ea (Obj.mapFields (·.setIfInBounds 0 (.ref s1.heap.objs.size))) } := by
    refine I2.write (x := ea) (e := ea) (t' := s1.toks) (by rw [h1]; exact True.intro) (.inl rfl) (fun b u hb q => (Heap.get?_update_other _ _ (Ne.symm hb)).trans q) ⟨_, upd_rec z2⟩ (exo_ok ⟨_, _, s1.heap.objs.size, upd_rec z2, by simp [hs0], fun _ => ?_⟩)
    have := hf rfl
    simpa using this
  rw [upd_self h1] at I3
  obtain ⟨hh, g, d, tk, os⟩ := s1
  exact init_called xc I1.kIn z ha hz ⟨.non, H1, I3, rfl, q⟩

/-! ### f-strings: some text -/
abbrev TF := St → Hp → (Hp → Prop) → Prop
/-- a part of an f-string: a text of at most 2000 signs -/
def PF (X : Cx) (e : Expr) (t : TF) : Prop :=
  ∀ (pins : List (Addr × Obj)) (s : Shared) (σ : St) (H : Hp) (Q : Hp → Prop), Inv X pins σ H s → t σ H Q → wpAny (model X.prog X.w) X.A (eval e X.env) (fun v s1 => ∃ y tk H1, v = .str y tk ∧ y.length ≤ 2000 ∧ Inv X pins σ H1 s1 ∧ Q H1) X.xe s
def PFs (X : Cx) (es : List Expr) (t : TF) : Prop :=
  ∀ (out : Str) (pins : List (Addr × Obj)) (s : Shared) (σ : St) (H : Hp) (Q : V → Hp → Prop), out.length + 2000 * es.length ≤ 100000 → Inv X pins σ H s → t σ H (fun H1 => ∀ y, y.length ≤ 100000 → Q (.str y) H1) →
    wpAny (model X.prog X.w) X.A (joinParts out (evalEach es X.env)) (EP X pins σ Q) X.xe s
def tText : TF := fun _ H Q => Q H
def tNum (te : TE) : TF := fun σ H Q => te σ H fun v H1 => ∃ i, v = .int i ∧ i.natAbs.log2 < 1920 ∧ Q H1
def tParts (t u : TF) : TF := fun σ H Q => t σ H fun H1 => u σ H1 Q
theorem line_big : (100000 : Nat) ≤ sizeLine := by rw [sizeLine_eq]; omega
theorem pf_text {x j pos} (hl : x.length ≤ 2000 := by decide +kernel) : PF X (.Constant (.str x) j pos) tText := fun _ _ _ H _ I h => Calls.Constant_str ⟨_, _, H, rfl, hl, I.tok _, h⟩
theorem pf_num {e : Expr} {te : TE} {pos : Pos} (he : PE X e te) : PF X (.FormattedValue e (-1) none pos) (tNum te) := by
  intro pins s σ H Q I h
  refine FormattedValue_plain (thn (he pins s σ H _ I h) fun u s1 ⟨v, H1, I1, r, i, ev, hi, q⟩ => ?_)
  subst ev
  obtain ⟨t, rfl⟩ := (show ∃ t, u = Value.int i t from r)
  exact formatField_int_small hi ⟨_, _, H1, rfl, Nat.le_trans (int_text_len_1921 hi) (by decide), I1.tok _, q⟩
theorem pfs_nil : PFs X [] tText := fun out pins s σ H Q hl I h =>
  joinParts_nil ⟨.str out, H, I.tok _, ⟨_, rfl⟩, h out (by simpa using hl)⟩ (Nat.le_trans (by simpa using hl) line_big)
theorem pfs_cons {e : Expr} {es : List Expr} {t u : TF} (h1 : PF X e t) (h2 : PFs X es u) : PFs X (e :: es) (tParts t u) := by
  intro out pins s σ H Q hl I h
  rw [List.length_cons] at hl
  refine joinParts_consE (joinParts_cons (thn (h1 pins s σ H _ I h) fun v s1 ⟨y, tk, H1, ev, hy, I1, q⟩ => ?_))
  subst ev
  have hz : (out ++ y).length + 2000 * es.length ≤ 100000 := by rw [strLen_append]; omega
  exact ⟨Nat.le_trans (by omega) line_big, h2 (out ++ y) pins s1 σ H1 Q hz I1 q⟩
def tFstr (t : TF) : TE := fun σ H Q => t σ H fun H1 => ∀ y, y.length ≤ 100000 → Q (.str y) H1
theorem pe_fstr {e e' : Expr} {es : List Expr} {t : TF} {pos : Pos} (h : PFs X (e :: e' :: es) t) (hl : 2000 * (e :: e' :: es).length ≤ 100000 := by decide) : PE X (.JoinedStr (e :: e' :: es) pos) (tFstr t) :=
  fun pins s σ H Q I q => JoinedStr_many (h Str.empty pins s σ H Q (by have z : Str.empty.length = 0 := rfl; rw [z]; omega) I q)

/-! ### isinstance, of exceptions too -/
inductive TyX (K : PySem.W.Frag) (H : Hp) : V → Value → Prop where
  | of {x : V} {t : Value} (h : TyOf K H x t) : TyX K H x t
  | exc {b : Bool} {a C : Addr} {od : Option Addr} {cd : ClassData} (e : H a = some (exo b C a od)) (hd : od = none ∨ ∃ dx fs, od = some dx ∧ H dx = some (.xd fs)) (x : XCls K C cd) (g : XGet K C)
      (hc : PySem.W.findIn K (.ref C) "__class__" = some (some (.builtin "object.__class__"))) : TyX K H (.ref a) (.ref C)
/-- a class as isinstance takes it -/
def clsV : V → Value
  | .ref a => .ref a
  | .ty n => .type n
  | _ => .none
theorem exo_inst {P : Program} {w : World} {H : Hp} {h : Heap} {b : Bool} {C a : Addr} {od : Option Addr} (ok : HOk P w H h) (e : H a = some (exo b C a od)) (hd : od = none ∨ ∃ dx fs, od = some dx ∧ H dx = some (.xd fs)) :
    ∃ ox o, PySem.W.InstAt h a ox C o := by
  obtain ⟨fs, sl, a0, z, _⟩ := exo_get ok e
  rcases hd with rfl | ⟨dx, gs, rfl, q⟩
  · exact ⟨_, _, inst_none z⟩
  · obtain ⟨mA, n, _⟩ := (show ObjOk P w H h dx (.xd gs) from ok dx _ q)
    obtain ⟨o, _, _, ho, _⟩ := n
    exact ⟨_, _, inst_some z ho⟩
def rIsi (K : PySem.W.Frag) : List V → Hp → VK → Prop := fun vs H Q => ∃ x c t b, vs = [x, c] ∧ TyX K H x t ∧ (∃ a, c = .ref a) ∧ PySem.W.kitOne K t (clsV c) = some b ∧ Q (.bl b) H
def rIsiT (K : PySem.W.Frag) : List V → Hp → VK → Prop := fun vs H Q => ∃ x c t b, vs = [x, c] ∧ TyX K H x t ∧ (∃ n, c = .ty n) ∧ PySem.W.kitOne K t (clsV c) = some b ∧ Q (.bl b) H
theorem isi_any {pins : List (Addr × Obj)} {s : Shared} {σ : St} {H : Hp} {x : V} {u c t : Value} {b : Bool} {Q : VK} (I : Inv X pins σ H s) (rx : RelV x u) (ty : TyX X.K H x t) (e : PySem.W.kitOne X.K t c = some b) (q : Q (.bl b) H) :
    wpAny (model X.prog X.w) X.A (call (.builtin "isinstance") [u, c]) (EP X pins σ Q) X.xe s := by
  have fin : ∀ tk, EP X pins σ Q (.bool b) { s with toks := tk } := fun tk => ⟨.bl b, H, I.tok tk, rfl, q⟩
  cases ty with
  | of h => exact isinst_ok I rx h e fin
  | exc ea hd xc g hc =>
    cases (show u = Value.ref _ from rx)
    obtain ⟨ox, o, J⟩ := exo_inst I.hok ea hd
    exact PySem.W.kia_one (kit_exc xc g hc) I.kIn ⟨ox, o, J⟩ e (fun z => nomatch z) fin
theorem call_isi : CallR X (.builtin "isinstance") (rIsi X.K) := by
  rintro pins s σ H xs us Q I r ⟨x, c, t, b, rfl, ty, ⟨a, rfl⟩, e, q⟩
  obtain ⟨u, v, rfl, ru, rv⟩ := vals2 r
  cases (show v = Value.ref a from rv)
  exact isi_any I ru ty e q
theorem call_isiT : CallR X (.builtin "isinstance") (rIsiT X.K) := by
  rintro pins s σ H xs us Q I r ⟨x, c, t, b, rfl, ty, ⟨n, rfl⟩, e, q⟩
  obtain ⟨u, v, rfl, ru, rv⟩ := vals2 r
  cases (show v = Value.type n from rv)
  exact isi_any I ru ty e q

/-! ### e.m() of an exception -/
def xMethE (K : PySem.W.Frag) (m : Str) (f : Addr) (sp : Sp) (EK : St → XK) (ta : TE) : TE := fun σ H Q => ta σ H fun x H1 => ∃ b a C, x = .ref a ∧ H1 a = some (exo b C a none) ∧ XGet K C ∧ Meth K C m f ∧ sp [x] H1 Q (EK σ)
theorem xe_methE {CX : CXT} {k : Nat} {f : Addr} {fd : FuncData} {ps : List Str} {sp : Sp} {EK : St → XK} {m : Str} {pos apos : Pos} {o : Expr} {ta : TE} {pl : Sem Bool} (he : PE X o ta) (F : FnOk X.prog X.w X.K X.mg X.base CX k f fd ps sp) (hr : Room k X.A) (hb : Binds X.K fd ps []) (hx : PassesX CX X EK)
    (ht : eval (.Call (.Attribute o m apos) [] [] pos) X.env = (do
      let ov ← eval o X.env
      standAt apos.atName
      let (f, first) ← holding [ov] (getMethod ov m pl)
      callWith pos f first (backTo pos (starEach [] X.env)) (backToKw pos (keywordEach [] X.env))) := by rfl) :
    PE X (.Call (.Attribute o m apos) [] [] pos) (xMethE X.K m f sp EK ta) := by
  intro pins s σ H Q I h
  refine PySem.W.methodCall_KW (pl := pl) (thn (he pins s σ H _ I h) fun u s1 ⟨x, H1, I1, rx, b, a, C, ex, ea, g, k, q⟩ => ?_) ht
  subst ex
  obtain rfl : u = Value.ref a := rx
  obtain ⟨fs, sl, a0, z, _⟩ := exo_get I1.hok ea
  refine meth_exc I1.kIn (inst_none z) g.ga g.gt k.at_ (beq_iff_eq.mp k.fn) rfl ?_
  exact PySem.W.callWith_K0 (first := [.ref a]) I1.kIn k.kp (xrun (us := [.ref a]) (vs := [.ref a]) (dvs := []) (ds := []) F hr hb .nil hx I1 (.cons rfl .nil) q)
end
end L2
end
section
set_option Elab.async false
set_option linter.all false
set_option maxRecDepth 100000
set_option maxHeartbeats 4000000
namespace L2
open PySem PySem.Spec PyProof.Rows LX

/-! ### try: .. except C as n: .. -/
/-- within the body of a try: another wish, the pins kept -/
abbrev Cx.tried (X : Cx) (pins : List (Addr × Obj)) (E : Value → Shared → Prop) : Cx := { X with xe := E, pn := X.pn ++ pins }
/-- within an except suite -/
abbrev Cx.caught (X : Cx) (ea : Addr) : Cx := { X with A := X.A.mark (some (.ref ea)), calm := false, xe := fun _ _ => False }
section
variable {X : Cx} {pins : List (Addr × Obj)} {σ : St} {H : Hp} {s : Shared} {E : Value → Shared → Prop} {ea : Addr}
theorem Inv.tried (I : Inv X pins σ H s) (E : Value → Shared → Prop) : Inv (X.tried pins E) [] σ H s :=
  ⟨⟨I.ok.mod, I.ok.kind, I.ok.glob, I.ok.blt, I.ok.above, I.ok.inj, I.ok.has, I.ok.cab, I.ok.hd, I.ok.frames, I.ok.stk, I.ok.exf, I.ok.bs, I.ok.bsz, I.ok.noex, I.ok.exfs, I.ok.funs, I.ok.frf⟩,
    I.os, I.bare, I.base, I.loc, I.cell, I.free, I.freeC, fun p hp => I.pin p (by simpa using hp), I.hok, I.len⟩
theorem Inv.untried {pins' : List (Addr × Obj)} (I : Inv (X.tried pins E) pins' σ H s) : Inv X pins σ H s :=
  ⟨⟨I.ok.mod, I.ok.kind, I.ok.glob, I.ok.blt, I.ok.above, I.ok.inj, I.ok.has, I.ok.cab, I.ok.hd, I.ok.frames, I.ok.stk, I.ok.exf, I.ok.bs, I.ok.bsz, I.ok.noex, I.ok.exfs, I.ok.funs, I.ok.frf⟩,
    I.os, I.bare, I.base, I.loc, I.cell, I.free, I.freeC, fun p hp => I.pin p (List.mem_append_left _ hp), I.hok, I.len⟩
theorem Inv.caught (I : Inv X pins σ H s) (ea : Addr) : Inv (X.caught ea) pins σ H s :=
  ⟨⟨I.ok.mod, I.ok.kind, I.ok.glob, I.ok.blt, I.ok.above, I.ok.inj, I.ok.has, I.ok.cab, (fun z => nomatch z), I.ok.frames, I.ok.stk, I.ok.exf, I.ok.bs, I.ok.bsz, I.ok.noex, I.ok.exfs, I.ok.funs, I.ok.frf⟩,
    I.os, I.bare, I.base, I.loc, I.cell, I.free, I.freeC, I.pin, I.hok, I.len⟩
theorem Inv.uncaught {Y : Cx} (I : Inv (Y.caught ea) pins σ H s) (ok : Y.Ok) : Inv Y pins σ H s := ⟨ok, I.os, I.bare, I.base, I.loc, I.cell, I.free, I.freeC, I.pin, I.hok, I.len⟩
/-- an untracked exception of ours is tracked from now on -/
theorem Inv.track {o : HO} {c : Value} {od : Option Addr} {fs : Array Value} {sl : Array (Option Value)} (I : Inv X pins σ H s) (hn : H ea = none) (h0 : X.s₀.heap.get? ea = none) (hr : s.heap.get? ea = some (excRec c od fs sl))
    (hp : ∀ p ∈ X.pn ++ pins, p.1 ≠ ea) (new : ObjOk X.prog X.w (upd H ea o) s.heap ea o) : Inv X pins σ (upd H ea o) s := by
  have ne : ∀ b u, H b = some u → b ≠ ea := fun b u q e => by rw [e, hn] at q; cases q
  refine ⟨I.ok, I.os, I.bare, ⟨I.base.keep, I.base.slot, fun b u q n hx => ?_, I.base.there, fun b xs q => ?_, fun b u v q => ?_, fun b ps q => ?_⟩, I.loc, I.cell, ?_, fun x c' q => ?_, fun p hq => ?_, I.hok.add hn new, I.len⟩
  · rw [upd_ne fun e => by rw [e, h0] at q; cases q]
    exact I.base.free b u q n hx
  · have r := I.base.tups b xs q
    rw [upd_ne (ne b _ r)]; exact r
  · have r := I.base.frzs b u v q
    rw [upd_ne (ne b _ r)]; exact r
  · obtain ⟨more, r⟩ := I.base.tbls b ps q
    exact ⟨more, by rw [upd_ne (ne b _ r)]; exact r⟩
  · rw [upd_ne fun e => ?_]
    · exact I.free
    · obtain ⟨m, ⟨oL, es, ep, ho, hd, _⟩, _⟩ := I.loc
      rw [e, hr] at ho
      cases ho
      cases hd
  · rw [upd_ne fun e => ?_]
    · exact I.freeC x c' q
    · obtain ⟨v, oc, ho, hd⟩ := I.cell x c' q
      rw [e, hr] at ho
      cases ho
      cases hd
  · obtain ⟨e, n, z⟩ := I.pin p hq
    exact ⟨e, by rw [upd_ne (hp p hq)]; exact n, z⟩
end
/-- the suite's ends: the name goes -/
def endsOff (i : Nat) (D : Ends) : Ends := { nx := fun σ H => D.nx (σ.set i none) H, rt := D.rt, bk := fun σ H => D.bk (σ.set i none) H, ct := fun σ H => D.ct (σ.set i none) H }
def tLand (K : PySem.W.Frag) (Dc : Addr) (i : Nat) (ts : TS) (D : Ends) : St → XK := fun σ c od H => ∃ C cd, c = .ref C ∧ XCls K C cd ∧ cd.mro.contains (.ref Dc) = true ∧ ∀ ea, H ea = none → ts (endsOff i D) (σ.set i (some (.ref ea))) (upd H ea (exo false C ea od))
def tTry (K : PySem.W.Frag) (Dc : Addr) (i : Nat) (tb : (St → XK) → TS) (ts : TS) : TS := fun D σ H => tb (tLand K Dc i ts D) D σ H

section
variable {X : Cx}
/-- the name of the exception goes -/
theorem name_off {pins : List (Addr × Obj)} {σ : St} {H : Hp} {s : Shared} {E : Value → Shared → Prop} {n : Str} {i : Nat} {pos : Pos} {Q : Unit → Shared → Prop} (I : Inv X pins σ H s) (hN : X.N.Nodup) (hi : X.N[i]? = some n) (hx : X.env.scope.names.lookup n = some .local)
    (k : ∀ s', Inv X pins (σ.set i none) H s' → Q () s') : wpAny (model X.prog X.w) X.A (do bindName X.env n .none; unbindBehindTheSuite X.env n pos) Q E s := by
  obtain ⟨m, hn, hl⟩ := id I.loc
  have hcls : (X.env.scope.kind == .class || (X.env.scope.kind == .module && X.env.locals != X.env.globals)) = false := by rw [I.ok.kind]; rfl
  refine wpAny_nameGoes_keeps hx hn hcls fun h' v hn' hs => k _ ?_
  obtain ⟨oL, _, _, hoL, _⟩ := id hn
  have tr : HOk X.prog X.w H h' := I.hok.keeps fun b u o q r => (hs.2 b fun e => by rw [e, I.free] at q; cases q).trans r
  refine ⟨I.ok, I.os, I.bare, ⟨fun b o e n hb hx => ?_, fun b o e n hb hx => ?_, I.base.free, fun b o e hx => ?_, I.base.tups, I.base.frzs, I.base.tbls⟩, ⟨_, hn', fun j y v' e1 e2 e3 => ?_⟩, fun y c e => ?_, I.free, I.freeC, fun p hp => ?_, tr, by simpa using I.len⟩
  · exact (hs.2 b (Nat.ne_of_lt (Nat.lt_of_lt_of_le (Heap.lt_size e) I.ok.above))).trans (I.base.keep b o e n hb hx)
  · obtain ⟨sl, e1⟩ := I.base.slot b o e n hb hx
    exact ⟨sl, (hs.2 b (Nat.ne_of_lt (Nat.lt_of_lt_of_le (Heap.lt_size e) I.ok.above))).trans e1⟩
  · obtain ⟨o', e1⟩ := I.base.there b o e hx
    exact ⟨o', (hs.2 b (Nat.ne_of_lt (Nat.lt_of_lt_of_le (Heap.lt_size e) I.ok.above))).trans e1⟩
  · by_cases hj : j = i
    · subst hj
      rw [List.getElem?_set] at e2
      simp only [if_true] at e2
      split at e2 <;> cases e2
    · rw [List.getElem?_set_ne (Ne.symm hj)] at e2
      obtain ⟨u', r', q⟩ := hl j y v' e1 e2 e3
      refine ⟨u', r', ?_⟩
      rcases q with ⟨kk, e⟩ | ⟨kk, c, e, z⟩
      · refine .inl ⟨kk, ?_⟩
        have : y ≠ n := fun e => hj (nodup_ix hN e1 (e ▸ hi))
        simp [this, e]
      · exact .inr ⟨kk, c, e, z.sameBut hs (I.cne y c e)⟩
  · obtain ⟨w', z⟩ := I.cell y c e
    exact ⟨w', z.sameBut hs (I.cne y c e)⟩
  · obtain ⟨e, n, ne, nf, d⟩ := I.pin p hp
    exact ⟨(hs.2 p.1 ne).trans e, n, ne, nf, d⟩

theorem ps_try {body suite : List Stmt} {b₀ : Stmt} {x n : Str} {np hpos pos : Pos} {i : Nat} {Dc : Addr} {cdD : ClassData} {tb : (St → XK) → TS} {ts : TS} (hex : X.ex = []) (hst : X.stack = X.env :: X.outer) (hfr : X.env.frame = some X.env.locals) (hg : Gl X x) (hm : X.mg x = some (.ref Dc))
    (hD : XCls X.K Dc cdD) (hN : X.N.Nodup) (hi : X.N[i]? = some n) (hx : X.env.scope.names.lookup n = some .local)
    (hb : ∀ (pins : List (Addr × Obj)) (E : Value → Shared → Prop) (EK : St → XK), PassesX (CXE X.prog X.w) (X.tried pins E) EK → PSs (X.tried pins E) body (tb EK))
    (hs : ∀ ea, PSs (X.caught ea) (b₀ :: suite) ts) (hdb : (x == ("__debug__" : Str)) = false := by decide) :
    PS X (.Try body [.ExceptHandler (some (.Name x np)) (some n) (b₀ :: suite) hpos] [] [] pos) (tTry X.K Dc i tb ts) := by
  intro pins s σ H D I h
  refine wpAny_Try_except ?_
  refine wpAny_mono (hb pins (fun e s₁ => ∃ σ' H1 sc, Inv X pins σ' H1 sc ∧ CXE X.prog X.w X.stack H1 sc (tLand X.K Dc i ts D σ') e s₁) (tLand X.K Dc i ts D)
    (fun pins' σ' H1 sc e s' J q => ⟨σ', H1, sc, J.untried, q⟩) [] s σ H D (I.tried _) h) (fun fl s1 q => ?_) fun e s1 q => ?_
  · cases fl with
    | next =>
      obtain ⟨σ', H', J, q⟩ := q
      exact wpAny_execs_nil ⟨σ', H', J.untried, q⟩
    | brk => obtain ⟨σ', H', J, q⟩ := q; exact ⟨σ', H', J.untried, q⟩
    | cont => obtain ⟨σ', H', J, q⟩ := q; exact ⟨σ', H', J.untried, q⟩
    | ret u => obtain ⟨v, σ', H', J, r, q⟩ := q; exact ⟨v, σ', H', J.untried, r, q⟩
  · obtain ⟨σ', H1, sc, J, ea, Cv, T, od, fs, sl, H', rfl, l, C, cd, ec, xc, hmr, q⟩ := q
    cases ec
    have hA : X.A.frames = some (X.env :: X.outer) := by rw [J.ok.frames, hst]
    have hF : s1.heap.FunFrames X.base (X.env :: X.outer) := by rw [← hst]; exact l.frames J
    have e0 : X.s₀.heap.get? ea = none := by
      cases z : X.s₀.heap.get? ea with
      | none => rfl
      | some o =>
        obtain ⟨o', z'⟩ := J.base.there ea o z (by rw [hex]; exact List.not_mem_nil)
        rw [l.newE] at z'; cases z'
    -- the state behind each step
    have st : ∀ (m : Heap) (tk : Nat), Kept (framesOf X.stack) [ea, T] s1.heap m → Inv X pins σ' H' { s1 with heap := m, toks := tk } := fun m tk k => by
      obtain ⟨un, hok⟩ := l.on (t' := s1.toks) J k
      exact J.call' l.os un hok l.bare fun b z => absurd z (by simp)
    have pn : ∀ p ∈ X.pn ++ pins, p.1 ≠ ea := fun p hp e => by
      obtain ⟨z, _⟩ := J.pin p hp
      rw [e, l.newE] at z; cases z
    refine note_on hA hF hfr l.at_ l.trail fun m T' oc tsx z1 z2 z3 z4 z5 => ?_
    have Te : T' ≠ ea := Nat.ne_of_gt (Nat.lt_of_lt_of_le (Heap.lt_size l.at_) z1)
    have f1 : (fs.setIfInBounds 1 (Value.ref T'))[1]? = some (.ref T') := by
      have := l.trail.size
      simp [this]
    have k1 : Kept (framesOf X.stack) [ea, T] s1.heap m := by rw [hst]; exact z2
    refine flight_off (s := { s1 with heap := m }) z3 f1 Te z4 (Array.getElem?_eq_some_iff.mp z5).1 fun m' q1 q2 q3 => ?_
    have nT : ∀ b o, s1.heap.get? b = some o → b ≠ T' := fun b o q => Nat.ne_of_lt (Nat.lt_of_lt_of_le (Heap.lt_size q) z1)
    have k2 : Kept (framesOf X.stack) [ea, T] s1.heap m' := ⟨fun b o q hb hx => q1 b o (nT b o q) (k1.plain b o q hb hx), fun b o q hb hx => by
      obtain ⟨sm, r⟩ := k1.frame b o q hb hx
      exact ⟨sm, q1 b _ (nT b o q) r⟩⟩
    have J2 := st m' s1.toks k2
    refine wpAny_handleBy_cons (codeAny_handlers_test ?_) (by intro z; cases z)
    refine ld_glob (X := X.caught ea) (J2.caught ea) hg hm ?_ hdb
    refine matches_own xc hD J2.kIn q3 ?_
    rw [hmr]
    refine codeAny_handlers_suite_as ?_
    cases q2 with
    | @some _ oc2 ts2 d2 sm2 y1 y2 y3 y4 =>
    refine flight_off (s := { s1 with heap := m' }) q3 y1 y2 y3 (Array.getElem?_eq_some_iff.mp y4).1 fun m3 r1 r2 r3 => ?_
    have k3 : Kept (framesOf X.stack) [ea, T] s1.heap m3 := ⟨fun b o q hb hx => r1 b o (nT b o q) (k2.plain b o q hb hx), fun b o q hb hx => by
      obtain ⟨sm, r⟩ := k2.frame b o q hb hx
      exact ⟨sm, r1 b _ (nT b o q) r⟩⟩
    have J3 := st m3 s1.toks k3
    obtain ⟨a0, ha⟩ := l.args
    have J4 : Inv X pins σ' (upd H' ea (exo false Cv ea od)) { s1 with heap := m3 } := J3.track l.freeE e0 r3 pn (exo_ok ⟨_, _, a0, r3, by simpa using ha, fun z => nomatch z⟩)
    refine store_ok (X := X.caught ea) (J4.caught ea) hN hi (.inl hx) (v := .ref ea) rfl (fun s5 J5 => ?_) (.inr hx)
    refine wpAny_mono (hs ea pins s5 _ _ (endsOff i D) J5 (q ea l.freeE)) (fun fl s6 w => ?_) fun _ _ z => False.elim z
    have off : ∀ {σ6 : St} {H6 : Hp} {Q6 : Unit → Shared → Prop}, Inv (X.caught ea) pins σ6 H6 s6 → (∀ s7, Inv X pins (σ6.set i none) H6 s7 → Q6 () s7) → wpAny (model X.prog X.w) X.A (do bindName X.env n .none; unbindBehindTheSuite X.env n hpos) Q6 X.xe s6 :=
      fun J6 k => name_off (J6.uncaught J.ok) hN hi hx k
    cases fl with
    | next => obtain ⟨σ6, H6, J6, w⟩ := w; exact off J6 fun s7 J7 => ⟨_, _, J7, w⟩
    | brk => obtain ⟨σ6, H6, J6, w⟩ := w; exact off J6 fun s7 J7 => ⟨_, _, J7, w⟩
    | cont => obtain ⟨σ6, H6, J6, w⟩ := w; exact off J6 fun s7 J7 => ⟨_, _, J7, w⟩
    | ret u => obtain ⟨v, σ6, H6, J6, r, w⟩ := w; exact off J6 fun s7 J7 => ⟨v, _, _, J7, r, w⟩
end
end L2
end
section
set_option Elab.async false
set_option linter.all false
set_option maxRecDepth 100000
set_option maxHeartbeats 4000000
namespace L2
open PySem PySem.Spec PyProof.Rows LX

/-! ### lists: + of any two, count of flat items -/
section
variable {X : Cx}
def rCatS (K : PySem.W.Frag) : R2 := fun x y H Q => ∃ l b xs zs, x = .ref l ∧ y = .ref b ∧ SqL K H l xs ∧ SqL K H b zs ∧ xs.length + zs.length ≤ sizeLine ∧ ∀ p, H p = none → Q (.ref p) (upd H p (.lst (xs ++ zs)))
theorem op_catS : OpR X (binaryOp .Add) (rCatS X.K) := by
  intro pins s σ H x y v u Q I rx ry h
  obtain ⟨l, b, xs, zs, rfl, rfl, hx, hy, hz, q⟩ := h
  cases rx
  cases ry
  obtain ⟨vs, r1, ⟨⟨c1, d1, da1, s1⟩, n1, e1, f1, _, g1⟩, _⟩ := I.list hx
  obtain ⟨ws, r2, ⟨⟨c2, d2, da2, s2⟩, n2, e2, f2, _, g2⟩, _⟩ := I.list hy
  simp only at f1 g1 f2 g2
  subst f1 g1 f2 g2
  have hl : vs.length + ws.length ≤ sizeLine := by rw [← r1.length, ← r2.length]; exact hz
  have ea : vs.toArray ++ ws.toArray = (vs ++ ws).toArray := by simp
  refine concat_meets ⟨_, e1, rfl⟩ ⟨_, e2, rfl⟩ noFill_list_add seq_list_add PySem.F.slot_list_add PySem.F.entry_list_add (PySem.F.args_list_add_2 _ _) (list_addW l b vs.toArray ws.toArray n1 n2 d1 d2 s1 s2 (by simpa using hl)) ⟨e1, e2, ?_⟩
  rw [ea]
  exact ⟨.ref _, _, I.lnew (t' := s.toks) (r1.append r2) (by rw [List.length_append]; exact hz), rfl, q _ I.fresh⟩
theorem countP_eqU {x : V} : ∀ {xs : List V} {us : List Value}, Vals xs us → xs.all flatV = true → us.countP (eqU x) = xs.countP fun y => eqV y x
  | _, _, .nil, _ => rfl
  | y :: xs, u :: us, .cons r t, f => by
    rw [List.all_cons, Bool.and_eq_true] at f
    rw [List.countP_cons, List.countP_cons, eqU_of r f.1, countP_eqU t f.2]
def rCount (K : PySem.W.Frag) : V → List V → Hp → VK → Prop := fun x vs H Q => ∃ l xs y, x = .ref l ∧ vs = [y] ∧ SqL K H l xs ∧ flatV y = true ∧ xs.all flatV = true ∧ Q (.int (xs.countP (fun z => eqV z y) : Nat)) H
theorem mt_count : MtM X "list.count" (rCount X.K) := by
  intro pins s σ H x vs v us Q I rx rv h
  obtain ⟨l, xs, y, rfl, rfl, hx, fy, fx, q⟩ := h
  cases rx
  obtain ⟨u, rfl, ru⟩ := rv.one
  obtain ⟨its, r1, ⟨⟨c1, d1, da1, s1⟩, n1, e1, f1, _, g1⟩, _⟩ := I.list hx
  simp only at f1 g1
  subst f1 g1
  refine call_meets PySem.F.slot_list_count ⟨_, e1, rfl⟩ PySem.F.entry_list_count (PySem.F.args_list_count_2 _ _) (SeqAt.list_countAt l its.toArray n1 d1 s1 u (eqU y)) ⟨e1, fun z hz => mem_eqAt ru fy r1 fx z (by simpa using hz), ?_⟩
  rw [show its.toArray.toList = its from rfl, countP_eqU r1 fx]
  exact ⟨.int _, H, I.tok _, ⟨_, rfl⟩, q⟩
end
/-! ### what is tracked stays -/
theorem Same.upd {H : Hp} {a : Addr} {o : HO} (h : H a = none) : Same H (L2.upd H a o) := fun b u q => by rw [upd_ne fun e => by rw [e, h] at q; cases q]; exact q
theorem TyOf.mono {K : PySem.W.Frag} {H H' : Hp} {x : V} {t : Value} (s : Same H H') (h : TyOf K H x t) : TyOf K H' x t := by
  cases h with
  | non => exact .non
  | bl x => exact .bl x
  | int i => exact .int i
  | str x => exact .str x
  | flt x => exact .flt x
  | lst e => exact .lst (s _ _ e)
  | frz e => exact .frz (s _ _ e)
  | tup e => exact .tup (s _ _ e)
  | dK e => exact .dK (s _ _ e)
  | dT e => exact .dT (s _ _ e)
  | ins e a b c d f => exact .ins (s _ _ e) a b c d f
theorem TyX.mono {K : PySem.W.Frag} {H H' : Hp} {x : V} {t : Value} (s : Same H H') (h : TyX K H x t) : TyX K H' x t := by
  cases h with
  | of h => exact .of (h.mono s)
  | exc e hd a b c =>
    refine .exc (s _ _ e) ?_ a b c
    rcases hd with z | ⟨dx, fs, z, q⟩
    · exact .inl z
    · exact .inr ⟨dx, fs, z, s _ _ q⟩

/-! ### the classes of errors that the text has, and HeapError.__init__ -/
/-- a class of errors: its name's address, what the walk asks of it -/
structure ErrC (K : PySem.W.Frag) (C : Addr) : Prop where
  cls : ∃ cd, XCls K C cd
  get : XGet K C
  own : PySem.W.findIn K (.ref C) "__class__" = some (some (.builtin "object.__class__"))
theorem ErrC.ty {K : PySem.W.Frag} {C a : Addr} {H : Hp} {b : Bool} (c : ErrC K C) (e : H a = some (exo b C a none)) : TyX K H (.ref a) (.ref C) := by
  obtain ⟨cd, x⟩ := c.cls
  exact .exc e (.inl rfl) x c.get c.own
/-- __init__(self, text) of HeapError -/
def spXI (K : PySem.W.Frag) : Sp := fun vs H Q _ => ∃ ea C od x, vs = [.ref ea, x] ∧ H ea = some (exo true C ea od) ∧ (∃ cd, XCls K C cd) ∧ Q .non H
/-- isinstance(e, D), e the first name -/
theorem isi_read {K : PySem.W.Frag} {i : Nat} {σ : St} {H : Hp} {Q : VK} {x : V} {D : Addr} {t : Value} {b : Bool} (h0 : σ[i]? = some (some x)) (ty : TyX K H x t) (hk : PySem.W.kitOne K t (.ref D) = some b) (q : Q (.bl b) H) :
    tCB (rIsi K) (tCons (tVar i) (tCons (tC (.ref D)) tNil)) σ H Q := ⟨x, h0, x, .ref D, t, b, rfl, ty, ⟨_, rfl⟩, hk, q⟩
theorem isi_readT {K : PySem.W.Frag} {i : Nat} {σ : St} {H : Hp} {Q : VK} {x : V} {D : String} {t : Value} {b : Bool} (h0 : σ[i]? = some (some x)) (ty : TyX K H x t) (hk : PySem.W.kitOne K t (.type D) = some b) (q : Q (.bl b) H) :
    tCB (rIsiT K) (tCons (tVar i) (tCons (tC (.ty D)) tNil)) σ H Q := ⟨x, h0, x, .ty D, t, b, rfl, ty, ⟨_, rfl⟩, hk, q⟩
/-- _law_flags: which of the classes ds -/
def spFlags (K : PySem.W.Frag) (ds : List Addr) : Sp := fun vs H Q _ => ∃ (x : V) (t : Value) (bs : List Bool), vs = [x] ∧ TyX K H x t ∧ (ds.map fun D => PySem.W.kitOne K t (.ref D)) = bs.map some ∧ ∀ p H', Same H H' → H' p = some (.lst (bs.map V.bl)) → Q (.ref p) H'
def flagOf (K : PySem.W.Frag) (t : Value) (D : Addr) : Bool := (PySem.W.kitOne K t (.ref D)).getD false
theorem flags_of {K : PySem.W.Frag} {t : Value} {ds : List Addr} {bs : List Bool} (h : (ds.map fun D => PySem.W.kitOne K t (.ref D)) = bs.map some) : (∀ D ∈ ds, PySem.W.kitOne K t (.ref D) = some (flagOf K t D)) ∧ bs = ds.map (flagOf K t) := by
  refine ⟨fun D hD => ?_, ?_⟩
  · have z : PySem.W.kitOne K t (.ref D) ∈ bs.map some := by rw [← h]; exact List.mem_map.mpr ⟨D, hD, rfl⟩
    obtain ⟨b, _, e⟩ := List.mem_map.mp z
    unfold flagOf
    rw [← e]
    rfl
  · have z := congrArg (List.map fun o : Option Bool => o.getD false) h
    rw [List.map_map, List.map_map] at z
    rw [show bs = bs.map ((fun o : Option Bool => o.getD false) ∘ some) by simp [Function.comp_def], ← z]
    rfl
theorem flat_bl (bs : List Bool) : (bs.map V.bl).all flatV = true := by
  induction bs with
  | nil => rfl
  | cons b r ih => rw [List.map_cons, List.all_cons, ih]; rfl
theorem count_bl (bs : List Bool) : (bs.map V.bl).countP (fun z => eqV z (.bl true)) = bs.count true := by
  induction bs with
  | nil => rfl
  | cons b r ih =>
    rw [List.map_cons, List.countP_cons, ih, List.count_cons]
    cases b <;> rfl
/-- a built-in's name as a value -/
theorem pe_ty {X : Cx} {x : Str} {T : String} {pos : Pos} (hg : Gl X x) (hm : X.mg x = none) (hv : bootBuiltins x = some (.type T)) (hn : x ≠ "__name__" := by decide) (hd : (x == ("__debug__" : Str)) = false := by decide) : PE X (.Name x pos) (tC (.ty T)) :=
  fun _ _ _ H _ I h => ld_blt I hg hm hv ⟨.ty T, H, I, rfl, h⟩ hn hd
/-- no exception leaves: calls in a body under nox -/
theorem passN {P : Program} {w : World} {X : Cx} : PassesX (CXE P w) X.nox (fun _ _ _ _ => False) := fun _ _ _ _ _ _ _ ⟨_, _, _, _, _, _, _, _, _, q⟩ => q.elim
theorem log_small {n : Int} (h : n.natAbs < 2 ^ 1920) : n.natAbs.log2 < 1920 := by
  by_cases z : n.natAbs = 0
  · rw [z]; decide
  · exact (Nat.log2_lt z).mpr h
theorem noneE {P : Program} {w : World} {outer : List Env} {H : Hp} {s : Shared} {e : Value} {s' : Shared} (h : CXE P w outer H s (fun _ _ _ => False) e s') : False := by
  obtain ⟨_, _, _, _, _, _, _, _, _, q⟩ := h
  exact q
end L2
end
section
set_option Elab.async false
set_option linter.all false
set_option maxRecDepth 100000
set_option maxHeartbeats 4000000
namespace L2
open PySem PySem.Spec PyProof.Rows LX
/-! ### == of two lists of flat items, as long as one another -/
def eqAll (xs ys : List V) : Bool := (List.range xs.length).all fun j => eqV (xs.getD j .non) (ys.getD j .non)
def rEqL (K : PySem.W.Frag) : R2 := fun x y H Q => ∃ a b xs ys, x = .ref a ∧ y = .ref b ∧ SqL K H a xs ∧ SqL K H b ys ∧ xs.length = ys.length ∧ xs.all flatV = true ∧ ys.all flatV = true ∧ Q (.bl (eqAll xs ys)) H
theorem op_eqL {X : Cx} (hu : X.A.units < cLine) : OpR X (compareOp .Eq) (rEqL X.K) := by
  intro pins s σ H x y v u Q I rx ry h
  obtain ⟨a, b, xs, ys, rfl, rfl, ha, hb, hl, fx, fy, q⟩ := h
  cases rx
  cases ry
  obtain ⟨vs, r1, ⟨o1, n1, e1, c1, _, g1⟩, _⟩ := I.list ha
  obtain ⟨ws, r2, ⟨o2, n2, e2, c2, _, g2⟩, _⟩ := I.list hb
  have l1 := r1.length
  have l2 := r2.length
  refine SeqAt.eq_listAt (e := fun j => eqV (xs.getD j .non) (ys.getD j .non)) ⟨o1, e1, c1, n1, g1⟩ ⟨o2, e2, c2, n2, g2⟩ (by simp only [List.size_toArray]; omega) hu (fun j h1 h2 => ?_) ⟨.bl _, H, I, rfl, ?_⟩
  · simp only [List.size_toArray] at h1 h2
    obtain ⟨w1, z1, rz1⟩ := r1.get (i := j) (x := xs[j]'(by omega)) (List.getElem?_eq_getElem (by omega))
    obtain ⟨w2, z2, rz2⟩ := r2.get (i := j) (x := ys[j]'(by omega)) (List.getElem?_eq_getElem (by omega))
    have a1 : vs.toArray[j] = w1 := by
      have := (List.getElem?_eq_some_iff.mp z1).2
      simpa using this
    have a2 : ws.toArray[j] = w2 := by
      have := (List.getElem?_eq_some_iff.mp z2).2
      simpa using this
    rw [a1, a2]
    have d1 : xs.getD j .non = xs[j]'(by omega) := by simp [List.getD, List.getElem?_eq_getElem (show j < xs.length by omega)]
    have d2 : ys.getD j .non = ys[j]'(by omega) := by simp [List.getD, List.getElem?_eq_getElem (show j < ys.length by omega)]
    show SeqAt.EqAt _ _ _ _ (eqV (xs.getD j .non) (ys.getD j .non))
    rw [d1, d2]
    exact eqAt_V rz1 rz2 (List.all_eq_true.mp fx _ (List.getElem_mem _)) (List.all_eq_true.mp fy _ (List.getElem_mem _))
  · have : vs.toArray.size = xs.length := by simp only [List.size_toArray]; omega
    rw [this]
    exact q
end L2
end
section
set_option Elab.async false
set_option linter.all false
set_option maxRecDepth 100000
set_option maxHeartbeats 4000000
namespace L2
open PySem PySem.Spec PyProof.Rows LX
/-! ### attributes of an exception -/
/-- a class of errors whose instances get the attribute f -/
structure XSet (K : PySem.W.Frag) (C : Addr) (f : Str) : Prop where
  cls : ∃ cd CH, XCls K C cd ∧ cd.hasDict = true ∧ cd.mro = [.ref C, .ref CH, .type "ValueError", .type "Exception", .type "BaseException", .type "object"]
  get : XGet K C
  sa : PySem.W.findIn K (.ref C) "__setattr__" = some (some (.builtin "object.__setattr__"))
  no : PySem.W.findIn K (.ref C) f = some none
section
variable {X : Cx}
theorem setx_ok {pins : List (Addr × Obj)} {σ : St} {H : Hp} {s : Shared} {a C : Addr} {b : Bool} {f : Str} {y : V} {u : Value} {A : Around} {E : Value → Shared → Prop} {Q : Unit → Shared → Prop} (I : Inv X pins σ H s) (e : H a = some (exo b C a none)) (c : XSet X.K C f) (ry : RelV y u)
    (k : ∀ dx s', H dx = none → Inv X pins σ (upd (upd H dx (.xd [(f, y)])) a (exo b C a (some dx))) s' → Q () s') : wpAny (model X.prog X.w) A (setAttr (.ref a) f u) Q E s := by
  obtain ⟨cd, CH, xc, hh, hm⟩ := c.cls
  obtain ⟨fs, sl, a0, z, ha, hf⟩ := exo_get I.hok e
  obtain ⟨h, g, d, t, os⟩ := s
  refine set_exc xc hm hh I.kIn z c.sa c.no fun m hn he hk => k h.objs.size _ (I.hok.fresh (Nat.le_refl _)) ?_
  have fr : H h.objs.size = none := I.hok.fresh (Nat.le_refl _)
  have ne : a ≠ h.objs.size := fun q => by rw [q, fr] at e; cases e
  have nD : ∀ c o, h.get? c = some o → c ≠ h.objs.size := fun c o q => Nat.ne_of_lt (Heap.lt_size q)
  have up : ∀ c, c ≠ a → c ≠ h.objs.size → upd (upd H h.objs.size (.xd [(f, y)])) a (exo b C a (some h.objs.size)) c = H c := fun c h1 h2 => by rw [upd_ne h1, upd_ne h2]
  have na : ∀ c v, H c = some v → v ≠ exo b C a none → c ≠ a := fun c v q n z => n (by rw [z, e] at q; exact (Option.some.inj q).symm)
  have nd : ∀ c v, H c = some v → c ≠ h.objs.size := fun c v q z => by rw [z, fr] at q; cases q
  have nn : ∀ c, H c = none → c ≠ a := fun c n z => by rw [z, e] at n; cases n
  refine I.un (t' := t + 2) ⟨fun c o q n _ _ => ?_, fun c o q n _ _ => ?_, fun c o q n _ => ?_, fun c o q _ => ?_, fun c xs q => ?_, fun c o v q => ?_, fun c ps q => ?_⟩ fun c o q => ?_
  · exact hk c o (nn c n) q
  · exact ⟨o.slots, hk c o (nn c n) q⟩
  · rw [up c (nn c n) (nD c o q)]; exact n
  · by_cases z : c = a
    · rw [z]; exact ⟨_, he⟩
    · exact ⟨_, hk c o z q⟩
  · rw [up c (na c _ q fun z => nomatch z) (nd c _ q)]; exact q
  · rw [up c (na c _ q fun z => nomatch z) (nd c _ q)]; exact q
  · exact ⟨#[], by rw [up c (na c _ q fun z => nomatch z) (nd c _ q), q]; simp⟩
  · by_cases za : c = a
    · subst za
      rw [upd_same] at q
      cases q
      exact exo_ok ⟨fs, sl, a0, he, ha, hf⟩
    · rw [upd_ne za] at q
      by_cases zd : c = h.objs.size
      · rw [zd] at q ⊢
        rw [upd_same] at q
        cases q
        refine ⟨_, hn, fun g => ?_⟩
        show RelO (List.lookup g [(f, y)]) (if g = f then some u else none)
        by_cases hg : g = f
        · have hb : (g == f) = true := beq_iff_eq.mpr hg
          simp only [List.lookup, hb, if_pos hg]
          exact ry
        · have hb : (g == f) = false := beq_eq_false_iff_ne.mpr hg
          simp only [List.lookup, hb, if_neg hg]
          trivial
      · rw [upd_ne zd] at q
        refine (I.hok c o q).stay (fun r v hr w => hk r v (fun z => ?_) w) (fun r w => ?_) fun r xs w => ?_
        · rcases hr with rfl | hr
          · exact za z
          · rw [z, e] at hr; cases hr
        · rw [up r (na r _ w fun z => nomatch z) (nd r _ w)]; exact w
        · rw [up r (na r _ w fun z => nomatch z) (nd r _ w)]; exact w
variable {o e value : Expr} {f : Str} {pos pos' : Pos} {ta tv : TE}
def sFldX (K : PySem.W.Frag) (ta tv : TE) (f : Str) : TS := fun D σ H => tv σ H fun y H1 => ta σ H1 fun x H2 => ∃ b a C, x = .ref a ∧ H2 a = some (exo b C a none) ∧ XSet K C f ∧ ∀ dx, H2 dx = none → D.nx σ (upd (upd H2 dx (.xd [(f, y)])) a (exo b C a (some dx)))
theorem ps_fldX (ha : PE X o ta) (hv : PE X value tv) (hs : swapsWith value (some (.Attribute o f pos')) pos.line X.env = pure false) : PS X (.Assign [.Attribute o f pos'] value pos) (sFldX X.K ta tv f) := by
  intro pins s σ H D I h
  refine plainObj_wpAny_Assign_Attribute (thn (hv pins s σ H _ I h) fun u s1 ⟨y, H1, I1, ry, q⟩ => thn (ha pins s1 σ H1 _ I1 q) fun ov s2 ⟨x, H2, I2, rx, b, a, C, ex, ea, c, q2⟩ => ?_) hs
  subst ex
  obtain rfl : ov = Value.ref a := rx
  exact setx_ok I2 ea c ry fun dx s3 hd I3 => ⟨σ, _, I3, q2 dx hd⟩
def tFldX (K : PySem.W.Frag) (ta : TE) (f : Str) : TE := fun σ H Q => ta σ H fun x H1 => ∃ b a C dx fs v, x = .ref a ∧ H1 a = some (exo b C a (some dx)) ∧ H1 dx = some (.xd fs) ∧ XSet K C f ∧ fs.lookup f = some v ∧ Q v H1
theorem pe_fldX (he : PE X e ta) (hb : attributeBase e f X.env (eval e X.env) = eval e X.env) : PE X (.Attribute e f pos) (tFldX X.K ta f) := by
  intro pins s σ H Q I h
  refine attr_of hb (thn (he pins s σ H _ I h) fun u s1 ⟨x, H1, I1, rx, b, a, C, dx, fs, v, ex, ea, ed, c, l, q⟩ => ?_)
  subst ex
  obtain rfl : u = Value.ref a := rx
  obtain ⟨cd, CH, xc, hh, hm⟩ := c.cls
  obtain ⟨gs, sl, a0, z, ha, hf⟩ := exo_get I1.hok ea
  obtain ⟨mA, n, r⟩ := (show ObjOk X.prog X.w H1 s1.heap dx (.xd fs) from I1.hok dx _ ed)
  obtain ⟨u, hu, ru⟩ := RelO.some_of (v := v) (o := mA f) (by rw [← l]; exact r f)
  obtain ⟨hh2, g, d, t, os⟩ := s1
  exact get_exc xc c.get hh I1.kIn z n c.no hu (handed_of ru) ⟨v, H1, I1.tok _, ru, q⟩

/-! ### C.f(..): a def of a class, called by the class's name -/
structure ClsFn (K : PySem.W.Frag) (C : Addr) (m : Str) (f : Addr) : Prop where
  rd : PySem.W.readsIn K C (.type "type") = true
  fc : PySem.W.findCls K (.ref C) (.type "type") m = some (.val (.ref f))
  ga : PySem.W.specialIn K (.ref C) "__getattribute__" = some (some (.builtin "type.__getattribute__"))
  kp : PySem.W.keepIn K (.ref f) = true
theorem xe_cls {CX : CXT} {k : Nat} {f C : Addr} {fd : FuncData} {ps : List Str} {sp : Sp} {EK : St → XK} {x m : Str} {p apos pos : Pos} {e : Expr} {es : List Expr} {t : TA} {pl : Sem Bool} (hg : Gl X x) (hm : X.mg x = some (.ref C)) (c : ClsFn X.K C m f) (F : FnOk X.prog X.w X.K X.mg X.base CX k f fd ps sp) (hr : Room k X.A) (hb : Binds X.K fd ps [])
    (hx : PassesX CX X EK) (ha : PA X (e :: es) t) (hdb : (x == ("__debug__" : Str)) = false := by decide) (hst : starEach (e :: es) X.env = (false, eval e X.env) :: starEach es X.env := by rfl) (hpl : (backTo pos (starEach es X.env)).any (·.1) = false := by rfl)
    (ht : eval (.Call (.Attribute (.Name x p) m apos) (e :: es) [] pos) X.env = (do
      let ov ← eval (.Name x p) X.env
      standAt apos.atName
      let (f, first) ← holding [ov] (getMethod ov m pl)
      callWith pos f first (backTo pos (starEach (e :: es) X.env)) (backToKw pos (keywordEach [] X.env))) := by rfl) :
    PE X (.Call (.Attribute (.Name x p) m apos) (e :: es) [] pos) (xCall sp [] EK t) := by
  intro pins s σ H Q I h
  refine PySem.W.methodCall_KW (pl := pl) (ld_glob I hg hm ?_ hdb) ht
  refine PySem.W.method_cls I.kIn c.ga (PySem.W.cls_value I.kIn c.rd c.fc rfl ?_)
  exact PySem.W.callWith_K (first := []) (h₀ := X.base) I.ok.mod.kin c.kp (thn (ha pos pins _ σ H _ (I.tok _) h) fun us s1 ⟨vs, H1, I1, r, q⟩ => ⟨I1.kIn, xrun F hr hb .nil hx I1 r q⟩) hst hpl

/-! ### e.m() of an exception, whichever its class -/
/-- of each class C the method m, with the promise sp C -/
structure MethD (P : Program) (w : World) (K : PySem.W.Frag) (mg : Str → Option Value) (base : Heap) (CX : CXT) (k : Nat) (m : Str) (C : Addr) (sp : Sp) : Prop where
  ex : ∃ f fd ps, Meth K C m f ∧ FnOk P w K mg base CX k f fd ps sp ∧ Binds K fd ps []
def xMethD (P : Program) (w : World) (K : PySem.W.Frag) (mg : Str → Option Value) (base : Heap) (CX : CXT) (k : Nat) (m : Str) (EK : St → XK) (ta : TE) : TE := fun σ H Q => ta σ H fun x H1 => ∃ b a C od sp, x = .ref a ∧ H1 a = some (exo b C a od) ∧ (od = none ∨ ∃ dx fs, od = some dx ∧ H1 dx = some (.xd fs) ∧ fs.lookup m = none) ∧ XGet K C ∧
  MethD P w K mg base CX k m C sp ∧ sp [x] H1 Q (EK σ)
theorem xe_methD {CX : CXT} {k : Nat} {EK : St → XK} {m : Str} {pos apos : Pos} {pl : Sem Bool} (he : PE X o ta) (hr : Room k X.A) (hx : PassesX CX X EK)
    (ht : eval (.Call (.Attribute o m apos) [] [] pos) X.env = (do
      let ov ← eval o X.env
      standAt apos.atName
      let (f, first) ← holding [ov] (getMethod ov m pl)
      callWith pos f first (backTo pos (starEach [] X.env)) (backToKw pos (keywordEach [] X.env))) := by rfl) :
    PE X (.Call (.Attribute o m apos) [] [] pos) (xMethD X.prog X.w X.K X.mg X.base CX k m EK ta) := by
  intro pins s σ H Q I h
  refine PySem.W.methodCall_KW (pl := pl) (thn (he pins s σ H _ I h) fun u s1 ⟨x, H1, I1, rx, b, a, C, od, sp, ex, ea, hd, g, md, q⟩ => ?_) ht
  subst ex
  obtain rfl : u = Value.ref a := rx
  obtain ⟨f, fd, ps, mt, F, hb⟩ := md.ex
  obtain ⟨fs, sl, a0, z, _⟩ := exo_get I1.hok ea
  have fin : wpAny (model X.prog X.w) X.A (callWith pos (.ref f) [.ref a] (backTo pos (starEach [] X.env)) (backToKw pos (keywordEach [] X.env))) (EP X pins σ Q) X.xe s1 :=
    PySem.W.callWith_K0 (first := [.ref a]) I1.kIn mt.kp (xrun (us := [.ref a]) (vs := [.ref a]) (dvs := []) (ds := []) F hr hb .nil hx I1 (.cons rfl .nil) q)
  rcases hd with rfl | ⟨dx, gs, rfl, ed, l⟩
  · exact meth_exc I1.kIn (inst_none z) g.ga g.gt mt.at_ (beq_iff_eq.mp mt.fn) rfl fin
  · obtain ⟨mA, n, r⟩ := (show ObjOk X.prog X.w H1 s1.heap dx (.xd gs) from I1.hok dx _ ed)
    obtain ⟨od, ho, hl⟩ := lookIn_ns n
    have hn : mA m = none := RelO.none_of (by rw [← l]; exact r m)
    exact meth_exc I1.kIn (inst_some z ho) g.ga g.gt mt.at_ (beq_iff_eq.mp mt.fn) (by show (PySem.W.lookIn m od).map (·.isSome) = some false; rw [hl, hn]; rfl) fin

/-! ### a short text times a small number: some text -/
def rMulS : R2 := fun x y H Q => ∃ z k, x = .str z ∧ y = .int k ∧ 0 ≤ k ∧ k ≤ 4 ∧ z.length ≤ 1000 ∧ ∀ r, Q (.str r) H
theorem op_mulS : OpR X (binaryOp .Mult) rMulS := by
  intro pins s σ H x y v u Q I rx ry h
  obtain ⟨z, k, rfl, rfl, h0, h1, hz, q⟩ := h
  obtain ⟨t, rfl⟩ := rx
  obtain ⟨t', rfl⟩ := ry
  refine SB.mul ⟨?_, fun a _ => ?_, fun a _ => ?_⟩ fun t2 k2 => ⟨.str _, H, I.tok _, ⟨_, rfl⟩, q _⟩
  · simp only [Bool.or_eq_false_iff, decide_eq_false_iff_not]
    omega
  · have e : k = 1 ∨ k = 2 ∨ k = 3 ∨ k = 4 := by omega
    rcases e with rfl | rfl | rfl | rfl <;> omega
  · have e : k = 1 ∨ k = 2 ∨ k = 3 ∨ k = 4 := by omega
    have big : (4000 : Nat) ≤ sizeLine := by decide
    have fin : ∀ n : Nat, n ≤ 4 → Builtin.Str.tooLong (z.length * n) = false := fun n hn => by
      have : z.length * n ≤ 1000 * 4 := Nat.mul_le_mul hz hn
      unfold Builtin.Str.tooLong
      exact decide_eq_false (by omega)
    rcases e with rfl | rfl | rfl | rfl <;> exact fin _ (by decide)
end
end L2
end
section
set_option Elab.async false
set_option linter.all false
set_option maxRecDepth 100000
set_option maxHeartbeats 4000000
namespace L2
open PySem PySem.Spec PyProof.Rows LX
/-! ### a list comprehension of one clause, its target a name, no test; nothing leaves it -/
theorem compLoop_any {prog : Program} {w : World} {A : Around} {R : Result → Shared → Prop} {s : Shared} {elt target iter : Expr} {scope : Scope} {pos : Pos} {it acc : Value} {env : Env} (I : Nat → Shared → Prop)
    (turn : ∀ n s, I n s → wpAny (model prog w) A (pyNext it) (fun r s₁ => match r with
      | none => R (.ok .next) s₁
      | some v => wpAny (model prog w) A (letOwnedTupleGo target it v) (fun _ s5 => wpAny (model prog w) A (assign target env v) (fun _ s₂ => wpAny (model prog w) A (eval elt env) (fun x s₃ =>
          wpAny (model prog w) A (call (.builtin "list.append") [acc, x]) (fun _ s₄ => ∃ m, m < n ∧ I m s₄) (notedBy (model prog w) A env fun e s' => R (.error e) s') s₃)
          (notedBy (model prog w) A env fun e s' => R (.error e) s') s₂) (notedBy (model prog w) A env fun e s' => R (.error e) s') s5) (notedBy (model prog w) A env fun e s' => R (.error e) s') s₁) (notedBy (model prog w) A env fun e s' => R (.error e) s') s)
    (n : Nat) (h : I n s) : codeAny (model prog w) A (.compLoop (.ListComp elt [⟨target, iter, [], 0⟩] scope pos) 0 it acc env) R s := by
  refine codeAny_loop rfl I (fun n s hI => ?_) n h
  show wpAny _ _ ((compTurn (.ListComp elt [⟨target, iter, [], 0⟩] scope pos) 0 it acc env).onRaise (fun x => do noteFrame x env; theTreesLotGoes x)) _ _ s
  refine wpAny_noted ?_
  rw [compTurn_list1]
  refine wpAny_bind (wpAny_standAt (wpAny_bind (wpAny_mono (turn n s hI) (fun r s₁ h₁ => ?_) fun _ _ h' => h')))
  cases r with
  | none => exact wpAny_pure h₁
  | some v =>
    refine wpAny_bind (wpAny_mono h₁ (fun _ s5 h5 => ?_) fun _ _ h' => h')
    exact wpAny_bind (wpAny_mono h5 (fun _ s₂ h₂ => wpAny_bind (wpAny_bind (wpAny_mono h₂ (fun x s₃ h₃ => wpAny_bind (wpAny_mono h₃
      (fun _ s₄ h₄ => wpAny_pure (wpAny_pure ⟨rfl, h₄⟩)) fun _ _ h' => h')) fun _ _ h' => h'))) fun _ _ h' => h')

/-- the block's context -/
abbrev cxC (X : Cx) (scope : Scope) (cl : List (Str × Addr)) (NC : List Str) (C : Addr) (fp : List Addr) (s₀ : Shared) (H₀ : Hp) : Cx :=
  { X with N := NC, s₀ := s₀, H₀ := H₀, env := compEnvC scope cl C X.env, outer := X.stack, ex := fp, fn := fun _ => false, pn := [], xe := fun _ _ => False }
def caps (σ : St) (idx : List Nat) : St := idx.map fun i => (σ[i]?).getD none
/-- what the block's scope has: its own name, and those of the def that it reads -/
structure CompOk (X : Cx) (scope : Scope) (cl : List (Str × Addr)) (x : Str) (idx : List Nat) (NC : List Str) : Prop where
  clos : closureFor scope X.env = pure cl
  sub : ∀ y c, cl.lookup y = some c → X.env.cells.lookup y = some c
  has : ∀ y, ((relabel scope X.env).names.lookup y = some .cell ∨ (relabel scope X.env).names.lookup y = some .free) → ∃ c, cl.lookup y = some c
  nocell : ∀ y ∈ scope.names, y.2 ≠ .cell
  kind : scope.kind = .function
  loc : ∀ y ∈ scope.names, y.2 = .local → scope.names.lookup y.1 = some .local
  xl : scope.names.lookup x = some .local
  nc : NC = x :: idx.map fun i => X.N.getD i x
  nd : NC.Nodup
  cap : ∀ i ∈ idx, i < X.N.length ∧ ((X.env.scope.names.lookup (X.N.getD i x) = some .cell ∨ X.env.scope.names.lookup (X.N.getD i x) = some .free) ∧ ((relabel scope X.env).names.lookup (X.N.getD i x) = some .cell ∨ (relabel scope X.env).names.lookup (X.N.getD i x) = some .free))
section
variable {X : Cx} {scope : Scope} {cl : List (Str × Addr)} {x : Str} {idx : List Nat} {NC : List Str} {C : Addr} {fp : List Addr} {pins : List (Addr × Obj)} {σ : St} {H : Hp} {s : Shared}
theorem inv_comp {h1 : Heap} {t' : Nat} (c : CompOk X scope cl x idx NC) (I : Inv X pins σ H s) (hf : ∀ b ∈ fp, FpOk X pins H b) (hlt : ∀ b ∈ fp, b < s.heap.objs.size) (ns : h1.Ns s.heap.objs.size (fun _ => none))
    (k : ∀ b o, s.heap.get? b = some o → h1.get? b = some o) : Inv (cxC X scope cl NC s.heap.objs.size fp s H) [] (none :: caps σ idx) H { s with heap := h1, toks := t' } := by
  have sub : ∀ b, b ∈ frs X.stack → b ∈ X.env.locals :: X.fs := I.stkSub
  refine ⟨⟨I.ok.mod, c.kind, I.ok.glob, I.ok.blt, Nat.le_refl _, fun y z a h1 h2 => I.ok.inj y z a (c.sub _ _ h1) (c.sub _ _ h2), c.has, fun y a z => (by cases z), I.ok.hd, I.ok.frames, .inl rfl, fun b hb => ⟨Nat.ne_of_lt (hlt b hb), fun y a q => (hf b hb).2.2.2.2.1 y a (c.sub _ _ q)⟩,
    fun b o q => I.bs b o q, Nat.le_trans I.ok.bsz I.sz, fun b o q hb => ?_, fun b hb z => ?_, I.stack, I.stkFree⟩, rfl, I.bare, Un.kept k, ⟨_, ns, fun i y v e1 e2 e3 => ?_⟩, fun y a q => ?_, I.hok.fresh (Nat.le_refl _), fun y a q => I.freeC _ _ (c.sub _ _ q), fun p hp => (by cases hp), I.hok.keeps fun b u o _ q => k b o q, ?_⟩
  · rcases (hf b hb).2.2.2.1 with z | z
    · exact I.ok.noex b o q z
    · exact absurd (Nat.lt_of_lt_of_le (Heap.lt_size (I.ok.bs b o q).1) z) (Nat.lt_irrefl _)
  · rcases List.mem_cons.mp (sub b z) with r | r
    · exact (hf b hb).2.1 r
    · exact (hf b hb).2.2.1 r
  · cases i with
    | zero => cases e2
    | succ j =>
      have e1' : (idx.map fun i => X.N.getD i x)[j]? = some y := by
        have : (cxC X scope cl NC s.heap.objs.size fp s H).N = NC := rfl
        rw [this, c.nc] at e1
        exact e1
      have e2' : (caps σ idx)[j]? = some (some v) := e2
      rw [List.getElem?_map] at e1'
      unfold caps at e2'
      rw [List.getElem?_map] at e2'
      cases ei : idx[j]? with
      | none => rw [ei] at e1'; cases e1'
      | some i =>
        rw [ei] at e1' e2'
        simp only [Option.map_some, Option.some.injEq] at e1' e2'
        obtain ⟨hi, h2, h3⟩ := c.cap i (List.mem_of_getElem? ei)
        rw [e1'] at h2 h3
        have hN : X.N[i]? = some y := by
          rw [← e1']
          simp [List.getD, List.getElem?_eq_getElem hi]
        have hσ : σ[i]? = some (some v) := by
          cases q : σ[i]? with
          | none => rw [q] at e2'; cases e2'
          | some o => rw [q] at e2'; simp only [Option.getD_some] at e2'; rw [e2']
        obtain ⟨m, hn, hl⟩ := I.loc
        obtain ⟨u, r, l⟩ := hl i y v hN hσ (h2.elim (fun z => .inr (.inl z)) fun z => .inr (.inr z))
        refine ⟨u, r, .inr ⟨h3, ?_⟩⟩
        rcases l with ⟨l, _⟩ | ⟨_, a, ha, hc⟩
        · exfalso
          have l' : X.env.scope.names.lookup y = some .local := l
          rcases h2 with z | z <;> (rw [l'] at z; cases z)
        · obtain ⟨a', ha'⟩ := c.has y h3
          have := c.sub _ _ ha'
          rw [ha] at this
          cases this
          exact ⟨a, ha', hc.keeps k⟩
  · obtain ⟨v, z⟩ := I.cell _ _ (c.sub _ _ q)
    exact ⟨v, z.keeps k⟩
  · show _ = NC.length
    rw [c.nc]
    simp [caps]
/-- the list at D grows by an item a turn -/
def CompTo (J : It) (D : Addr) (τ : St) (te : TE) (Q : VK) (H : Hp) : Prop := ∃ W : Nat → Nat → List V → Hp → Prop, (∃ m, W 0 m [] H) ∧ ∀ i m ys H2, W i m ys H2 → H2 D = some (.lst ys) ∧
  ((J.stop i H2 ∧ Q (.ref D) H2) ∨ (J.go i H2 ∧ ys.length < sizeLine ∧ ∃ N : List V → Hp → Prop, (∀ zs H', N zs H' → ∃ m', m' < m ∧ W (i + 1) m' zs H') ∧ ∀ y H3, J.yld i H2 y H3 → te (some y :: τ) H3 fun v H4 => H4 D = some (.lst ys) ∧ N (ys ++ [v]) (upd H4 D (.lst (ys ++ [v])))))
def tComp (wi : TI) (idx : List Nat) (te : TE) : TE := fun σ H Q => wi σ H fun J H1 => ∀ D, H1 D = none → CompTo J D (caps σ idx) te Q (upd H1 D (.lst []))
theorem appended {X : Cx} {pins : List (Addr × Obj)} {σ : St} {H : Hp} {s : Shared} {D : Addr} {ys : List V} {v : V} {u : Value} (I : Inv X pins σ H s) (h : H D = some (.lst ys)) (hz : ys.length < sizeLine) (r : RelV v u) :
    wpAny (model X.prog X.w) X.A (call (.builtin "list.append") [.ref D, u]) (fun _ s' => Inv X pins σ (upd H D (.lst (ys ++ [v]))) s') X.xe s := by
  refine thn (mt_append pins s σ H (.ref D) [v] (.ref D) [u] (fun _ H' => H' = upd H D (.lst (ys ++ [v]))) I rfl (.cons r .nil) ⟨D, ys, v, rfl, rfl, h, hz, rfl⟩) fun w s' ⟨_, H', I', _, e⟩ => ?_
  rw [← e]
  exact I'
theorem pe_comp {elt iter : Expr} {px pos : Pos} {wi : TI} {te : TE} (c : CompOk X scope cl x idx NC) (hc : X.calm = true) (hi : PI X (.Name x px) iter wi) (he : ∀ C fp s₀ H₀, PE (cxC X scope cl NC C fp s₀ H₀) elt te)
    (hs : ∀ x, foldedSetIterable iter X.env x = pure x := by intro _; rfl) : PE X (.ListComp elt [⟨.Name x px, iter, [], 0⟩] scope pos) (tComp wi idx te) := by
  intro pins s σ H Q I h
  rw [eval_ListComp]
  refine wpAny_comprehension_free (use := none) rfl hs c.clos c.kind c.loc (thn (hi pins s σ H _ I h) fun v s1 h1 => thn h1 fun itv s2 h2 => ?_)
  obtain ⟨it, fp, tn, J, H2, rfl, I2, T, st2, f2, q⟩ := h2
  refine wpAny_newObj_type (wpAny_newFunctionEnv c.nocell (by intro y hy; simp at hy) (fun h₁ hns₁ hsb₁ => ?_) c.kind)
  dsimp only at hns₁ hsb₁ ⊢
  have I3 : Inv X pins σ (upd H2 s2.heap.objs.size (.lst [])) { s2 with heap := s2.heap.push { cls := .type "list", data := .seq ([] : List Value).toArray }, toks := s2.toks } := I2.lnew (ys := []) (its := []) .nil (Nat.zero_le _)
  obtain ⟨W, ⟨m0, w0⟩, turn⟩ := q s2.heap.objs.size I2.fresh
  generalize hD : s2.heap.objs.size = D at *
  generalize hH : s2.heap.push { cls := .type "list", data := .seq ([] : List Value).toArray } = h3 at *
  have hlt2 : ∀ b ∈ fp, b < D := fun b hb => by
    obtain ⟨o, e, _⟩ := T.obj _ _ st2 b hb
    rw [← hD]
    exact Heap.lt_size e
  have hlt : ∀ b ∈ fp, b < h3.objs.size := fun b hb => by
    rw [← hH, Heap.size_push, hD]
    exact Nat.lt_succ_of_lt (hlt2 b hb)
  have hf : ∀ b ∈ fp, FpOk X pins (upd H2 D (.lst [])) b := fun b hb => ⟨by rw [upd_ne (Nat.ne_of_lt (hlt2 b hb))]; exact (f2 b hb).1, (f2 b hb).2⟩
  have kp : ∀ b o, h3.get? b = some o → h₁.get? b = some o := fun b o e => hsb₁.extBut b o (Nat.ne_of_lt (Heap.lt_size e)) (Heap.get?_push_of_some _ e)
  have I4 : Inv (cxC X scope cl NC h3.objs.size fp { s2 with heap := h3, toks := s2.toks } (upd H2 D (.lst []))) [] (none :: caps σ idx) (upd H2 D (.lst [])) { s2 with heap := h₁, toks := s2.toks + ([] : List (Str × Value)).length } :=
    inv_comp (s := { s2 with heap := h3, toks := s2.toks }) c I3 hf hlt hns₁ kp
  have stat : ∀ {H' : Hp}, (∀ b ∈ fp, H' b = none) → ∀ b ∈ fp, FpOk (cxC X scope cl NC h3.objs.size fp { s2 with heap := h3, toks := s2.toks } (upd H2 D (.lst []))) [] H' b := fun hn b hb =>
    ⟨hn b hb, Nat.ne_of_lt (hlt b hb), fun z => (List.mem_cons.mp (I3.stkSub b z)).elim (hf b hb).2.1 (hf b hb).2.2.1, .inl hb, fun y a q => (hf b hb).2.2.2.2.1 y a (c.sub _ _ q), fun p hp => (by cases hp)⟩
  have st1 : tn 0 h₁ := T.keep 0 _ _ st2 fun b hb o e => kp b o (by rw [← hH]; exact Heap.get?_push_of_some _ e)
  have loop : ∀ s4 : Shared, s4 = { s2 with heap := h₁, toks := s2.toks + ([] : List (Str × Value)).length } →
      codeAny (model X.prog X.w) X.A (.compLoop (.ListComp elt [⟨.Name x px, iter, [], 0⟩] scope pos) 0 (.ref it) (.ref D) (compEnvC scope cl h3.objs.size X.env)) (compPost (model X.prog X.w) X.A X.xe none (EP X pins σ Q) (.ref D) h3.objs.size) s4 := by
    rintro s4 rfl
    refine compLoop_any (fun n s' => ∃ i ys H' v0, Inv (cxC X scope cl NC h3.objs.size fp { s2 with heap := h3, toks := s2.toks } (upd H2 D (.lst []))) [] (v0 :: caps σ idx) H' s' ∧ tn i s'.heap ∧ (∀ b ∈ fp, H' b = none) ∧ W i n ys H')
      ?_ m0 ⟨0, [], _, none, I4, st1, fun b hb => (hf b hb).1, w0⟩
    rintro n s5 ⟨i, ys, H5, v0, I5, st5, fr5, w5⟩
    obtain ⟨hDl, alt⟩ := turn i n ys H5 w5
    rcases alt with ⟨stop, qn⟩ | ⟨go, hz, N, hN, step⟩
    · refine thn (T.done (cxC X scope cl NC h3.objs.size fp { s2 with heap := h3, toks := s2.toks } (upd H2 D (.lst []))) rfl rfl rfl hc i [] s5 _ H5 _ I5 (stat fr5) st5 stop) fun r s6 ⟨hr, I6⟩ => ?_
      subst hr
      obtain ⟨m, ns6, _⟩ := id I6.loc
      refine ⟨m, ns6, fun h' hs' => ⟨.ref D, H5, ?_, rfl, qn⟩⟩
      have J6 : Inv X pins σ H5 s6 := I3.call' (ch := fp) I6.os I6.base I6.hok I6.bare fun b hb => ⟨(hf b hb).2.2.2.1, (hf b hb).2.1, (hf b hb).2.2.2.2.1, (hf b hb).2.2.2.2.2⟩
      refine J6.turned (t' := s6.toks) (it := h3.objs.size) (fun b o hb e => hs'.extBut b o hb e) I6.free (Nat.ne_of_gt I3.lt) (.inr I3.sz) (fun y a q z => ?_) (fun p hp z => ?_)
      · obtain ⟨v, q'⟩ := I3.cell y a q
        exact absurd q'.lt (by rw [z]; exact Nat.lt_irrefl _)
      · exact absurd (Heap.lt_size (I3.pin p hp).1) (by rw [z]; exact Nat.lt_irrefl _)
    · refine thn (T.item (cxC X scope cl NC h3.objs.size fp { s2 with heap := h3, toks := s2.toks } (upd H2 D (.lst []))) rfl rfl rfl hc i [] s5 _ H5 _ I5 (stat fr5) st5 go) fun r s6 ⟨u, hr, h6⟩ => ?_
      subst hr
      refine thn h6 fun _ s7 ⟨y, H7, I7, r7, y7, st7, fr7⟩ => ?_
      have I7' := I7.pinned (stat fr7) (T.obj _ _ st7)
      have hnl : (relabel scope X.env).names.lookup x = some .local := lookup_relabel_local c.xl
      refine wpAny_mono (pg_name (X := cxC X scope cl NC h3.objs.size fp { s2 with heap := h3, toks := s2.toks } (upd H2 D (.lst []))) (i := 0) (x := x) (pos := px) c.nd (by show NC[0]? = some x; rw [c.nc]; rfl) (.inl hnl) (.inr hnl) _ s7 _ H7 y u
        (fun σ' H' => σ' = some y :: caps σ idx ∧ H' = H7) I7' r7 ⟨rfl, rfl⟩) (fun _ s8 ⟨σ8, H8, I8, e8, e8'⟩ => ?_) fun _ _ z => z.elim
      subst e8 e8'
      refine wpAny_mono (he _ _ _ _ _ s8 _ H8 _ I8 (step y H8 y7)) (fun w s9 ⟨v, H9, I9, r9, hD9, n9⟩ => ?_) fun _ _ z => z.elim
      obtain ⟨m', hm, w9⟩ := hN _ _ n9
      refine wpAny_mono (appended (X := (cxC X scope cl NC h3.objs.size fp { s2 with heap := h3, toks := s2.toks } (upd H2 D (.lst [])))) I9 hD9 hz r9) (fun _ s10 I10 => ?_) fun _ _ z => z.elim
      refine ⟨m', hm, i + 1, ys ++ [v], _, some y, I10.unpinned, T.keep _ _ _ st7 fun b hb o e => (I10.pin (b, o) (List.mem_append_right _ (List.mem_append_right _ (mem_pinsAt hb e)))).1, fun b hb => ?_, w9⟩
      obtain ⟨o, e, d⟩ := T.obj _ _ st7 b hb
      exact (I10.pin (b, o) (List.mem_append_right _ (List.mem_append_right _ (mem_pinsAt hb e)))).2.1
  exact codeAny_compStart_list (loop _ rfl) (T.self _ 0 _ _ _ st1 (loop _ rfl))
end
end L2
end
section
set_option Elab.async false
set_option linter.all false
set_option maxRecDepth 100000
set_option maxHeartbeats 4000000
namespace L2
open PySem PySem.Spec PyProof.Rows LX
section
variable {X : Cx}
/-! ### all of a list of bools -/
theorem bools_of : ∀ {bs : List Bool} {us : List Value}, Vals (bs.map V.bl) us → us = bs.map Value.bool
  | [], _, .nil => rfl
  | b :: r, _, .cons h t => by
    cases h
    rw [bools_of t]
    rfl
def rAll (K : PySem.W.Frag) : List V → Hp → VK → Prop := fun vs H Q => ∃ (p : Addr) (bs : List Bool), vs = [.ref p] ∧ SqL K H p (bs.map V.bl) ∧ Q (.bl (bs.all id)) H
theorem call_all (hc : X.calm = true) : CallR X (.builtin "all") (rAll X.K) := by
  rintro pins s σ H xs us Q I r ⟨p, bs, rfl, hq, q⟩
  obtain ⟨u, rfl, ru⟩ := r.one
  cases (show u = Value.ref p from ru)
  obtain ⟨its, rv, ⟨o, n, e1, e2, e3, e4⟩, hz⟩ := I.list hq
  have e := bools_of rv
  have hl : s.heap.IsList p (bs.map Value.bool).toArray := by
    rw [← e]
    exact ⟨o, e1, e2, n, e4⟩
  have hlt : p < s.heap.objs.size := Heap.lt_size e1
  refine call_all_walk (wpAny_pyIter_list hl ?_)
  refine ⟨s.heap.objs.size, [s.heap.objs.size, p], [s.heap.objs.size], (bs.map Value.bool).toArray.size, _, _, fun i => (bs[i]?).getD true, rfl, Walks.list (A := X.A.in1) (I.ok.hd hc) _ p (Nat.ne_of_lt hlt) _,
    ⟨⟨_, Heap.get?_push_size _ rfl, rfl, rfl⟩, hl.push _⟩, fun i v s' Q' E' hP hQ => ?_, fun h' tk hk => ?_⟩
  · simp only [List.getElem?_toArray, List.getElem?_map] at hP
    cases eb : bs[i]? with
    | none => rw [eb] at hP; cases hP
    | some b =>
      rw [eb] at hP
      cases hP
      simp only [eb, Option.getD_some] at hQ
      exact wpAny_truthy_bool hQ
  · have e : ((List.range (bs.map Value.bool).toArray.size).all fun i => (bs[i]?).getD true) = bs.all id := by
      rw [List.size_toArray, List.length_map]
      exact LSm.range_all bs
    rw [e]
    refine ⟨.bl _, H, I.kept (t' := tk) fun b x q => hk b x (fun hm => ?_) (Heap.get?_push_of_some _ q), rfl, q⟩
    rw [List.mem_singleton.mp hm] at q
    exact Nat.lt_irrefl _ (Heap.lt_size q)
/-! ### a comprehension with one test -/
theorem compLoop_test {prog : Program} {w : World} {A : Around} {R : Result → Shared → Prop} {s : Shared} {elt target iter c : Expr} {scope : Scope} {pos : Pos} {it acc : Value} {env : Env} (I : Nat → Shared → Prop)
    (turn : ∀ n s, I n s → wpAny (model prog w) A (pyNext it) (fun r s₁ => match r with
      | none => R (.ok .next) s₁
      | some v => wpAny (model prog w) A (letOwnedTupleGo target it v) (fun _ s5 => wpAny (model prog w) A (assign target env v) (fun _ s₂ => wpAny (model prog w) A (isTrue c env (eval c env)) (fun ok s6 => if ok = true then wpAny (model prog w) A (eval elt env) (fun x s₃ =>
          wpAny (model prog w) A (call (.builtin "list.append") [acc, x]) (fun _ s₄ => ∃ m, m < n ∧ I m s₄) (notedBy (model prog w) A env fun e s' => R (.error e) s') s₃)
          (notedBy (model prog w) A env fun e s' => R (.error e) s') s6 else ∃ m, m < n ∧ I m s6) (notedBy (model prog w) A env fun e s' => R (.error e) s') s₂) (notedBy (model prog w) A env fun e s' => R (.error e) s') s5) (notedBy (model prog w) A env fun e s' => R (.error e) s') s₁) (notedBy (model prog w) A env fun e s' => R (.error e) s') s)
    (n : Nat) (h : I n s) : codeAny (model prog w) A (.compLoop (.ListComp elt [⟨target, iter, [c], 0⟩] scope pos) 0 it acc env) R s := by
  refine codeAny_loop rfl I (fun n s hI => ?_) n h
  show wpAny _ _ ((compTurn (.ListComp elt [⟨target, iter, [c], 0⟩] scope pos) 0 it acc env).onRaise (fun x => do noteFrame x env; theTreesLotGoes x)) _ _ s
  refine wpAny_noted ?_
  rw [compTurn_list]
  refine wpAny_bind (wpAny_standAt (wpAny_bind (wpAny_mono (turn n s hI) (fun r s₁ h₁ => ?_) fun _ _ h' => h')))
  cases r with
  | none => exact wpAny_pure h₁
  | some v =>
    refine wpAny_bind (wpAny_mono h₁ (fun _ s5 h5 => ?_) fun _ _ h' => h')
    refine wpAny_bind (wpAny_mono h5 (fun _ s₂ h₂ => wpAny_bind (wpAny_mono (wpAny_tests_one h₂) (fun ok s₃ h₃ => ?_) fun _ _ h' => h')) fun _ _ h' => h')
    cases ok with
    | false => exact wpAny_pure ⟨rfl, h₃⟩
    | true =>
      exact wpAny_bind (wpAny_bind (wpAny_mono h₃ (fun x s₄ h₄ => wpAny_bind (wpAny_mono h₄ (fun _ s₅ h₅ => wpAny_pure (wpAny_pure ⟨rfl, h₅⟩)) fun _ _ h' => h')) fun _ _ h' => h'))
variable {scope : Scope} {cl : List (Str × Addr)} {x : Str} {idx : List Nat} {NC : List Str} {C : Addr} {fp : List Addr} {pins : List (Addr × Obj)} {σ : St} {H : Hp} {s : Shared}
/-- the list at D grows by an item where the test holds -/
def tCompT (wi : TI) (idx : List Nat) (tc : TT) (te : TE) : TE := fun σ H Q => wi σ H fun J H1 => ∀ D, H1 D = none → ∃ W : Nat → Nat → List V → Hp → Prop, (∃ m, W 0 m [] (upd H1 D (.lst []))) ∧ ∀ i m ys H2, W i m ys H2 → H2 D = some (.lst ys) ∧
  ((J.stop i H2 ∧ Q (.ref D) H2) ∨ (J.go i H2 ∧ ys.length < sizeLine ∧ ∃ N : List V → Hp → Prop, (∀ zs H', N zs H' → ∃ m', m' < m ∧ W (i + 1) m' zs H') ∧ ∀ y H3, J.yld i H2 y H3 → tc (some y :: caps σ idx) H3 fun b H4 => if b = true then te (some y :: caps σ idx) H4 fun v H5 => H5 D = some (.lst ys) ∧ N (ys ++ [v]) (upd H5 D (.lst (ys ++ [v])))
    else N ys H4))
theorem pe_compT {elt iter ct : Expr} {px pos : Pos} {wi : TI} {tc : TT} {te : TE} (c : CompOk X scope cl x idx NC) (hc : X.calm = true) (hi : PI X (.Name x px) iter wi) (ht : ∀ C fp s₀ H₀, PT (cxC X scope cl NC C fp s₀ H₀) ct tc) (he : ∀ C fp s₀ H₀, PE (cxC X scope cl NC C fp s₀ H₀) elt te)
    (hs : ∀ x, foldedSetIterable iter X.env x = pure x := by intro _; rfl) : PE X (.ListComp elt [⟨.Name x px, iter, [ct], 0⟩] scope pos) (tCompT wi idx tc te) := by
  intro pins s σ H Q I h
  rw [eval_ListComp]
  refine wpAny_comprehension_free (use := none) rfl hs c.clos c.kind c.loc (thn (hi pins s σ H _ I h) fun v s1 h1 => thn h1 fun itv s2 h2 => ?_)
  obtain ⟨it, fp, tn, J, H2, rfl, I2, T, st2, f2, q⟩ := h2
  refine wpAny_newObj_type (wpAny_newFunctionEnv c.nocell (by intro y hy; simp at hy) (fun h₁ hns₁ hsb₁ => ?_) c.kind)
  dsimp only at hns₁ hsb₁ ⊢
  have I3 : Inv X pins σ (upd H2 s2.heap.objs.size (.lst [])) { s2 with heap := s2.heap.push { cls := .type "list", data := .seq ([] : List Value).toArray }, toks := s2.toks } := I2.lnew (ys := []) (its := []) .nil (Nat.zero_le _)
  obtain ⟨W, ⟨m0, w0⟩, turn⟩ := q s2.heap.objs.size I2.fresh
  generalize hD : s2.heap.objs.size = D at *
  generalize hH : s2.heap.push { cls := .type "list", data := .seq ([] : List Value).toArray } = h3 at *
  have hlt2 : ∀ b ∈ fp, b < D := fun b hb => by
    obtain ⟨o, e, _⟩ := T.obj _ _ st2 b hb
    rw [← hD]
    exact Heap.lt_size e
  have hlt : ∀ b ∈ fp, b < h3.objs.size := fun b hb => by
    rw [← hH, Heap.size_push, hD]
    exact Nat.lt_succ_of_lt (hlt2 b hb)
  have hf : ∀ b ∈ fp, FpOk X pins (upd H2 D (.lst [])) b := fun b hb => ⟨by rw [upd_ne (Nat.ne_of_lt (hlt2 b hb))]; exact (f2 b hb).1, (f2 b hb).2⟩
  have kp : ∀ b o, h3.get? b = some o → h₁.get? b = some o := fun b o e => hsb₁.extBut b o (Nat.ne_of_lt (Heap.lt_size e)) (Heap.get?_push_of_some _ e)
  have I4 : Inv (cxC X scope cl NC h3.objs.size fp { s2 with heap := h3, toks := s2.toks } (upd H2 D (.lst []))) [] (none :: caps σ idx) (upd H2 D (.lst [])) { s2 with heap := h₁, toks := s2.toks + ([] : List (Str × Value)).length } :=
    inv_comp (s := { s2 with heap := h3, toks := s2.toks }) c I3 hf hlt hns₁ kp
  have stat : ∀ {H' : Hp}, (∀ b ∈ fp, H' b = none) → ∀ b ∈ fp, FpOk (cxC X scope cl NC h3.objs.size fp { s2 with heap := h3, toks := s2.toks } (upd H2 D (.lst []))) [] H' b := fun hn b hb =>
    ⟨hn b hb, Nat.ne_of_lt (hlt b hb), fun z => (List.mem_cons.mp (I3.stkSub b z)).elim (hf b hb).2.1 (hf b hb).2.2.1, .inl hb, fun y a q => (hf b hb).2.2.2.2.1 y a (c.sub _ _ q), fun p hp => (by cases hp)⟩
  have st1 : tn 0 h₁ := T.keep 0 _ _ st2 fun b hb o e => kp b o (by rw [← hH]; exact Heap.get?_push_of_some _ e)
  have loop : ∀ s4 : Shared, s4 = { s2 with heap := h₁, toks := s2.toks + ([] : List (Str × Value)).length } →
      codeAny (model X.prog X.w) X.A (.compLoop (.ListComp elt [⟨.Name x px, iter, [ct], 0⟩] scope pos) 0 (.ref it) (.ref D) (compEnvC scope cl h3.objs.size X.env)) (compPost (model X.prog X.w) X.A X.xe none (EP X pins σ Q) (.ref D) h3.objs.size) s4 := by
    rintro s4 rfl
    refine compLoop_test (fun n s' => ∃ i ys H' v0, Inv (cxC X scope cl NC h3.objs.size fp { s2 with heap := h3, toks := s2.toks } (upd H2 D (.lst []))) [] (v0 :: caps σ idx) H' s' ∧ tn i s'.heap ∧ (∀ b ∈ fp, H' b = none) ∧ W i n ys H')
      ?_ m0 ⟨0, [], _, none, I4, st1, fun b hb => (hf b hb).1, w0⟩
    rintro n s5 ⟨i, ys, H5, v0, I5, st5, fr5, w5⟩
    obtain ⟨hDl, alt⟩ := turn i n ys H5 w5
    rcases alt with ⟨stop, qn⟩ | ⟨go, hz, N, hN, step⟩
    · refine thn (T.done (cxC X scope cl NC h3.objs.size fp { s2 with heap := h3, toks := s2.toks } (upd H2 D (.lst []))) rfl rfl rfl hc i [] s5 _ H5 _ I5 (stat fr5) st5 stop) fun r s6 ⟨hr, I6⟩ => ?_
      subst hr
      obtain ⟨m, ns6, _⟩ := id I6.loc
      refine ⟨m, ns6, fun h' hs' => ⟨.ref D, H5, ?_, rfl, qn⟩⟩
      have J6 : Inv X pins σ H5 s6 := I3.call' (ch := fp) I6.os I6.base I6.hok I6.bare fun b hb => ⟨(hf b hb).2.2.2.1, (hf b hb).2.1, (hf b hb).2.2.2.2.1, (hf b hb).2.2.2.2.2⟩
      refine J6.turned (t' := s6.toks) (it := h3.objs.size) (fun b o hb e => hs'.extBut b o hb e) I6.free (Nat.ne_of_gt I3.lt) (.inr I3.sz) (fun y a q z => ?_) (fun p hp z => ?_)
      · obtain ⟨v, q'⟩ := I3.cell y a q
        exact absurd q'.lt (by rw [z]; exact Nat.lt_irrefl _)
      · exact absurd (Heap.lt_size (I3.pin p hp).1) (by rw [z]; exact Nat.lt_irrefl _)
    · refine thn (T.item (cxC X scope cl NC h3.objs.size fp { s2 with heap := h3, toks := s2.toks } (upd H2 D (.lst []))) rfl rfl rfl hc i [] s5 _ H5 _ I5 (stat fr5) st5 go) fun r s6 ⟨u, hr, h6⟩ => ?_
      subst hr
      refine thn h6 fun _ s7 ⟨y, H7, I7, r7, y7, st7, fr7⟩ => ?_
      have I7' := I7.pinned (stat fr7) (T.obj _ _ st7)
      have hnl : (relabel scope X.env).names.lookup x = some .local := lookup_relabel_local c.xl
      refine wpAny_mono (pg_name (X := cxC X scope cl NC h3.objs.size fp { s2 with heap := h3, toks := s2.toks } (upd H2 D (.lst []))) (i := 0) (x := x) (pos := px) c.nd (by show NC[0]? = some x; rw [c.nc]; rfl) (.inl hnl) (.inr hnl) _ s7 _ H7 y u
        (fun σ' H' => σ' = some y :: caps σ idx ∧ H' = H7) I7' r7 ⟨rfl, rfl⟩) (fun _ s8 ⟨σ8, H8, I8, e8, e8'⟩ => ?_) fun _ _ z => z.elim
      subst e8 e8'
      refine wpAny_mono (ht _ _ _ _ _ s8 _ H8 _ I8 (step y H8 y7)) (fun bb s11 ⟨H11, I11, q11⟩ => ?_) fun _ _ z => z.elim
      have fin : ∀ {H12 : Hp} {s12 : Shared} {zs : List V} {m' : Nat}, Inv (cxC X scope cl NC h3.objs.size fp { s2 with heap := h3, toks := s2.toks } (upd H2 D (.lst []))) ([] ++ pinsAt fp s7.heap) (some y :: caps σ idx) H12 s12 → m' < n → W (i + 1) m' zs H12 →
          ∃ m, m < n ∧ ∃ i ys H' v0, Inv (cxC X scope cl NC h3.objs.size fp { s2 with heap := h3, toks := s2.toks } (upd H2 D (.lst []))) [] (v0 :: caps σ idx) H' s12 ∧ tn i s12.heap ∧ (∀ b ∈ fp, H' b = none) ∧ W i m ys H' := fun {H12 s12 zs m'} I12 hm w12 => by
        refine ⟨m', hm, i + 1, zs, _, some y, I12.unpinned, T.keep _ _ _ st7 fun b hb o e => (I12.pin (b, o) (List.mem_append_right _ (List.mem_append_right _ (mem_pinsAt hb e)))).1, fun b hb => ?_, w12⟩
        obtain ⟨o, e, d⟩ := T.obj _ _ st7 b hb
        exact (I12.pin (b, o) (List.mem_append_right _ (List.mem_append_right _ (mem_pinsAt hb e)))).2.1
      cases bb with
      | false =>
        obtain ⟨m', hm, w9⟩ := hN _ _ q11
        exact fin I11 hm w9
      | true =>
        refine wpAny_mono (he _ _ _ _ _ s11 _ H11 _ I11 q11) (fun w s9 ⟨v, H9, I9, r9, hD9, n9⟩ => ?_) fun _ _ z => z.elim
        obtain ⟨m', hm, w9⟩ := hN _ _ n9
        refine wpAny_mono (appended (X := (cxC X scope cl NC h3.objs.size fp { s2 with heap := h3, toks := s2.toks } (upd H2 D (.lst [])))) I9 hD9 hz r9) (fun _ s10 I10 => ?_) fun _ _ z => z.elim
        exact fin I10 hm w9
  exact codeAny_compStart_list (loop _ rfl) (T.self _ 0 _ _ _ st1 (loop _ rfl))
end
end L2
end
section
set_option Elab.async false
set_option linter.all false
set_option maxRecDepth 100000
set_option maxHeartbeats 4000000
namespace L2
open PySem PySem.Spec PyProof.Rows LX
/-! ### enumerate of a list, unpacked -/
def Ite (K : PySem.W.Frag) (a : Addr) : It :=
  ⟨fun i H => ∃ xs x, SqL K H a xs ∧ xs[i]? = some x, fun i H y H' => ∃ t x, H t = none ∧ y = .ref t ∧ (∀ xs, SqL K H a xs → xs[i]? = some x) ∧ H' = upd H t (.tup [.int (i : Int), x]), fun i H => ∃ xs, SqL K H a xs ∧ xs.length ≤ i⟩
theorem turn_enum {P : Program} {w : World} {K : PySem.W.Frag} {es : List Expr} {x1 : Nat} {pos : Pos} (a it e : Addr) (hne : e ≠ it) :
    Turn P w K (.Tuple es x1 pos) (Ite K a) [e, it] e (fun i h => ∃ old, IsEnum h e it i old ∧ h.IsListIter it a i) where
  mem := by simp
  obj := fun i h st b hb => by
    obtain ⟨old, h1, o, q, c, d⟩ := st
    rcases List.mem_cons.mp hb with z | z
    · rw [z]
      exact ⟨_, h1, fun v z => by
        have z' : Data.fields _ = Data.cell v := z
        cases z'⟩
    · rw [List.mem_singleton.mp z]
      exact ⟨o, q, fun v z => by rw [d] at z; cases z⟩
  keep := fun i h h' st k => by
    obtain ⟨old, h1, h2⟩ := st
    exact ⟨old, k e (by simp) _ h1, h2.at fun o q => k it (by simp) o q⟩
  item := by
    intro X hP hw hK hc i pins s σ H E I hf st hg
    subst hP hw hK
    obtain ⟨xs, x, hq, hx⟩ := hg
    obtain ⟨its, rv, p, hz⟩ := I.list hq
    obtain ⟨u, hu, ru⟩ := rv.get hx
    obtain ⟨old, he, hit⟩ := st
    have fr : H s.heap.objs.size = none := I.hok.fresh (Nat.le_refl _)
    refine wpAny_pyNext_enum_item he hit p.isList (x := u) (by simpa using hu) hne fun h1 heo hit1 ht1 hz1 hk1 => ⟨_, rfl, wpAny_letOwnedTupleGo_enum heo fun h2 he2 hs2 => ?_⟩
    replace hs2 : Heap.SameBut e h1 h2 := hs2
    have hel : e < s.heap.objs.size := Heap.lt_size he
    have k2 : ∀ b o, b ≠ e → b ≠ it → s.heap.get? b = some o → h2.get? b = some o := fun b o z1 z2 q => (hs2.2 b z1).trans (hk1 b o z1 z2 q)
    have ht2 : h2.get? s.heap.objs.size = some { cls := .type "tuple", data := .seq #[.int i s.toks, u] } := (hs2.2 _ (Nat.ne_of_gt hel)).trans ht1
    have hit2 : h2.IsListIter it a (i + 1) := hit1.extBut hs2.extBut (Ne.symm hne)
    have nt : ∀ b o, s.heap.get? b = some o → b ≠ s.heap.objs.size := fun b o q => Nat.ne_of_lt (Heap.lt_size q)
    have nh : ∀ b v, H b = some v → b ≠ s.heap.objs.size := fun b v q => ne_of_none q fr
    have ne' : ∀ b v, H b = some v → b ≠ e ∧ b ≠ it := fun b v q => ⟨ne_of_none q (hf e (by simp)).1, ne_of_none q (hf it (by simp)).1⟩
    refine ⟨.ref s.heap.objs.size, upd H s.heap.objs.size (.tup [.int (i : Int), x]), ?_, rfl, ⟨_, x, fr, rfl, fun ys hy => by rw [I.list_inj hy hq]; exact hx, rfl⟩, ⟨_, he2, hit2⟩, fun b hb => ?_⟩
    · refine Inv.step (s := s) (h' := h2) (t' := s.toks + 1) (H := H) (g' := s.gens) (d' := s.drawn) (ch := [e, it]) I (fun b hb => ⟨(hf b hb).2.2.2.1, (hf b hb).2.1, (hf b hb).2.2.2.2.1, (hf b hb).2.2.2.2.2⟩)
        (fun b o _ _ z q _ => k2 b o (fun y => z (by simp [y])) (fun y => z (by simp [y])) q) (fun b o _ _ z q _ => ⟨o.slots, k2 b o (fun y => z (by simp [y])) (fun y => z (by simp [y])) q⟩)
        (fun b o _ q n => by rw [upd_ne (nt b o q)]; exact n) (fun b o z q => ⟨o, k2 b o (fun y => z (by simp [y])) (fun y => z (by simp [y])) q⟩)
        (fun b xs q => by rw [upd_ne (nh b _ q)]; exact q) (fun b o v q => by rw [upd_ne (nh b _ q)]; exact q) (fun b ps q => ⟨#[], by rw [upd_ne (nh b _ q), q]; simp⟩) (fun m hm => ?_) (fun b v q => ?_) I.bare
      · obtain ⟨o, es', ep, ho, r⟩ := hm
        exact ⟨o, es', ep, k2 _ o (Ne.symm (hf e (by simp)).2.1) (Ne.symm (hf it (by simp)).2.1) ho, r⟩
      · by_cases z : b = s.heap.objs.size
        · subst z
          rw [upd_same] at q
          cases q
          exact ⟨by show 2 ≤ sizeLine; decide, [.int i s.toks, u], .cons ⟨_, rfl⟩ (.cons ru .nil), _, ht2, rfl, _, rfl⟩
        · rw [upd_ne z] at q
          refine (I.hok b v q).stay (fun c o hc w => ?_) (fun c w => by rw [upd_ne (nh c _ w)]; exact w) fun c xs w => by rw [upd_ne (nh c _ w)]; exact w
          rcases hc with y | y
          · rw [y] at w ⊢
            exact k2 b o (ne' b v q).1 (ne' b v q).2 w
          · exact k2 c o (ne' c _ y).1 (ne' c _ y).2 w
    · have hb' : b < s.heap.objs.size := by
        rcases List.mem_cons.mp hb with z | z
        · rw [z]; exact hel
        · rw [List.mem_singleton.mp z]
          obtain ⟨o, q, _⟩ := hit
          exact Heap.lt_size q
      rw [upd_ne (Nat.ne_of_lt hb')]
      exact (hf b hb).1
  done := by
    intro X hP hw hK hc i pins s σ H E I hf st hg
    subst hP hw hK
    obtain ⟨xs, hq, hx⟩ := hg
    obtain ⟨its, rv, p, hz⟩ := I.list hq
    obtain ⟨f0, f1, f2, f3, f4, f5⟩ := hf it (by simp)
    have hl := rv.length
    obtain ⟨old, he, hit⟩ := st
    exact wpAny_pyNext_enum_end (I.ok.hd hc) he hit p.isList (by simp; omega) fun h' eb => ⟨rfl, I.turned (t' := s.toks) (fun b o hb q => eb b o hb q) f0 f1 f3 f4 f5⟩
  self := fun A i s Q E st h => by
    obtain ⟨old, he, hit⟩ := st
    exact wpAny_pyIter_enum he h
section
variable {X : Cx} {es : List Expr} {x1 : Nat} {tp : Pos}
def iEnum (K : PySem.W.Frag) (ta : TA) : TI := fun σ H R => ta σ H fun vs H1 => ∃ a, vs = [.ref a] ∧ (∃ xs, SqL K H1 a xs) ∧ R (Ite K a) H1
theorem pi_enum {a : Expr} {ta : TA} {p pos : Pos} (hg : Gl X "enumerate") (hm : X.mg "enumerate" = none) (ha : PA X [a] ta) (hs : starEach [a] X.env = [(false, eval a X.env)] := by rfl) : PI X (.Tuple es x1 tp) (.Call (.Name "enumerate" p) [a] [] pos) (iEnum X.K ta) := by
  intro pins s σ H R I h
  refine Call_ (ld_blt I hg hm PyProof.Rows.Boot.«enumerate» (PyProof.Rows.callWith_type1 (thn (ha pos pins s σ H _ I h) fun us s1 ⟨vs, H1, I1, r1, q1⟩ => ?_) hs rfl))
  obtain ⟨l, e, ⟨xs, hq⟩, q⟩ := q1
  subst e
  cases r1 with
  | cons r rr =>
    cases rr
    cases r
    obtain ⟨its, rv, pl, hz⟩ := I1.list hq
    refine call_enumerate_list pl.isList fun h' he hit hsz hk => ?_
    refine wpAny_pyIter_enum he ?_
    refine ⟨s1.heap.objs.size + 1, [s1.heap.objs.size + 1, s1.heap.objs.size], _, _, H1, rfl, I1.kept (t' := s1.toks) hk, turn_enum l s1.heap.objs.size (s1.heap.objs.size + 1) (Nat.succ_ne_self _), ⟨_, he, hit⟩, fun b hb => ?_, q⟩
    have hb' : s1.heap.objs.size ≤ b := by
      rcases List.mem_cons.mp hb with z | z
      · rw [z]; exact Nat.le_succ _
      · rw [List.mem_singleton.mp z]
        exact Nat.le_refl _
    exact I1.fpOk hb' (I1.hok.fresh hb')
end
/-- over a list that the body leaves as it is, by pairs -/
theorem for_enum {K : PySem.W.Frag} {a : Addr} {xs : List V} {g : TG} {tb : TS} {D : Ends} {σ : St} {H : Hp} (Pv : Nat → St → Hp → Prop) (h0 : Pv 0 σ H) (hl : ∀ i σ H, i ≤ xs.length → Pv i σ H → SqL K H a xs)
    (hs : ∀ i x σ H t, xs[i]? = some x → Pv i σ H → H t = none → g (.ref t) σ (upd H t (.tup [.int (i : Int), x])) fun σ2 H2 => tb { D with nx := Pv (i + 1), ct := Pv (i + 1), bk := D.nx } σ2 H2) (hd : ∀ σ H, Pv xs.length σ H → D.nx σ H) :
    ∃ W : Nat → Nat → St → Hp → Prop, (∃ m, W 0 m σ H) ∧ ∀ i m σ H, W i m σ H →
      ((Ite K a).stop i H ∧ D.nx σ H) ∨ ((Ite K a).go i H ∧ ∃ N : St → Hp → Prop, (∀ σ' H', N σ' H' → ∃ m', m' < m ∧ W (i + 1) m' σ' H') ∧ ∀ x H', (Ite K a).yld i H x H' → g x σ H' fun σ2 H2 => tb { D with nx := N, ct := N, bk := D.nx } σ2 H2) := by
  refine ⟨fun i m σ H => m = xs.length - i ∧ i ≤ xs.length ∧ Pv i σ H, ⟨xs.length, by simp, Nat.zero_le _, h0⟩, ?_⟩
  rintro i m σ H ⟨rfl, hi, p⟩
  by_cases hlt : i < xs.length
  · refine .inr ⟨⟨xs, xs[i], hl i σ H hi p, List.getElem?_eq_getElem hlt⟩, Pv (i + 1), fun σ' H' p' => ⟨xs.length - (i + 1), by omega, rfl, hlt, p'⟩, fun x H' y => ?_⟩
    obtain ⟨t, v, e1, e2, e3, e4⟩ := y
    subst e2 e4
    exact hs i v σ H t (e3 xs (hl i σ H hi p)) p e1
  · have e : i = xs.length := by omega
    subst e
    exact .inl ⟨⟨xs, hl _ σ H hi p, Nat.le_refl _⟩, hd σ H p⟩
end L2
namespace L2
open PySem
theorem comp_range {lo : Int} {n : Nat} {te : TE} {Q : VK} {D : Addr} {τ : St} {H : Hp} (Pv : Nat → List V → Hp → Prop) (h0 : Pv 0 [] H) (hD : ∀ i ys H, i ≤ n → Pv i ys H → H D = some (.lst ys) ∧ ys.length = i) (hn : n ≤ sizeLine)
    (hs : ∀ i ys H, i < n → Pv i ys H → te (some (.int (lo + i)) :: τ) H fun v H4 => H4 D = some (.lst ys) ∧ Pv (i + 1) (ys ++ [v]) (upd H4 D (.lst (ys ++ [v])))) (hd : ∀ ys H, Pv n ys H → Q (.ref D) H) : CompTo (Itr lo n) D τ te Q H := by
  refine ⟨fun i m ys H => m = n - i ∧ i ≤ n ∧ Pv i ys H, ⟨n, by simp, Nat.zero_le _, h0⟩, ?_⟩
  rintro i m ys H2 ⟨rfl, hi, p⟩
  obtain ⟨hd1, hd2⟩ := hD i ys H2 hi p
  refine ⟨hd1, ?_⟩
  by_cases hlt : i < n
  · refine .inr ⟨hlt, by omega, Pv (i + 1), fun zs H' p' => ⟨n - (i + 1), by omega, rfl, hlt, p'⟩, fun y H3 e => ?_⟩
    obtain ⟨e1, e2⟩ := e
    subst e1 e2
    exact hs i ys _ hlt p
  · have e : i = n := by omega
    subst e
    exact .inl ⟨Nat.le_refl _, hd ys H2 p⟩
theorem comp_list {K : PySem.W.Frag} {a : Addr} {xs : List V} {te : TE} {Q : VK} {D : Addr} {τ : St} {H : Hp} (Pv : Nat → List V → Hp → Prop) (h0 : Pv 0 [] H) (hD : ∀ i ys H, i ≤ xs.length → Pv i ys H → H D = some (.lst ys) ∧ ys.length = i) (hl : ∀ i ys H, i ≤ xs.length → Pv i ys H → SqL K H a xs) (hn : xs.length ≤ sizeLine)
    (hs : ∀ i x ys H, xs[i]? = some x → Pv i ys H → te (some x :: τ) H fun v H4 => H4 D = some (.lst ys) ∧ Pv (i + 1) (ys ++ [v]) (upd H4 D (.lst (ys ++ [v])))) (hd : ∀ ys H, Pv xs.length ys H → Q (.ref D) H) : CompTo (Itl K a) D τ te Q H := by
  refine ⟨fun i m ys H => m = xs.length - i ∧ i ≤ xs.length ∧ Pv i ys H, ⟨xs.length, by simp, Nat.zero_le _, h0⟩, ?_⟩
  rintro i m ys H2 ⟨rfl, hi, p⟩
  obtain ⟨hd1, hd2⟩ := hD i ys H2 hi p
  refine ⟨hd1, ?_⟩
  by_cases hlt : i < xs.length
  · refine .inr ⟨⟨xs, xs[i], hl i ys H2 hi p, List.getElem?_eq_getElem hlt⟩, by omega, Pv (i + 1), fun zs H' p' => ⟨xs.length - (i + 1), by omega, rfl, hlt, p'⟩, fun y H3 e => ?_⟩
    obtain ⟨e1, e2⟩ := e
    subst e1
    exact hs i y ys _ (e2 xs (hl i ys _ hi p)) p
  · have e : i = xs.length := by omega
    subst e
    exact .inl ⟨⟨xs, hl _ ys H2 hi p, Nat.le_refl _⟩, hd ys H2 p⟩
end L2
end
section
set_option Elab.async false
set_option linter.all false
set_option maxRecDepth 100000
set_option maxHeartbeats 4000000
namespace L2
open PySem PySem.Spec PyProof.Rows LX
/-! ### CompOk by what can be looked up -/
def relN (sc : Scope) (names : List (Str × NameKind)) : List (Str × NameKind) := names.map fun (n, k) => if (k == .free && sc.kind == .function && sc.names.lookup n == some .cell) then (n, .cell) else (n, k)
def CompP (sc scope : Scope) (x : Str) (ns N : List Str) (idx : List Nat) : Prop :=
  (∀ y ∈ scope.names, y.2 ≠ .cell) ∧ (∀ y ∈ scope.names, y.2 = .local → scope.names.lookup y.1 = some .local) ∧ scope.names.lookup x = some .local ∧ (∀ p ∈ relN sc scope.names, p.2 = .cell ∨ p.2 = .free → p.1 ∈ ns) ∧ (x :: idx.map fun i => N.getD i x).Nodup ∧
  ∀ i ∈ idx, i < N.length ∧ ((sc.names.lookup (N.getD i x) = some .cell ∨ sc.names.lookup (N.getD i x) = some .free) ∧ ((relN sc scope.names).lookup (N.getD i x) = some .cell ∨ (relN sc scope.names).lookup (N.getD i x) = some .free))
instance (sc scope : Scope) (x : Str) (ns N : List Str) (idx : List Nat) : Decidable (CompP sc scope x ns N idx) := by unfold CompP; infer_instance
theorem some_of_mem {y : Str} : ∀ {cl : List (Str × Addr)}, y ∈ cl.map (·.1) → ∃ c, cl.lookup y = some c
  | [], h => by simp at h
  | (n, c) :: r, h => by
    by_cases e : y = n
    · exact ⟨c, by simp [List.lookup, e]⟩
    · have h' : y ∈ r.map (·.1) := by
        rw [List.map_cons] at h
        rcases List.mem_cons.mp h with z | z
        · exact absurd z e
        · exact z
      obtain ⟨c', q⟩ := some_of_mem h'
      have hb : (y == n) = false := beq_eq_false_iff_ne.mpr e
      exact ⟨c', by simp only [List.lookup, hb]; exact q⟩
theorem comp_ok {X : Cx} {sc scope : Scope} {cl : List (Str × Addr)} {x : Str} {ns N : List Str} {idx : List Nat} (hsc : X.env.scope = sc) (hN : X.N = N) (hk : scope.kind = .function) (p : CompP sc scope x ns N idx) (hn : cl.map (·.1) = ns)
    (hclos : closureFor scope X.env = pure cl) (hsub : ∀ q ∈ cl, X.env.cells.lookup q.1 = some q.2) : CompOk X scope cl x idx (x :: idx.map fun i => N.getD i x) := by
  obtain ⟨p1, p2, p3, p4, p5, p6⟩ := p
  have re : (relabel scope X.env).names = relN sc scope.names := by subst hsc; rfl
  subst hsc hN hn
  refine ⟨hclos, fun y c q => hsub (y, c) (PySem.mem_of_lookup q), fun y h => ?_, p1, hk, p2, p3, rfl, p5, fun i hi => ?_⟩
  · rw [re] at h
    refine some_of_mem ?_
    rcases h with h | h
    · exact p4 (y, .cell) (PySem.mem_of_lookup h) (.inl rfl)
    · exact p4 (y, .free) (PySem.mem_of_lookup h) (.inr rfl)
  · rw [re]
    exact p6 i hi
/-- a call out of which nothing comes -/
theorem passF {P : Program} {w : World} {X : Cx} : PassesX (CXE P w) X (fun _ _ _ _ => False) := fun _ _ _ _ _ _ _ ⟨_, _, _, _, _, _, _, _, _, q⟩ => q.elim
end L2
end
section
set_option Elab.async false
set_option linter.all false
set_option maxRecDepth 100000
set_option maxHeartbeats 4000000
namespace L2
open PySem PySem.Spec PyProof.Rows LX
section
variable {X : Cx} {scope : Scope} {cl : List (Str × Addr)} {x : Str} {idx : List Nat} {NC : List Str} {pins : List (Addr × Obj)} {σ : St} {H : Hp} {s : Shared}
/-! ### name = [comprehension]: the store comes ahead of the going of the block's names -/
theorem ps_comp {i : Nat} {y : Str} {elt iter : Expr} {px py pos spos : Pos} {wi : TI} {te : TE} (hN : X.N.Nodup) (hi' : X.N[i]? = some y) (hx : X.env.scope.names.lookup y = some .local) (c : CompOk X scope cl x idx NC) (hc : X.calm = true) (hi : PI X (.Name x px) iter wi)
    (he : ∀ C fp s₀ H₀, PE (cxC X scope cl NC C fp s₀ H₀) elt te) (hsw : swapsWith (.ListComp elt [⟨.Name x px, iter, [], 0⟩] scope pos) (some (.Name y py)) spos.line X.env = pure true := by rfl)
    (hs : ∀ x, foldedSetIterable iter X.env x = pure x := by intro _; rfl) : PS X (.Assign [.Name y py] (.ListComp elt [⟨.Name x px, iter, [], 0⟩] scope pos) spos) (tAsg (tComp wi idx te) (gName i)) := by
  intro pins s σ H D0 I h
  rw [exec_Assign_Name_used _ _ _ _ hsw]
  refine wpAny_bind (wpAny_standAt (wpAny_bind ?_))
  show wpAny _ _ (do let _ ← comprehension (.ListComp elt [⟨.Name x px, iter, [], 0⟩] scope pos) scope X.env _ (newList []) false (eval iter X.env) (some (assign (.Name y py) X.env))) _ _ s
  refine wpAny_bind (wpAny_mono (wpAny_comprehension_free (use := some (assign (.Name y py) X.env)) (Q := fun _ s' => SP X pins D0 .next s') rfl hs c.clos c.kind c.loc
    (thn (hi pins s σ H _ I h) fun v s1 h1 => thn h1 fun itv s2 h2 => ?_)) (fun _ s' hq => wpAny_pure (wpAny_pure hq)) fun _ _ e => e)
  obtain ⟨it, fp, tn, J, H2, rfl, I2, T, st2, f2, q⟩ := h2
  refine wpAny_newObj_type (wpAny_newFunctionEnv c.nocell (by intro y hy; simp at hy) (fun h₁ hns₁ hsb₁ => ?_) c.kind)
  dsimp only at hns₁ hsb₁ ⊢
  have I3 : Inv X pins σ (upd H2 s2.heap.objs.size (.lst [])) { s2 with heap := s2.heap.push { cls := .type "list", data := .seq ([] : List Value).toArray }, toks := s2.toks } := I2.lnew (ys := []) (its := []) .nil (Nat.zero_le _)
  obtain ⟨W, ⟨m0, w0⟩, turn⟩ := q s2.heap.objs.size I2.fresh
  generalize hD : s2.heap.objs.size = D at *
  generalize hH : s2.heap.push { cls := .type "list", data := .seq ([] : List Value).toArray } = h3 at *
  have hlt2 : ∀ b ∈ fp, b < D := fun b hb => by
    obtain ⟨o, e, _⟩ := T.obj _ _ st2 b hb
    rw [← hD]
    exact Heap.lt_size e
  have hlt : ∀ b ∈ fp, b < h3.objs.size := fun b hb => by
    rw [← hH, Heap.size_push, hD]
    exact Nat.lt_succ_of_lt (hlt2 b hb)
  have hf : ∀ b ∈ fp, FpOk X pins (upd H2 D (.lst [])) b := fun b hb => ⟨by rw [upd_ne (Nat.ne_of_lt (hlt2 b hb))]; exact (f2 b hb).1, (f2 b hb).2⟩
  have kp : ∀ b o, h3.get? b = some o → h₁.get? b = some o := fun b o e => hsb₁.extBut b o (Nat.ne_of_lt (Heap.lt_size e)) (Heap.get?_push_of_some _ e)
  have I4 : Inv (cxC X scope cl NC h3.objs.size fp { s2 with heap := h3, toks := s2.toks } (upd H2 D (.lst []))) [] (none :: caps σ idx) (upd H2 D (.lst [])) { s2 with heap := h₁, toks := s2.toks + ([] : List (Str × Value)).length } :=
    inv_comp (s := { s2 with heap := h3, toks := s2.toks }) c I3 hf hlt hns₁ kp
  have stat : ∀ {H' : Hp}, (∀ b ∈ fp, H' b = none) → ∀ b ∈ fp, FpOk (cxC X scope cl NC h3.objs.size fp { s2 with heap := h3, toks := s2.toks } (upd H2 D (.lst []))) [] H' b := fun hn b hb =>
    ⟨hn b hb, Nat.ne_of_lt (hlt b hb), fun z => (List.mem_cons.mp (I3.stkSub b z)).elim (hf b hb).2.1 (hf b hb).2.2.1, .inl hb, fun y a q => (hf b hb).2.2.2.2.1 y a (c.sub _ _ q), fun p hp => (by cases hp)⟩
  have st1 : tn 0 h₁ := T.keep 0 _ _ st2 fun b hb o e => kp b o (by rw [← hH]; exact Heap.get?_push_of_some _ e)
  have loop : ∀ s4 : Shared, s4 = { s2 with heap := h₁, toks := s2.toks + ([] : List (Str × Value)).length } →
      codeAny (model X.prog X.w) X.A (.compLoop (.ListComp elt [⟨.Name x px, iter, [], 0⟩] scope pos) 0 (.ref it) (.ref D) (compEnvC scope cl h3.objs.size X.env)) (compPost (model X.prog X.w) X.A X.xe (some (assign (.Name y py) X.env)) (fun _ s' => SP X pins D0 .next s') (.ref D) h3.objs.size) s4 := by
    rintro s4 rfl
    refine compLoop_any (fun n s' => ∃ i ys H' v0, Inv (cxC X scope cl NC h3.objs.size fp { s2 with heap := h3, toks := s2.toks } (upd H2 D (.lst []))) [] (v0 :: caps σ idx) H' s' ∧ tn i s'.heap ∧ (∀ b ∈ fp, H' b = none) ∧ W i n ys H')
      ?_ m0 ⟨0, [], _, none, I4, st1, fun b hb => (hf b hb).1, w0⟩
    rintro n s5 ⟨i5, ys, H5, v0, I5, st5, fr5, w5⟩
    obtain ⟨hDl, alt⟩ := turn i5 n ys H5 w5
    rcases alt with ⟨stop, qn⟩ | ⟨go, hz, N, hN', step⟩
    · refine thn (T.done (cxC X scope cl NC h3.objs.size fp { s2 with heap := h3, toks := s2.toks } (upd H2 D (.lst []))) rfl rfl rfl hc i5 [] s5 _ H5 _ I5 (stat fr5) st5 stop) fun r s6 ⟨hr, I6⟩ => ?_
      subst hr
      obtain ⟨m, ns6, _⟩ := id I6.loc
      have J6 : Inv X pins σ H5 s6 := I3.call' (ch := fp) I6.os I6.base I6.hok I6.bare fun b hb => ⟨(hf b hb).2.2.2.1, (hf b hb).2.1, (hf b hb).2.2.2.2.1, (hf b hb).2.2.2.2.2⟩
      have fC : FpOk X pins H5 h3.objs.size := I3.fpOk (Nat.le_refl _) I6.free
      obtain ⟨o, es, ep, ho, rr⟩ := ns6
      have od : ∀ v, o.data ≠ .cell v := fun v z => by
        rw [rr.1] at z
        cases z
      show wpAny _ _ (assign (.Name y py) X.env (.ref D)) (fun _ s'' => ∃ m, s''.heap.Ns h3.objs.size m ∧ ∀ h', Heap.SameBut h3.objs.size s''.heap h' → SP X pins D0 .next { s'' with heap := h' }) X.xe s6
      have J7 := J6.pinned (fp := [h3.objs.size]) (fun b hb => by rw [List.mem_singleton.mp hb]; exact fC) (fun b hb => by rw [List.mem_singleton.mp hb]; exact ⟨o, ho, od⟩)
      refine wpAny_mono (pg_name (pos := py) hN hi' (.inl hx) (.inr hx) _ s6 _ H5 (.ref D) (.ref D) D0.nx J7 rfl qn) (fun _ s7 ⟨σ7, H7, I7, q7⟩ => ?_) (fun _ _ z => z)
      have pC := I7.pin (h3.objs.size, o) (List.mem_append_right _ (List.mem_append_right _ (mem_pinsAt (List.mem_singleton.mpr rfl) ho)))
      refine ⟨m, ⟨o, es, ep, pC.1, rr⟩, fun h' hs' => ⟨σ7, H7, ?_, q7⟩⟩
      exact I7.unpinned.turned (t' := s7.toks) (it := h3.objs.size) (fun b o hb e => hs'.extBut b o hb e) pC.2.1 fC.2.1 fC.2.2.2.1 fC.2.2.2.2.1 fC.2.2.2.2.2
    · refine thn (T.item (cxC X scope cl NC h3.objs.size fp { s2 with heap := h3, toks := s2.toks } (upd H2 D (.lst []))) rfl rfl rfl hc i5 [] s5 _ H5 _ I5 (stat fr5) st5 go) fun r s6 ⟨u, hr, h6⟩ => ?_
      subst hr
      refine thn h6 fun _ s7 ⟨y, H7, I7, r7, y7, st7, fr7⟩ => ?_
      have I7' := I7.pinned (stat fr7) (T.obj _ _ st7)
      have hnl : (relabel scope X.env).names.lookup x = some .local := lookup_relabel_local c.xl
      refine wpAny_mono (pg_name (X := cxC X scope cl NC h3.objs.size fp { s2 with heap := h3, toks := s2.toks } (upd H2 D (.lst []))) (i := 0) (x := x) (pos := px) c.nd (by show NC[0]? = some x; rw [c.nc]; rfl) (.inl hnl) (.inr hnl) _ s7 _ H7 y u
        (fun σ' H' => σ' = some y :: caps σ idx ∧ H' = H7) I7' r7 ⟨rfl, rfl⟩) (fun _ s8 ⟨σ8, H8, I8, e8, e8'⟩ => ?_) fun _ _ z => z.elim
      subst e8 e8'
      refine wpAny_mono (he _ _ _ _ _ s8 _ H8 _ I8 (step y H8 y7)) (fun w s9 ⟨v, H9, I9, r9, hD9, n9⟩ => ?_) fun _ _ z => z.elim
      obtain ⟨m', hm, w9⟩ := hN' _ _ n9
      refine wpAny_mono (appended (X := (cxC X scope cl NC h3.objs.size fp { s2 with heap := h3, toks := s2.toks } (upd H2 D (.lst [])))) I9 hD9 hz r9) (fun _ s10 I10 => ?_) fun _ _ z => z.elim
      refine ⟨m', hm, i5 + 1, ys ++ [v], _, some y, I10.unpinned, T.keep _ _ _ st7 fun b hb o e => (I10.pin (b, o) (List.mem_append_right _ (List.mem_append_right _ (mem_pinsAt hb e)))).1, fun b hb => ?_, w9⟩
      obtain ⟨o, e, d⟩ := T.obj _ _ st7 b hb
      exact (I10.pin (b, o) (List.mem_append_right _ (List.mem_append_right _ (mem_pinsAt hb e)))).2.1
  exact codeAny_compStart_list (loop _ rfl) (T.self _ 0 _ _ _ st1 (loop _ rfl))
/-! ### != of two lists of flat items, as long as one another -/
def rNeL (K : PySem.W.Frag) : R2 := fun x y H Q => ∃ a b xs ys, x = .ref a ∧ y = .ref b ∧ SqL K H a xs ∧ SqL K H b ys ∧ xs.length = ys.length ∧ xs.all flatV = true ∧ ys.all flatV = true ∧ Q (.bl (!eqAll xs ys)) H
theorem op_neL {X : Cx} (hu : X.A.units < cLine) : OpR X (compareOp .NotEq) (rNeL X.K) := by
  intro pins s σ H x y v u Q I rx ry h
  obtain ⟨a, b, xs, ys, rfl, rfl, ha, hb, hl, fx, fy, q⟩ := h
  cases rx
  cases ry
  obtain ⟨vs, r1, ⟨o1, n1, e1, c1, _, g1⟩, _⟩ := I.list ha
  obtain ⟨ws, r2, ⟨o2, n2, e2, c2, _, g2⟩, _⟩ := I.list hb
  have l1 := r1.length
  have l2 := r2.length
  refine SeqAt.RcNeAt.lists (e := fun j => eqV (xs.getD j .non) (ys.getD j .non)) ⟨o1, e1, c1, n1, g1⟩ ⟨o2, e2, c2, n2, g2⟩ (by simp only [List.size_toArray]; omega) hu (fun j h1 h2 => ?_) _ _ _ _ ⟨.bl _, H, I, rfl, ?_⟩
  · simp only [List.size_toArray] at h1 h2
    obtain ⟨w1, z1, rz1⟩ := r1.get (i := j) (x := xs[j]'(by omega)) (List.getElem?_eq_getElem (by omega))
    obtain ⟨w2, z2, rz2⟩ := r2.get (i := j) (x := ys[j]'(by omega)) (List.getElem?_eq_getElem (by omega))
    have a1 : vs.toArray[j] = w1 := by
      have := (List.getElem?_eq_some_iff.mp z1).2
      simpa using this
    have a2 : ws.toArray[j] = w2 := by
      have := (List.getElem?_eq_some_iff.mp z2).2
      simpa using this
    rw [a1, a2]
    have d1 : xs.getD j .non = xs[j]'(by omega) := by simp [List.getD, List.getElem?_eq_getElem (show j < xs.length by omega)]
    have d2 : ys.getD j .non = ys[j]'(by omega) := by simp [List.getD, List.getElem?_eq_getElem (show j < ys.length by omega)]
    show SeqAt.EqAt _ _ _ _ (eqV (xs.getD j .non) (ys.getD j .non))
    rw [d1, d2]
    exact eqAt_V rz1 rz2 (List.all_eq_true.mp fx _ (List.getElem_mem _)) (List.all_eq_true.mp fy _ (List.getElem_mem _))
  · have : vs.toArray.size = xs.length := by simp only [List.size_toArray]; omega
    rw [this]
    exact q
/-! ### sum of a list of numbers -/
theorem ints_of : ∀ {ns : List Int} {us : List Value}, Vals (ns.map V.int) us → ∃ ps : List (Int × Tok), us = ps.map (fun p => Value.int p.1 p.2)
  | [], _, .nil => ⟨[], rfl⟩
  | n :: r, _, .cons h t => by
    obtain ⟨k, rfl⟩ := h
    obtain ⟨ps, e⟩ := ints_of t
    exact ⟨(n, k) :: ps, by rw [e]; rfl⟩
def rSum (K : PySem.W.Frag) : List V → Hp → VK → Prop := fun vs H Q => ∃ (p : Addr) (ns : List Int), vs = [.ref p] ∧ SqL K H p (ns.map V.int) ∧ ∀ n : Int, Q (.int n) H
theorem call_sum (hc : X.calm = true) : CallR X (.builtin "sum") (rSum X.K) := by
  rintro pins s σ H xs us Q I r ⟨p, ns, rfl, hq, q⟩
  obtain ⟨u, rfl, ru⟩ := r.one
  cases (show u = Value.ref p from ru)
  obtain ⟨its, rv, ⟨o, n, e1, e2, e3, e4⟩, hz⟩ := I.list hq
  obtain ⟨ps, e⟩ := ints_of rv
  have hl : s.heap.IsList p (intItems ps.toArray) := by
    refine ⟨o, e1, e2, n, ?_⟩
    rw [e4, e]
    simp [intItems]
  exact sum_intListG (I.ok.hd hc) hl fun h' tk t' hk => ⟨.int _, H, I.kept (t' := tk) hk, ⟨_, rfl⟩, q _⟩
/-! ### isinstance with a tuple of classes -/
theorem cls_of : ∀ {cs : List V} {its : List Value}, Vals cs its → (∀ c ∈ cs, ∃ a, c = .ref a) → its = cs.map clsV
  | [], _, .nil, _ => rfl
  | c :: r, _, .cons h t, hc => by
    obtain ⟨a, rfl⟩ := hc c (List.mem_cons_self ..)
    cases h
    rw [cls_of t fun d hd => hc d (List.mem_cons_of_mem _ hd)]
    rfl
def rIsiTup (K : PySem.W.Frag) : List V → Hp → VK → Prop := fun vs H Q => ∃ (k : Bool) (a C tp : Addr) (od : Option Addr) (cd : ClassData) (cs : List V) (b : Bool), vs = [.ref a, .ref tp] ∧ H a = some (exo k C a od) ∧ (od = none ∨ ∃ dx fs, od = some dx ∧ H dx = some (.xd fs)) ∧ XCls K C cd ∧ XGet K C ∧
  PySem.W.findIn K (.ref C) "__class__" = some (some (.builtin "object.__class__")) ∧ SqT K H tp cs ∧ (∀ c ∈ cs, ∃ a, c = .ref a) ∧ PySem.W.kitAny K (.ref C) (cs.map clsV) = some b ∧ Q (.bl b) H
theorem call_isiTup : CallR X (.builtin "isinstance") (rIsiTup X.K) := by
  rintro pins s σ H xs us Q I r ⟨k, a, C, tp, od, cd, cs, b, rfl, ea, hd, xc, g, hc, ht, hcs, e, q⟩
  obtain ⟨u, v, rfl, ru, rv⟩ := vals2 r
  cases (show v = Value.ref tp from rv)
  cases (show u = Value.ref a from ru)
  obtain ⟨its, rvs, ⟨⟨cls, dd, data, sl⟩, ho, hcl, n, hda⟩, hz⟩ := I.tuple ht
  simp only at hcl hda
  subst hcl hda
  rw [← cls_of rvs hcs] at e
  obtain ⟨ox, o, J⟩ := exo_inst I.hok ea hd
  exact PySem.W.kia_tup (kit_exc xc g hc) I.kIn ⟨ox, o, J⟩ ho e (fun z => nomatch z) fun tk => ⟨.bl b, H, I.tok tk, rfl, q⟩
end
end L2
end
section
set_option Elab.async false
set_option linter.all false
set_option maxRecDepth 100000
set_option maxHeartbeats 4000000
namespace L2
open PySem PySem.Spec PyProof.Rows LX
/-! ### sorted(x) of a list of numbers, of a dict whose keys are numbers -/
theorem ints_by : ∀ {us : List Value} {ks : List Int}, us.length = ks.length → (∀ (j : Nat) (v : Value), us[j]? = some v → ∃ t, v = Value.int (ks.getD j 0) t) → IntsAre us ks
  | [], [], _, _ => .nil
  | [], _ :: _, h, _ => by simp at h
  | _ :: _, [], h, _ => by simp at h
  | u :: us, k :: ks, h, f => by
    obtain ⟨t, e⟩ := f 0 u rfl
    subst e
    exact .cons k t (ints_by (by simpa using h) fun j v q => f (j + 1) v q)
section
variable {X : Cx}
def rSortL (K : PySem.W.Frag) : List V → Hp → VK → Prop := fun vs H Q => ∃ (p : Addr) (ns : List Int), vs = [.ref p] ∧ SqL K H p (ns.map V.int) ∧ ns.length < 64 ∧ ∀ (l : Addr) (ns' : List Int), H l = none → ns'.Perm ns → ns'.Pairwise (· ≤ ·) → Q (.ref l) (upd H l (.lst (ns'.map V.int)))
theorem call_sortedL : CallR X (.builtin "sorted") (rSortL X.K) := by
  rintro pins s σ H xs us Q I r ⟨p, ns, rfl, hq, h64, q⟩
  obtain ⟨u, rfl, ru⟩ := r.one
  cases (show u = Value.ref p from ru)
  obtain ⟨its, rv, pl, hz⟩ := I.list hq
  have hI := intsAre_of rv
  have hlen := rv.length
  rw [List.length_map] at hlen hz
  refine sorted_ints pl.isList hI (by omega) fun out ns' a1 a2 a3 => ?_
  obtain ⟨e, he⟩ := sortedAll_at s.heap its out
  refine ⟨.ref (s.heap.objs.size + 1), _, I.laid (a := s.heap.objs.size + 1) (o := .lst (ns'.map V.int)) (t' := s.toks) (fun _ _ => sortedAll_old) (Nat.le_succ _) ?_, rfl, q _ ns' (I.hok.fresh (Nat.le_succ _)) a2 a3⟩
  refine ⟨by rw [List.length_map, a2.length_eq]; exact hz, out.toList, e, vals_ints a1, ?_⟩
  rw [he]
/-- the keys, as numbers -/
def keyI : Key → Int
  | .inl k => k
  | .inr _ => 0
def rSortD : List V → Hp → VK → Prop := fun vs H Q => ∃ (p : Addr) (kvs : List (Key × V)) (ks : List Int), vs = [.ref p] ∧ H p = some (.dK kvs) ∧ kvs.map (·.1) = ks.map Sum.inl ∧ ks.length < 64 ∧
  ∀ (l : Addr) (ns' : List Int), H l = none → ns'.Perm ks → ns'.Pairwise (· ≤ ·) → Q (.ref l) (upd H l (.lst (ns'.map V.int)))
theorem dict_ints {P : Program} {w : World} {vs : List (Key × Value)} {ks : List Int} {acc : Array Value} (hk : vs.map (·.1) = ks.map Sum.inl) (ha : acc.size = vs.length) (h : ∀ (j : Nat) (v : Value), acc[j]? = some v → ∃ k x, vs[j]? = some (k, x) ∧ (mixKind P w).is k v = true) : IntsAre acc.toList ks := by
  have hl : vs.length = ks.length := by
    have := congrArg List.length hk
    simpa using this
  refine ints_by (by rw [Array.length_toList]; omega) fun j v e => ?_
  obtain ⟨k, x, h1, h2⟩ := h j v (by rw [← Array.getElem?_toList]; exact e)
  have h3 : (vs.map (·.1))[j]? = some k := by rw [List.getElem?_map, h1]; rfl
  rw [hk, List.getElem?_map] at h3
  obtain ⟨i, hi, rfl⟩ := Option.map_eq_some_iff.mp h3
  have h4 : keyIs (.inl i) v = true := h2
  rcases keyIs_shape h4 with ⟨i', t, e1, e2⟩ | ⟨y, t, e1, _⟩
  · injection e1 with e1
    subst e1
    exact ⟨t, by rw [e2]; simp [List.getD, hi]⟩
  · cases e1
theorem call_sortedD (hc : X.calm = true) : CallR X (.builtin "sorted") rSortD := by
  rintro pins s σ H xs us Q I r ⟨p, kvs, ks, rfl, hp, hk, h64, q⟩
  obtain ⟨u, rfl, ru⟩ := r.one
  cases (show u = Value.ref p from ru)
  obtain ⟨hz, hd, vs, rel, dd⟩ := dk_of I.hok hp
  obtain ⟨ep, hat⟩ := dd.dictAt
  have hh := I.ok.hd hc
  have hl : ks.length = kvs.length := by
    have := congrArg List.length hk
    simpa using this.symm
  refine Calls.call_function_entry kind_sorted plain_sorted entry_sorted (args_sorted1 _) ?_
  unfold Builtin.«sorted»
  refine wpAny_bind (m := checkCount "sorted" 1 1 _) (wpAny_pure ?_)
  refine wpAny_bind (PySem.W.kdu_collect (A := X.A.in1) (PySem.W.kdl_dict (knd := mixKind X.prog X.w) (kvs := vs) (ep := ep) hd) hh hat (by rw [← rel.length]; exact hz) fun h' tk acc hkp hacc => ?_)
  have hI : IntsAre acc.toList ks := dict_ints (by rw [← rel.keys]; exact hk) hacc.1 hacc.2
  have hlen := hI.length
  have I1 : Inv X pins σ H { s with heap := h', toks := tk } := I.kept (t' := tk) hkp
  refine wpAny_bind (wpAny_newList ?_)
  have hoL : (h'.push (seqObj "list" acc.toList.toArray 0)).get? h'.objs.size = some (seqObj "list" acc.toList.toArray 0) := Heap.get?_push_size _ rfl
  show wpAny _ _ _ _ _ { s with heap := h'.push (seqObj "list" acc.toList.toArray 0), toks := tk }
  refine wpAny_bind (wpAny_holding (wpAny_call_entry slot_list_sort ⟨_, hoL, rfl⟩ entry_list_sort (list_sort_tree hoL hI (by omega) fun out ns' a1 a2 a3 => ⟨_, rfl, ?_⟩) (args_list_sort _)))
  refine wpAny_pure ⟨_, rfl, ?_⟩
  obtain ⟨e, he⟩ := sortedHeap_at (out := out) hoL
  refine ⟨.ref h'.objs.size, _, I1.laid (a := h'.objs.size) (o := .lst (ns'.map V.int)) (t' := tk) (fun b o hb => ?_) (Nat.le_refl _) ?_, rfl, q _ ns' (I1.hok.fresh (Nat.le_refl _)) a2 a3⟩
  · have hlt := Heap.lt_size hb
    rw [sortedHeap_old (Nat.ne_of_lt hlt) (by rw [size_push']; exact Nat.lt_succ_of_lt hlt), Heap.get?_push_ne _ _ _ (Nat.ne_of_lt hlt)]
    exact hb
  · refine ⟨by rw [List.length_map, a2.length_eq, hl]; exact hz, out.toList, e, vals_ints a1, ?_⟩
    rw [he]
end
/-- two rising orders of the same numbers are one -/
theorem rising_eq {xs ys : List Int} (p : xs.Perm ys) (hx : xs.Pairwise (· ≤ ·)) (hy : ys.Pairwise (· ≤ ·)) : xs = ys :=
  p.eq_of_pairwise (fun a b _ _ h1 h2 => Int.le_antisymm h1 h2) hx hy
/-! ### ==, != of things that are the same through and through -/
inductive Deep (K : PySem.W.Frag) (H : Hp) : Nat → V → V → Prop
  | flat {n : Nat} {x : V} : flatV x = true → Deep K H n x x
  | lst {n : Nat} {a b : Addr} {xs ys : List V} : SqL K H a xs → SqL K H b ys → xs.length = ys.length → (∀ j (h1 : j < xs.length) (h2 : j < ys.length), Deep K H n xs[j] ys[j]) → Deep K H (n + 1) (.ref a) (.ref b)
  | tup {n : Nat} {a b : Addr} {xs ys : List V} : SqT K H a xs → SqT K H b ys → xs.length = ys.length → (∀ j (h1 : j < xs.length) (h2 : j < ys.length), Deep K H n xs[j] ys[j]) → Deep K H (n + 1) (.ref a) (.ref b)
theorem eqV_id {v : V} (h : flatV v = true) : eqV v v = true := by
  cases v with
  | non => rfl
  | bl b => cases b <;> rfl
  | int n => simp [eqV]
  | str z => simp [eqV]
  | _ => exact absurd (show false = true from h) Bool.false_ne_true
theorem all_true (l : List Nat) : (l.all fun _ => true) = true := List.all_eq_true.mpr fun _ _ => rfl
theorem Deep.eqAt {X : Cx} {pins : List (Addr × Obj)} {σ : St} {H : Hp} {s : Shared} (I : Inv X pins σ H s) {n : Nat} {x y : V} (d : Deep X.K H n x y) : ∀ {A : Around} {u v : Value}, RelV x u → RelV y v → A.units + n < cLine → SeqAt.EqAt A s u v true := by
  induction d with
  | flat h =>
    intro A u v rx ry hu
    have := eqAt_V (A := A) (s := s) rx ry h h
    rw [eqV_id h] at this
    exact this
  | @lst n a b xs ys ha hb hl hd ih =>
    intro A u v rx ry hu
    cases rx
    cases ry
    by_cases e : a = b
    · subst e
      exact SeqAt.EqAt.same _
    · refine SeqAt.EqAt.of_refs e ?_
      obtain ⟨vs, r1, ⟨o1, n1, e1, c1, _, g1⟩, _⟩ := I.list ha
      obtain ⟨ws, r2, ⟨o2, n2, e2, c2, _, g2⟩, _⟩ := I.list hb
      have l1 := r1.length
      have l2 := r2.length
      have := SeqAt.RcAt.lists (A := A) (s := s) (e := fun _ => true) ⟨o1, e1, c1, n1, g1⟩ ⟨o2, e2, c2, n2, g2⟩ (by simp only [List.size_toArray]; omega) (by omega) (fun j h1 h2 => by
        simp only [List.size_toArray] at h1 h2
        obtain ⟨w1, z1, rz1⟩ := r1.get (i := j) (x := xs[j]'(by omega)) (List.getElem?_eq_getElem (by omega))
        obtain ⟨w2, z2, rz2⟩ := r2.get (i := j) (x := ys[j]'(by omega)) (List.getElem?_eq_getElem (by omega))
        have a1 : vs.toArray[j] = w1 := by
          have := (List.getElem?_eq_some_iff.mp z1).2
          simpa using this
        have a2 : ws.toArray[j] = w2 := by
          have := (List.getElem?_eq_some_iff.mp z2).2
          simpa using this
        rw [a1, a2]
        exact ih j (by omega) (by omega) rz1 rz2 (by rw [Around.in1_units]; omega))
      rw [all_true] at this
      exact this
  | @tup n a b xs ys ha hb hl hd ih =>
    intro A u v rx ry hu
    cases rx
    cases ry
    by_cases e : a = b
    · subst e
      exact SeqAt.EqAt.same _
    · refine SeqAt.EqAt.of_refs e ?_
      obtain ⟨vs, r1, t1, _⟩ := I.tuple ha
      obtain ⟨ws, r2, t2, _⟩ := I.tuple hb
      have l1 := r1.length
      have l2 := r2.length
      have hs : vs.length = ws.length := by omega
      have := SeqAt.RcAt.tuples (A := A) (s := s) (e := fun _ => true) t1 t2 (by omega) (fun j h1 h2 => by
        simp only [List.size_toArray] at h1 h2
        obtain ⟨w1, z1, rz1⟩ := r1.get (i := j) (x := xs[j]'(by omega)) (List.getElem?_eq_getElem (by omega))
        obtain ⟨w2, z2, rz2⟩ := r2.get (i := j) (x := ys[j]'(by omega)) (List.getElem?_eq_getElem (by omega))
        have a1 : vs.toArray[j] = w1 := by
          have := (List.getElem?_eq_some_iff.mp z1).2
          simpa using this
        have a2 : ws.toArray[j] = w2 := by
          have := (List.getElem?_eq_some_iff.mp z2).2
          simpa using this
        rw [a1, a2]
        exact ih j (by omega) (by omega) rz1 rz2 (by rw [Around.in1_units]; omega))
      rw [all_true] at this
      simpa [hs] using this
/-- == of two lists that are the same through and through -/
def rEqD (K : PySem.W.Frag) (n : Nat) : R2 := fun x y H Q => ∃ a b xs ys, x = .ref a ∧ y = .ref b ∧ SqL K H a xs ∧ SqL K H b ys ∧ xs.length = ys.length ∧ (∀ j (h1 : j < xs.length) (h2 : j < ys.length), Deep K H n xs[j] ys[j]) ∧ Q (.bl true) H
def rNeD (K : PySem.W.Frag) (n : Nat) : R2 := fun x y H Q => ∃ a b xs ys, x = .ref a ∧ y = .ref b ∧ SqL K H a xs ∧ SqL K H b ys ∧ xs.length = ys.length ∧ (∀ j (h1 : j < xs.length) (h2 : j < ys.length), Deep K H n xs[j] ys[j]) ∧ Q (.bl false) H
section
variable {X : Cx}
theorem op_eqD {n : Nat} (hu : X.A.units + n + 1 < cLine) : OpR X (compareOp .Eq) (rEqD X.K n) := by
  rintro pins s σ H x y v u Q I rx ry ⟨a, b, xs, ys, rfl, rfl, ha, hb, hl, hd, q⟩
  cases rx
  cases ry
  obtain ⟨vs, r1, ⟨o1, n1, e1, c1, _, g1⟩, _⟩ := I.list ha
  obtain ⟨ws, r2, ⟨o2, n2, e2, c2, _, g2⟩, _⟩ := I.list hb
  have l1 := r1.length
  have l2 := r2.length
  refine SeqAt.eq_listAt (e := fun _ => true) ⟨o1, e1, c1, n1, g1⟩ ⟨o2, e2, c2, n2, g2⟩ (by simp only [List.size_toArray]; omega) (by omega) (fun j h1 h2 => ?_) ⟨.bl true, H, I, by simp [RelV], q⟩
  simp only [List.size_toArray] at h1 h2
  obtain ⟨w1, z1, rz1⟩ := r1.get (i := j) (x := xs[j]'(by omega)) (List.getElem?_eq_getElem (by omega))
  obtain ⟨w2, z2, rz2⟩ := r2.get (i := j) (x := ys[j]'(by omega)) (List.getElem?_eq_getElem (by omega))
  have a1 : vs.toArray[j] = w1 := by
    have := (List.getElem?_eq_some_iff.mp z1).2
    simpa using this
  have a2 : ws.toArray[j] = w2 := by
    have := (List.getElem?_eq_some_iff.mp z2).2
    simpa using this
  rw [a1, a2]
  exact (hd j (by omega) (by omega)).eqAt I rz1 rz2 (by rw [Around.in1_units]; omega)
theorem op_neD {n : Nat} (hu : X.A.units + n + 1 < cLine) : OpR X (compareOp .NotEq) (rNeD X.K n) := by
  rintro pins s σ H x y v u Q I rx ry ⟨a, b, xs, ys, rfl, rfl, ha, hb, hl, hd, q⟩
  cases rx
  cases ry
  obtain ⟨vs, r1, ⟨o1, n1, e1, c1, _, g1⟩, _⟩ := I.list ha
  obtain ⟨ws, r2, ⟨o2, n2, e2, c2, _, g2⟩, _⟩ := I.list hb
  have l1 := r1.length
  have l2 := r2.length
  refine SeqAt.RcNeAt.lists (e := fun _ => true) ⟨o1, e1, c1, n1, g1⟩ ⟨o2, e2, c2, n2, g2⟩ (by simp only [List.size_toArray]; omega) (by omega) (fun j h1 h2 => ?_) _ _ _ _ ⟨.bl false, H, I, by simp [RelV], q⟩
  simp only [List.size_toArray] at h1 h2
  obtain ⟨w1, z1, rz1⟩ := r1.get (i := j) (x := xs[j]'(by omega)) (List.getElem?_eq_getElem (by omega))
  obtain ⟨w2, z2, rz2⟩ := r2.get (i := j) (x := ys[j]'(by omega)) (List.getElem?_eq_getElem (by omega))
  have a1 : vs.toArray[j] = w1 := by
    have := (List.getElem?_eq_some_iff.mp z1).2
    simpa using this
  have a2 : ws.toArray[j] = w2 := by
    have := (List.getElem?_eq_some_iff.mp z2).2
    simpa using this
  rw [a1, a2]
  exact (hd j (by omega) (by omega)).eqAt I rz1 rz2 (by rw [Around.in1_units]; omega)
/-- a list == [] -/
def rEq0 (K : PySem.W.Frag) : R2 := fun x y H Q => ∃ a b xs, x = .ref a ∧ y = .ref b ∧ SqL K H a xs ∧ SqL K H b [] ∧ Q (.bl xs.isEmpty) H
theorem op_eq0 (hu : X.A.units < cLine) : OpR X (compareOp .Eq) (rEq0 X.K) := by
  rintro pins s σ H x y v u Q I rx ry ⟨a, b, xs, rfl, rfl, ha, hb, q⟩
  cases rx
  cases ry
  obtain ⟨vs, r1, ⟨o1, n1, e1, c1, _, g1⟩, _⟩ := I.list ha
  obtain ⟨ws, r2, ⟨o2, n2, e2, c2, _, g2⟩, _⟩ := I.list hb
  have l1 := r1.length
  have l2 := r2.length
  rw [List.length_nil] at l2
  cases xs with
  | nil =>
    rw [List.length_nil] at l1
    refine SeqAt.eq_listAt (e := fun _ => true) ⟨o1, e1, c1, n1, g1⟩ ⟨o2, e2, c2, n2, g2⟩ (by simp only [List.size_toArray]; omega) hu (fun j h1 h2 => ?_) ⟨.bl true, H, I, by simp [RelV], q⟩
    simp only [List.size_toArray] at h1
    omega
  | cons z zs =>
    rw [List.length_cons] at l1
    refine SeqAt.eq_list_lengthsAt ⟨o1, e1, c1, n1, g1⟩ ⟨o2, e2, c2, n2, g2⟩ ?_ hu ⟨.bl false, H, I, rfl, q⟩
    simp only [List.size_toArray, bne_iff_ne, ne_eq]
    omega
end
end L2
end
section
set_option Elab.async false
set_option linter.all false
set_option maxRecDepth 100000
set_option maxHeartbeats 4000000
namespace L2
open PySem PySem.Spec PyProof.Rows LX
section
variable {X : Cx} {tg : Expr}
/-- a statement from which no exception leaves -/
theorem PS.nox {st : Stmt} {t : TS} (h : PS X.nox st t) : PS X st t := fun pins s σ H D I hw =>
  wpAny_mono (h pins s σ H D (I.wish _) hw) (fun _ _ q => q.unwish) fun _ _ z => False.elim z
/-! ### range(a, b, c), c a written positive number -/
/-- lo, lo + c, .. (n of them) -/
def Itc (lo c : Int) (n : Nat) : It := ⟨fun i _ => i < n, fun i H x H' => H' = H ∧ x = .int (lo + i * c), fun i _ => n ≤ i⟩
theorem turn_rangeC {P : Program} {w : World} {K : PySem.W.Frag} {tg : Expr} (it : Addr) (lo c : Int) (n : Nat) : Turn P w K tg (Itc lo c n) [it] it (fun i h => IsRangeIter h it (lo + (i : Nat) * c) ((n : Int) - (i : Nat)) c) where
  mem := by simp
  obj := fun i h st b hb => by
    have e : b = it := by simpa using hb
    subst e
    exact ⟨_, st, fun v z => by
      have z' : Data.fields _ = Data.cell v := z
      cases z'⟩
  keep := fun i h h' st k => k it (by simp) _ st
  item := by
    intro X hP hw hK hc i pins s σ H E I hf st hg
    subst hP hw hK
    obtain ⟨f0, f1, f2, f3, f4, f5⟩ := hf it (by simp)
    have W := Walks.range (prog := X.prog) (w := X.w) (I.ok.hd hc) it lo c n
    refine W.item i s _ _ hg st fun v h' tk hv st' kk => ?_
    obtain ⟨t, rfl⟩ := hv
    have I1 : Inv X pins σ H { s with heap := h', toks := tk } := I.turned (fun b o hb e => kk b o (by simpa using hb) e) f0 f1 f3 f4 f5
    exact ⟨_, rfl, go_of (s := { s with heap := h', toks := tk }) (n := "range_iterator") st' rfl rfl (by decide) ⟨.int (lo + i * c), H, I1, ⟨t, rfl⟩, ⟨rfl, rfl⟩, st', fun b hb => (hf b hb).1⟩⟩
  done := by
    intro X hP hw hK hc i pins s σ H E I hf st hg
    subst hP hw hK
    obtain ⟨f0, f1, f2, f3, f4, f5⟩ := hf it (by simp)
    exact wpAny_pyNext_range_end (I.ok.hd hc) st (by have : n ≤ i := hg; omega) fun h' eb => ⟨rfl, I.turned (t' := s.toks) (fun b o hb e => eb b o hb e) f0 f1 f3 f4 f5⟩
  self := fun _ _ _ _ _ st h => wpAny_pyIter_rangeiter st h
/-- how many -/
def manyC (lo hi c : Int) : Nat := if lo < hi then ((hi - lo - 1) / c + 1).toNat else 0
def iRng3 (ta : TA) : TI := fun σ H R => ta σ H fun vs H1 => ∃ i j c : Int, vs = [.int i, .int j, .int c] ∧ (0 ≤ i ∧ i < 100000 ∧ 0 ≤ j ∧ j < 100000) ∧ 0 < c ∧ c < 100000 ∧ R (Itc i c (manyC i j c)) H1
theorem pi_range3 {a b d : Expr} {ta : TA} {p pos : Pos} (hg : Gl X "range") (hm : X.mg "range" = none) (ha : PA X [a, b, d] ta) (hs : starEach [a, b, d] X.env = [(false, eval a X.env), (false, eval b X.env), (false, eval d X.env)] := by rfl)
    (hs2 : starEach [b, d] X.env = [(false, eval b X.env), (false, eval d X.env)] := by rfl) : PI X tg (.Call (.Name "range" p) [a, b, d] [] pos) (iRng3 ta) := by
  intro pins s σ H R I h
  refine Call_ (ld_blt I hg hm boot_range (PyProof.Rows.callWith_type1 (thn (ha pos pins s σ H _ I h) fun us s1 ⟨vs, H1, I1, r1, q1⟩ => ?_) (by rw [hs, hs2]) (by rw [hs2]; rfl)))
  obtain ⟨i, j, c, e, ⟨q1, q2, q3, q4⟩, q5, q6, q⟩ := q1
  subst e
  cases r1 with
  | cons r rr =>
    cases rr with
    | cons r' rr =>
      cases rr with
      | cons r'' rr =>
        cases rr
        obtain ⟨t, rfl⟩ := r
        obtain ⟨t', rfl⟩ := r'
        obtain ⟨t'', rfl⟩ := r''
        have esz : Builtin.Range.rangeSize i j c = (manyC i j c : Int) := by
          unfold Builtin.Range.rangeSize manyC
          rw [if_pos q5]
          split
          · have : 0 ≤ (j - i - 1) / c := Int.ediv_nonneg (by omega) (by omega)
            omega
          · rfl
        have lsz : (manyC i j c : Int) ≤ 100000 := by
          rw [← esz]
          unfold Builtin.Range.rangeSize
          rw [if_pos q5]
          split
          · have h1 : 0 ≤ (j - i - 1) / c := Int.ediv_nonneg (by omega) (by omega)
            have h2 : (j - i - 1) / c ≤ j - i - 1 := Int.ediv_le_self _ (by omega)
            omega
          · omega
        refine call_range_3 (by omega) ?_ (Or.inl (PyProof.noPylong_small (by omega)))
        refine wpAny_pyIter_range (IsRange.new ..) ?_ ?_
        · unfold Builtin.Range.small
          rw [esz]
          simp only [Builtin.Range.rangeFitsLong, Bool.and_eq_true, Bool.or_eq_true, decide_eq_true_eq, beq_iff_eq, if_pos q5]
          have h3 : i + (manyC i j c : Int) * c < 2 ^ 62 := by
            have : (manyC i j c : Int) * c ≤ 100000 * 100000 := Int.mul_le_mul lsz (by omega) (by omega) (by omega)
            omega
          have h4 : 0 ≤ (manyC i j c : Int) * c := Int.mul_nonneg (by omega) (by omega)
          omega
        have I2 : Inv X pins σ H1 { s1 with heap := s1.heap.push { cls := .type "range", data := .fields #[.int i t, .int j t', .int c t''] }, toks := s1.toks } := I1.kept fun b o e => Heap.get?_push_of_some _ e
        refine ⟨(s1.heap.push { cls := .type "range", data := .fields #[.int i t, .int j t', .int c t''] }).objs.size, [(s1.heap.push { cls := .type "range", data := .fields #[.int i t, .int j t', .int c t''] }).objs.size], _, _, H1, rfl,
          I2.kept (t' := s1.toks) fun b o e => Heap.get?_push_of_some _ e, turn_rangeC _ i c (manyC i j c), ?_, fun b hb => ?_, q⟩
        · have e1 : i + ((0 : Nat) : Int) * c = i := by simp
          show IsRangeIter _ _ (i + ((0 : Nat) : Int) * c) (((manyC i j c : Nat) : Int) - ((0 : Nat) : Int)) c
          rw [e1, show ((manyC i j c : Nat) : Int) - ((0 : Nat) : Int) = Builtin.Range.rangeSize i j c by rw [esz]; omega]
          exact Heap.get?_push_size _ rfl
        · have e : b = (s1.heap.push { cls := .type "range", data := .fields #[.int i t, .int j t', .int c t''] }).objs.size := by simpa using hb
          subst e
          exact I2.fpOk (Nat.le_refl _) (I2.hok.fresh (Nat.le_refl _))
theorem for_rangeC {lo c : Int} {n : Nat} {g : TG} {tb : TS} {D : Ends} {σ : St} {H : Hp} (Pv : Nat → St → Hp → Prop) (h0 : Pv 0 σ H)
    (hs : ∀ i σ H, i < n → Pv i σ H → g (.int (lo + i * c)) σ H fun σ2 H2 => tb { D with nx := Pv (i + 1), ct := Pv (i + 1), bk := D.nx } σ2 H2) (hd : ∀ σ H, Pv n σ H → D.nx σ H) :
    ∃ W : Nat → Nat → St → Hp → Prop, (∃ m, W 0 m σ H) ∧ ∀ i m σ H, W i m σ H →
      ((Itc lo c n).stop i H ∧ D.nx σ H) ∨ ((Itc lo c n).go i H ∧ ∃ N : St → Hp → Prop, (∀ σ' H', N σ' H' → ∃ m', m' < m ∧ W (i + 1) m' σ' H') ∧ ∀ x H', (Itc lo c n).yld i H x H' → g x σ H' fun σ2 H2 => tb { D with nx := N, ct := N, bk := D.nx } σ2 H2) := by
  refine ⟨fun i m σ H => m = n - i ∧ i ≤ n ∧ Pv i σ H, ⟨n, by simp, Nat.zero_le _, h0⟩, ?_⟩
  rintro i m σ H ⟨rfl, hi, p⟩
  by_cases hlt : i < n
  · refine .inr ⟨hlt, Pv (i + 1), fun σ' H' p' => ⟨n - (i + 1), by omega, rfl, hlt, p'⟩, fun x H' y => ?_⟩
    obtain ⟨e, y⟩ := y
    subst e y
    exact hs i σ _ hlt p
  · have e : i = n := by omega
    subst e
    exact .inl ⟨Nat.le_refl _, hd σ H p⟩
end
end L2
end
section
set_option Elab.async false
set_option linter.all false
set_option maxRecDepth 100000
set_option maxHeartbeats 4000000
namespace L2
open PySem PySem.Spec PyProof.Rows LX
section
variable {X : Cx} {scope : Scope} {cl : List (Str × Addr)} {x : Str} {idx : List Nat} {NC : List Str} {pins : List (Addr × Obj)} {σ : St} {H : Hp} {s : Shared}
/-! ### name = [comprehension with one test] -/
theorem ps_compT {i : Nat} {y : Str} {elt iter ct : Expr} {px py pos spos : Pos} {wi : TI} {tc : TT} {te : TE} (hN : X.N.Nodup) (hi' : X.N[i]? = some y) (hx : X.env.scope.names.lookup y = some .local) (c : CompOk X scope cl x idx NC) (hc : X.calm = true) (hi : PI X (.Name x px) iter wi)
    (ht : ∀ C fp s₀ H₀, PT (cxC X scope cl NC C fp s₀ H₀) ct tc) (he : ∀ C fp s₀ H₀, PE (cxC X scope cl NC C fp s₀ H₀) elt te) (hsw : swapsWith (.ListComp elt [⟨.Name x px, iter, [ct], 0⟩] scope pos) (some (.Name y py)) spos.line X.env = pure true := by rfl)
    (hs : ∀ x, foldedSetIterable iter X.env x = pure x := by intro _; rfl) : PS X (.Assign [.Name y py] (.ListComp elt [⟨.Name x px, iter, [ct], 0⟩] scope pos) spos) (tAsg (tCompT wi idx tc te) (gName i)) := by
  intro pins s σ H D0 I h
  rw [exec_Assign_Name_used _ _ _ _ hsw]
  refine wpAny_bind (wpAny_standAt (wpAny_bind ?_))
  show wpAny _ _ (do let _ ← comprehension (.ListComp elt [⟨.Name x px, iter, [ct], 0⟩] scope pos) scope X.env _ (newList []) false (eval iter X.env) (some (assign (.Name y py) X.env))) _ _ s
  refine wpAny_bind (wpAny_mono (wpAny_comprehension_free (use := some (assign (.Name y py) X.env)) (Q := fun _ s' => SP X pins D0 .next s') rfl hs c.clos c.kind c.loc
    (thn (hi pins s σ H _ I h) fun v s1 h1 => thn h1 fun itv s2 h2 => ?_)) (fun _ s' hq => wpAny_pure (wpAny_pure hq)) fun _ _ e => e)
  obtain ⟨it, fp, tn, J, H2, rfl, I2, T, st2, f2, q⟩ := h2
  refine wpAny_newObj_type (wpAny_newFunctionEnv c.nocell (by intro y hy; simp at hy) (fun h₁ hns₁ hsb₁ => ?_) c.kind)
  dsimp only at hns₁ hsb₁ ⊢
  have I3 : Inv X pins σ (upd H2 s2.heap.objs.size (.lst [])) { s2 with heap := s2.heap.push { cls := .type "list", data := .seq ([] : List Value).toArray }, toks := s2.toks } := I2.lnew (ys := []) (its := []) .nil (Nat.zero_le _)
  obtain ⟨W, ⟨m0, w0⟩, turn⟩ := q s2.heap.objs.size I2.fresh
  generalize hD : s2.heap.objs.size = D at *
  generalize hH : s2.heap.push { cls := .type "list", data := .seq ([] : List Value).toArray } = h3 at *
  have hlt2 : ∀ b ∈ fp, b < D := fun b hb => by
    obtain ⟨o, e, _⟩ := T.obj _ _ st2 b hb
    rw [← hD]
    exact Heap.lt_size e
  have hlt : ∀ b ∈ fp, b < h3.objs.size := fun b hb => by
    rw [← hH, Heap.size_push, hD]
    exact Nat.lt_succ_of_lt (hlt2 b hb)
  have hf : ∀ b ∈ fp, FpOk X pins (upd H2 D (.lst [])) b := fun b hb => ⟨by rw [upd_ne (Nat.ne_of_lt (hlt2 b hb))]; exact (f2 b hb).1, (f2 b hb).2⟩
  have kp : ∀ b o, h3.get? b = some o → h₁.get? b = some o := fun b o e => hsb₁.extBut b o (Nat.ne_of_lt (Heap.lt_size e)) (Heap.get?_push_of_some _ e)
  have I4 : Inv (cxC X scope cl NC h3.objs.size fp { s2 with heap := h3, toks := s2.toks } (upd H2 D (.lst []))) [] (none :: caps σ idx) (upd H2 D (.lst [])) { s2 with heap := h₁, toks := s2.toks + ([] : List (Str × Value)).length } :=
    inv_comp (s := { s2 with heap := h3, toks := s2.toks }) c I3 hf hlt hns₁ kp
  have stat : ∀ {H' : Hp}, (∀ b ∈ fp, H' b = none) → ∀ b ∈ fp, FpOk (cxC X scope cl NC h3.objs.size fp { s2 with heap := h3, toks := s2.toks } (upd H2 D (.lst []))) [] H' b := fun hn b hb =>
    ⟨hn b hb, Nat.ne_of_lt (hlt b hb), fun z => (List.mem_cons.mp (I3.stkSub b z)).elim (hf b hb).2.1 (hf b hb).2.2.1, .inl hb, fun y a q => (hf b hb).2.2.2.2.1 y a (c.sub _ _ q), fun p hp => (by cases hp)⟩
  have st1 : tn 0 h₁ := T.keep 0 _ _ st2 fun b hb o e => kp b o (by rw [← hH]; exact Heap.get?_push_of_some _ e)
  have loop : ∀ s4 : Shared, s4 = { s2 with heap := h₁, toks := s2.toks + ([] : List (Str × Value)).length } →
      codeAny (model X.prog X.w) X.A (.compLoop (.ListComp elt [⟨.Name x px, iter, [ct], 0⟩] scope pos) 0 (.ref it) (.ref D) (compEnvC scope cl h3.objs.size X.env)) (compPost (model X.prog X.w) X.A X.xe (some (assign (.Name y py) X.env)) (fun _ s' => SP X pins D0 .next s') (.ref D) h3.objs.size) s4 := by
    rintro s4 rfl
    refine compLoop_test (fun n s' => ∃ i ys H' v0, Inv (cxC X scope cl NC h3.objs.size fp { s2 with heap := h3, toks := s2.toks } (upd H2 D (.lst []))) [] (v0 :: caps σ idx) H' s' ∧ tn i s'.heap ∧ (∀ b ∈ fp, H' b = none) ∧ W i n ys H')
      ?_ m0 ⟨0, [], _, none, I4, st1, fun b hb => (hf b hb).1, w0⟩
    rintro n s5 ⟨i5, ys, H5, v0, I5, st5, fr5, w5⟩
    obtain ⟨hDl, alt⟩ := turn i5 n ys H5 w5
    rcases alt with ⟨stop, qn⟩ | ⟨go, hz, N, hN', step⟩
    · refine thn (T.done (cxC X scope cl NC h3.objs.size fp { s2 with heap := h3, toks := s2.toks } (upd H2 D (.lst []))) rfl rfl rfl hc i5 [] s5 _ H5 _ I5 (stat fr5) st5 stop) fun r s6 ⟨hr, I6⟩ => ?_
      subst hr
      obtain ⟨m, ns6, _⟩ := id I6.loc
      have J6 : Inv X pins σ H5 s6 := I3.call' (ch := fp) I6.os I6.base I6.hok I6.bare fun b hb => ⟨(hf b hb).2.2.2.1, (hf b hb).2.1, (hf b hb).2.2.2.2.1, (hf b hb).2.2.2.2.2⟩
      have fC : FpOk X pins H5 h3.objs.size := I3.fpOk (Nat.le_refl _) I6.free
      obtain ⟨o, es, ep, ho, rr⟩ := ns6
      have od : ∀ v, o.data ≠ .cell v := fun v z => by
        rw [rr.1] at z
        cases z
      show wpAny _ _ (assign (.Name y py) X.env (.ref D)) (fun _ s'' => ∃ m, s''.heap.Ns h3.objs.size m ∧ ∀ h', Heap.SameBut h3.objs.size s''.heap h' → SP X pins D0 .next { s'' with heap := h' }) X.xe s6
      have J7 := J6.pinned (fp := [h3.objs.size]) (fun b hb => by rw [List.mem_singleton.mp hb]; exact fC) (fun b hb => by rw [List.mem_singleton.mp hb]; exact ⟨o, ho, od⟩)
      refine wpAny_mono (pg_name (pos := py) hN hi' (.inl hx) (.inr hx) _ s6 _ H5 (.ref D) (.ref D) D0.nx J7 rfl qn) (fun _ s7 ⟨σ7, H7, I7, q7⟩ => ?_) (fun _ _ z => z)
      have pC := I7.pin (h3.objs.size, o) (List.mem_append_right _ (List.mem_append_right _ (mem_pinsAt (List.mem_singleton.mpr rfl) ho)))
      refine ⟨m, ⟨o, es, ep, pC.1, rr⟩, fun h' hs' => ⟨σ7, H7, ?_, q7⟩⟩
      exact I7.unpinned.turned (t' := s7.toks) (it := h3.objs.size) (fun b o hb e => hs'.extBut b o hb e) pC.2.1 fC.2.1 fC.2.2.2.1 fC.2.2.2.2.1 fC.2.2.2.2.2
    · refine thn (T.item (cxC X scope cl NC h3.objs.size fp { s2 with heap := h3, toks := s2.toks } (upd H2 D (.lst []))) rfl rfl rfl hc i5 [] s5 _ H5 _ I5 (stat fr5) st5 go) fun r s6 ⟨u, hr, h6⟩ => ?_
      subst hr
      refine thn h6 fun _ s7 ⟨y, H7, I7, r7, y7, st7, fr7⟩ => ?_
      have I7' := I7.pinned (stat fr7) (T.obj _ _ st7)
      have hnl : (relabel scope X.env).names.lookup x = some .local := lookup_relabel_local c.xl
      refine wpAny_mono (pg_name (X := cxC X scope cl NC h3.objs.size fp { s2 with heap := h3, toks := s2.toks } (upd H2 D (.lst []))) (i := 0) (x := x) (pos := px) c.nd (by show NC[0]? = some x; rw [c.nc]; rfl) (.inl hnl) (.inr hnl) _ s7 _ H7 y u
        (fun σ' H' => σ' = some y :: caps σ idx ∧ H' = H7) I7' r7 ⟨rfl, rfl⟩) (fun _ s8 ⟨σ8, H8, I8, e8, e8'⟩ => ?_) fun _ _ z => z.elim
      subst e8 e8'
      refine wpAny_mono (ht _ _ _ _ _ s8 _ H8 _ I8 (step y H8 y7)) (fun bb s11 ⟨H11, I11, q11⟩ => ?_) fun _ _ z => z.elim
      have fin : ∀ {H12 : Hp} {s12 : Shared} {zs : List V} {m' : Nat}, Inv (cxC X scope cl NC h3.objs.size fp { s2 with heap := h3, toks := s2.toks } (upd H2 D (.lst []))) ([] ++ pinsAt fp s7.heap) (some y :: caps σ idx) H12 s12 → m' < n → W (i5 + 1) m' zs H12 →
          ∃ m, m < n ∧ ∃ i ys H' v0, Inv (cxC X scope cl NC h3.objs.size fp { s2 with heap := h3, toks := s2.toks } (upd H2 D (.lst []))) [] (v0 :: caps σ idx) H' s12 ∧ tn i s12.heap ∧ (∀ b ∈ fp, H' b = none) ∧ W i m ys H' := fun {H12 s12 zs m'} I12 hm w12 => by
        refine ⟨m', hm, i5 + 1, zs, _, some y, I12.unpinned, T.keep _ _ _ st7 fun b hb o e => (I12.pin (b, o) (List.mem_append_right _ (List.mem_append_right _ (mem_pinsAt hb e)))).1, fun b hb => ?_, w12⟩
        obtain ⟨o, e, d⟩ := T.obj _ _ st7 b hb
        exact (I12.pin (b, o) (List.mem_append_right _ (List.mem_append_right _ (mem_pinsAt hb e)))).2.1
      cases bb with
      | false =>
        obtain ⟨m', hm, w9⟩ := hN' _ _ q11
        exact fin I11 hm w9
      | true =>
        refine wpAny_mono (he _ _ _ _ _ s11 _ H11 _ I11 q11) (fun w s9 ⟨v, H9, I9, r9, hD9, n9⟩ => ?_) fun _ _ z => z.elim
        obtain ⟨m', hm, w9⟩ := hN' _ _ n9
        refine wpAny_mono (appended (X := (cxC X scope cl NC h3.objs.size fp { s2 with heap := h3, toks := s2.toks } (upd H2 D (.lst [])))) I9 hD9 hz r9) (fun _ s10 I10 => ?_) fun _ _ z => z.elim
        exact fin I10 hm w9
  exact codeAny_compStart_list (loop _ rfl) (T.self _ 0 _ _ _ st1 (loop _ rfl))
/-- the list at D grows by an item where the test holds -/
def CompToT (J : It) (D : Addr) (τ : St) (tc : TT) (te : TE) (Q : VK) (H : Hp) : Prop := ∃ W : Nat → Nat → List V → Hp → Prop, (∃ m, W 0 m [] H) ∧ ∀ i m ys H2, W i m ys H2 → H2 D = some (.lst ys) ∧
  ((J.stop i H2 ∧ Q (.ref D) H2) ∨ (J.go i H2 ∧ ys.length < sizeLine ∧ ∃ N : List V → Hp → Prop, (∀ zs H', N zs H' → ∃ m', m' < m ∧ W (i + 1) m' zs H') ∧ ∀ y H3, J.yld i H2 y H3 → tc (some y :: τ) H3 fun b H4 => if b = true then te (some y :: τ) H4 fun v H5 => H5 D = some (.lst ys) ∧ N (ys ++ [v]) (upd H5 D (.lst (ys ++ [v])))
    else N ys H4))
def tCompU (wi : TI) (idx : List Nat) (tc : TT) (te : TE) : TE := fun σ H Q => wi σ H fun J H1 => ∀ D, H1 D = none → CompToT J D (caps σ idx) tc te Q (upd H1 D (.lst []))
theorem ps_compU {i : Nat} {y : Str} {elt iter ct : Expr} {px py pos spos : Pos} {wi : TI} {tc : TT} {te : TE} (hN : X.N.Nodup) (hi' : X.N[i]? = some y) (hx : X.env.scope.names.lookup y = some .local) (c : CompOk X scope cl x idx NC) (hc : X.calm = true) (hi : PI X (.Name x px) iter wi)
    (ht : ∀ C fp s₀ H₀, PT (cxC X scope cl NC C fp s₀ H₀) ct tc) (he : ∀ C fp s₀ H₀, PE (cxC X scope cl NC C fp s₀ H₀) elt te) (hsw : swapsWith (.ListComp elt [⟨.Name x px, iter, [ct], 0⟩] scope pos) (some (.Name y py)) spos.line X.env = pure true := by rfl)
    (hs : ∀ x, foldedSetIterable iter X.env x = pure x := by intro _; rfl) : PS X (.Assign [.Name y py] (.ListComp elt [⟨.Name x px, iter, [ct], 0⟩] scope pos) spos) (tAsg (tCompU wi idx tc te) (gName i)) :=
  ps_compT hN hi' hx c hc hi ht he hsw hs
theorem pe_compU {elt iter ct : Expr} {px pos : Pos} {wi : TI} {tc : TT} {te : TE} (c : CompOk X scope cl x idx NC) (hc : X.calm = true) (hi : PI X (.Name x px) iter wi) (ht : ∀ C fp s₀ H₀, PT (cxC X scope cl NC C fp s₀ H₀) ct tc) (he : ∀ C fp s₀ H₀, PE (cxC X scope cl NC C fp s₀ H₀) elt te)
    (hs : ∀ x, foldedSetIterable iter X.env x = pure x := by intro _; rfl) : PE X (.ListComp elt [⟨.Name x px, iter, [ct], 0⟩] scope pos) (tCompU wi idx tc te) :=
  pe_compT c hc hi ht he hs
end
/-! ### a comprehension with a test over a range -/
theorem compT_range {lo : Int} {n : Nat} {tc : TT} {te : TE} {Q : VK} {D : Addr} {τ : St} {H : Hp} (Pv : Nat → List V → Hp → Prop) (h0 : Pv 0 [] H) (hD : ∀ i ys H, i ≤ n → Pv i ys H → H D = some (.lst ys) ∧ ys.length ≤ i) (hn : n ≤ sizeLine)
    (hs : ∀ i ys H, i < n → Pv i ys H → tc (some (.int (lo + i)) :: τ) H fun b H4 => if b = true then te (some (.int (lo + i)) :: τ) H4 fun v H5 => H5 D = some (.lst ys) ∧ Pv (i + 1) (ys ++ [v]) (upd H5 D (.lst (ys ++ [v]))) else Pv (i + 1) ys H4)
    (hd : ∀ ys H, Pv n ys H → Q (.ref D) H) :
    CompToT (Itr lo n) D τ tc te Q H := by
  refine ⟨fun i m ys H => m = n - i ∧ i ≤ n ∧ Pv i ys H, ⟨n, by simp, Nat.zero_le _, h0⟩, ?_⟩
  rintro i m ys H2 ⟨rfl, hi, p⟩
  obtain ⟨d1, d2⟩ := hD i ys H2 hi p
  refine ⟨d1, ?_⟩
  by_cases hlt : i < n
  · refine .inr ⟨hlt, by omega, Pv (i + 1), fun zs H' p' => ⟨n - (i + 1), by omega, rfl, hlt, p'⟩, fun y H3 q => ?_⟩
    obtain ⟨e, q⟩ := q
    subst e q
    exact hs i ys _ hlt p
  · have e : i = n := by omega
    subst e
    exact .inl ⟨Nat.le_refl _, hd ys H2 p⟩
/-- over a list -/
theorem compT_list {K : PySem.W.Frag} {a : Addr} {xs : List V} {tc : TT} {te : TE} {Q : VK} {D : Addr} {τ : St} {H : Hp} (Pv : Nat → List V → Hp → Prop) (h0 : Pv 0 [] H) (hD : ∀ i ys H, i ≤ xs.length → Pv i ys H → H D = some (.lst ys) ∧ ys.length ≤ i) (hl : ∀ i ys H, i ≤ xs.length → Pv i ys H → SqL K H a xs) (hn : xs.length ≤ sizeLine)
    (hs : ∀ i x ys H, xs[i]? = some x → Pv i ys H → tc (some x :: τ) H fun b H4 => if b = true then te (some x :: τ) H4 fun v H5 => H5 D = some (.lst ys) ∧ Pv (i + 1) (ys ++ [v]) (upd H5 D (.lst (ys ++ [v]))) else Pv (i + 1) ys H4)
    (hd : ∀ ys H, Pv xs.length ys H → Q (.ref D) H) : CompToT (Itl K a) D τ tc te Q H := by
  refine ⟨fun i m ys H => m = xs.length - i ∧ i ≤ xs.length ∧ Pv i ys H, ⟨xs.length, by simp, Nat.zero_le _, h0⟩, ?_⟩
  rintro i m ys H2 ⟨rfl, hi, p⟩
  obtain ⟨d1, d2⟩ := hD i ys H2 hi p
  refine ⟨d1, ?_⟩
  have hS := hl i ys H2 hi p
  by_cases hlt : i < xs.length
  · refine .inr ⟨⟨xs, xs[i], hS, List.getElem?_eq_getElem hlt⟩, by omega, Pv (i + 1), fun zs H' p' => ⟨xs.length - (i + 1), by omega, rfl, hlt, p'⟩, fun y H3 q => ?_⟩
    obtain ⟨e1, e2⟩ := q
    subst e1
    exact hs i y ys _ (e2 xs (hl i ys _ hi p)) p
  · have e : i = xs.length := by omega
    subst e
    exact .inl ⟨⟨xs, hS, Nat.le_refl _⟩, hd ys H2 p⟩
end L2
end
section
set_option Elab.async false
set_option linter.all false
set_option maxRecDepth 100000
set_option maxHeartbeats 4000000
namespace L2
open PySem PySem.Spec PyProof.Rows LX
/-! ### a set's table: its places rise -/
def Ris (xs : Array Nat) : Prop := ∀ i k (h1 : i < k) (h2 : k < xs.size), xs[i] < xs[k]
theorem ris_of_pair {xs : Array Nat} (h : xs.toList.Pairwise (· < ·)) : Ris xs := fun i k h1 h2 => by
  have := List.pairwise_iff_getElem.mp h i k (by rw [Array.length_toList]; omega) (by rw [Array.length_toList]; omega) h1
  simpa using this
theorem ris_pair {xs : Array Nat} (h : Ris xs) : xs.toList.Pairwise (· < ·) := List.pairwise_iff_getElem.mpr fun i k h1 h2 h3 => by
  have := h i k h3 (by rw [← Array.length_toList]; exact h2)
  simpa using this
/-- where j would stand -/
def Cut (xs : Array Nat) (j r : Nat) : Prop := r ≤ xs.size ∧ (∀ i (h : i < xs.size), i < r → xs[i] < j) ∧ ∀ i (h : i < xs.size), r ≤ i → j ≤ xs[i]
theorem cut_one {xs : Array Nat} {j r q : Nat} (a : Cut xs j r) (b : Cut xs j q) : r = q := by
  obtain ⟨a0, a1, a2⟩ := a
  obtain ⟨b0, b1, b2⟩ := b
  rcases Nat.lt_trichotomy r q with h | h | h
  · have := b1 r (by omega) h
    have := a2 r (by omega) (Nat.le_refl _)
    omega
  · exact h
  · have := a1 q (by omega) h
    have := b2 q (by omega) (Nat.le_refl _)
    omega
theorem go_cut {xs : Array Nat} {j : Nat} (hr : Ris xs) : ∀ (fuel lo hi : Nat), lo ≤ hi → hi ≤ xs.size → hi - lo ≤ fuel → (∀ i (h : i < xs.size), i < lo → xs[i] < j) → (∀ i (h : i < xs.size), hi ≤ i → j ≤ xs[i]) → Cut xs j (SetTable.below.go xs j fuel lo hi)
  | 0, lo, hi, h1, h2, h3, a, b => by
    have : lo = hi := by omega
    subst this
    exact ⟨h2, a, b⟩
  | fuel + 1, lo, hi, h1, h2, h3, a, b => by
    unfold SetTable.below.go
    by_cases h : lo < hi
    · rw [if_pos h]
      have hm : (lo + hi) / 2 < xs.size := by omega
      have e : xs.getD ((lo + hi) / 2) j = xs[(lo + hi) / 2] := by simp [Array.getD, hm]
      dsimp only
      rw [e]
      by_cases q : xs[(lo + hi) / 2] < j
      · rw [if_pos q]
        refine go_cut hr fuel _ _ (by omega) h2 (by omega) (fun i hi' hlt => ?_) b
        by_cases z : i = (lo + hi) / 2
        · subst z; exact q
        · exact Nat.lt_trans (hr i _ (by omega) hm) q
      · rw [if_neg q]
        refine go_cut hr fuel _ _ (by omega) (by omega) (by omega) a fun i hi' hle => ?_
        by_cases z : i = (lo + hi) / 2
        · subst z; omega
        · have := hr ((lo + hi) / 2) i (by omega) hi'
          omega
    · rw [if_neg h]
      have : lo = hi := by omega
      subst this
      exact ⟨h2, a, b⟩
theorem below_cut {xs : Array Nat} (hr : Ris xs) (j : Nat) : Cut xs j (SetTable.below xs j) :=
  go_cut hr _ _ _ (Nat.zero_le _) (Nat.le_refl _) (by omega) (fun _ _ h => absurd h (Nat.not_lt_zero _)) fun i h h' => absurd h (by omega)
theorem ris_insert {xs : Array Nat} {j : Nat} (hr : Ris xs) (hn : xs[SetTable.below xs j]? ≠ some j) : Ris (SetTable.insertAt xs (SetTable.below xs j) j) := by
  obtain ⟨c0, c1, c2⟩ := below_cut hr j
  generalize SetTable.below xs j = r at *
  refine ris_of_pair ?_
  rw [SetTable.toList_insertAt, List.pairwise_append]
  have hp := ris_pair hr
  refine ⟨hp.sublist (List.take_sublist _ _), List.pairwise_cons.mpr ⟨fun y hy => ?_, hp.sublist (List.drop_sublist _ _)⟩, fun x hx y hy => ?_⟩
  · obtain ⟨i, hi, e⟩ := List.mem_iff_getElem.mp hy
    rw [List.getElem_drop] at e
    rw [List.length_drop, Array.length_toList] at hi
    have e' : xs[r + i]'(by omega) = y := by simpa using e
    have := c2 (r + i) (by omega) (by omega)
    by_cases z : i = 0
    · subst z
      have : xs[r]? = some y := by rw [Array.getElem?_eq_getElem (by omega)]; exact congrArg some e'
      rw [this] at hn
      have : y ≠ j := fun q => hn (by rw [q])
      omega
    · have h1 := hr r (r + i) (by omega) (by omega)
      have h2 := c2 r (by omega) (Nat.le_refl _)
      omega
  · obtain ⟨i, hi, e⟩ := List.mem_iff_getElem.mp hx
    rw [List.getElem_take] at e
    rw [List.length_take, Array.length_toList] at hi
    have e' : xs[i]'(by omega) = x := by simpa using e
    have h1 := c1 i (by omega) (by omega)
    rcases List.mem_cons.mp hy with q | q
    · omega
    · obtain ⟨k, hk, e2⟩ := List.mem_iff_getElem.mp q
      rw [List.getElem_drop] at e2
      rw [List.length_drop, Array.length_toList] at hk
      have e3 : xs[r + k]'(by omega) = y := by simpa using e2
      have := c2 (r + k) (by omega) (by omega)
      omega
theorem ris_range (n : Nat) : Ris (Array.range n) := fun i k h1 h2 => by simpa using h1
/-- a slot that the search found is none of the places -/
theorem probe_free {t : SetTable} {h : Int} : ∀ (fuel : Nat) (p : SetTable.Probe) (m : SetTable.Met), (∀ d, p.dummy = some d → t.place[SetTable.below t.place d]? ≠ some d) → SetTable.probe.go t (fun _ => h + 1) h fuel p = some m →
    ∃ j d, m = .empty j d ∧ t.place[SetTable.below t.place (d.getD j)]? ≠ some (d.getD j)
  | 0, p, m, _, e => by cases e
  | fuel + 1, p, m, hd, e => by
    unfold SetTable.probe.go at e
    have hs : ∀ j, t.slot j = (if t.place[SetTable.below t.place j]? == some j then .live (SetTable.below t.place j) else if SetTable.has t.dummies j then .dummy else .empty) := fun _ => rfl
    have nl : ∀ j, (∀ i, t.slot j ≠ .live i) → t.place[SetTable.below t.place j]? ≠ some j := fun j hj q => by
      rw [hs, q] at hj
      simp at hj
    cases hsl : t.slot p.j with
    | empty =>
      rw [hsl] at e
      cases e
      refine ⟨_, _, rfl, ?_⟩
      cases hq : p.dummy with
      | none => exact nl _ fun i z => by rw [show ((none : Option Nat).getD p.j) = p.j from rfl, hsl] at z; cases z
      | some d => exact hd d hq
    | dummy =>
      rw [hsl] at e
      refine probe_free fuel _ m (fun d q => ?_) e
      have : d = p.j := by
        unfold SetTable.advance at q
        split at q <;> simpa using q.symm
      subst this
      exact nl _ fun i z => by rw [hsl] at z; cases z
    | live i =>
      rw [hsl] at e
      have hne : ((h + 1 : Int) == h) = false := by
        rw [beq_eq_false_iff_ne]; omega
      dsimp only at e
      rw [hne] at e
      refine probe_free fuel _ m (fun d q => hd d ?_) e
      unfold SetTable.advance at q
      split at q <;> exact q
theorem free_new {t : SetTable} {h : Int} {j : Nat} {b : Bool} (e : t.freeSlot h = some (j, b)) : t.place[SetTable.below t.place j]? ≠ some j := by
  unfold SetTable.freeSlot at e
  cases hp : t.probe (fun _ => h + 1) h (t.probeStart h) with
  | none => rw [hp] at e; cases e
  | some m =>
    obtain ⟨j', d, rfl, q⟩ := probe_free (t := t) (h := h) _ (t.probeStart h) m (fun d z => by cases z) hp
    rw [hp] at e
    cases e
    exact q
/-- what is asked of a table: led or not, and rising places -/
def Tab (B : Bool) (t : SetTable) : Prop := t.led = B ∧ Ris t.place
theorem Tab.stand {B : Bool} {t : SetTable} (h : Tab B t) (n : Nat) : Tab B (t.standIn n) := ⟨h.1, ris_range n⟩
theorem Tab.orStand {B : Bool} {t : SetTable} (h : Tab B t) (n : Nat) : Tab B (t.orStandIn n) := by
  unfold SetTable.orStandIn
  split
  · exact h
  · exact h.stand n
theorem Tab.dull {B : Bool} {t : SetTable} (h : Tab B t) : Tab B { t with plain := false } := h
theorem Tab.lay {B : Bool} {t : SetTable} (h : Tab B t) (es : Array (Int × Value)) (k : Int) (x : Value) : Tab B (layNew t es k x).2.1 := by
  unfold layNew
  split
  · rename_i slot wd e
    refine Tab.orStand (B := B) (t := (t.put slot).1) ⟨h.1, ?_⟩ _
    exact ris_insert h.2 (free_new e)
  · exact h.stand _
theorem laid_tab {mask finger moves : Nat} {led plain : Bool} {hs : Array Int} {t : SetTable} {o : Array Nat} (e : SetTable.laid mask finger moves led plain hs = some (t, o)) : Tab led t := by
  unfold SetTable.laid at e
  cases hc : SetTable.layClean mask hs with
  | none => rw [hc] at e; cases e
  | some ow =>
    rw [hc] at e
    simp only [Option.bind_eq_bind, Option.bind_some, Option.pure_def, Option.some.injEq, Prod.mk.injEq] at e
    obtain ⟨e, _⟩ := e
    subst e
    refine ⟨rfl, ris_of_pair ?_⟩
    show List.Pairwise _ (List.map _ _)
    rw [List.pairwise_map]
    refine List.Pairwise.filterMap _ (R := (· < ·)) (fun a b hab x hx y hy => ?_) List.pairwise_lt_range
    simp only [Option.map_eq_some_iff] at hx hy
    obtain ⟨_, _, rfl⟩ := hx
    obtain ⟨_, _, rfl⟩ := hy
    exact hab
theorem Tab.relay {B : Bool} {t : SetTable} (h : Tab B t) (es : Array (Int × Value)) (n : Nat) : Tab B (relayAll t es n).2.1 := by
  unfold relayAll
  split
  · rename_i t' order e
    dsimp only
    split
    · have := laid_tab (show SetTable.laid _ _ _ _ _ _ = some (t', order) from e)
      rw [h.1] at this
      exact this
    · exact h.stand _
  · exact h.stand _
/-! ### orders -/
theorem erase_perm {α : Type} : ∀ (l : List α) (i : Nat) (h : i < l.length), (l[i] :: l.eraseIdx i).Perm l
  | x :: xs, 0, _ => .refl _
  | x :: xs, i + 1, h => (List.Perm.swap _ _ _).trans (List.Perm.cons x (erase_perm xs i (Nat.lt_of_succ_lt_succ h)))
theorem pickGo_perm {α : Type} (next : Nat → Nat) : ∀ (fuel k : Nat) (left : List α) (out : Array α), left.length = fuel → (pickOrder.go next fuel k left out).toList.Perm (out.toList ++ left)
  | 0, k, left, out, h => by
    have : left = [] := List.length_eq_zero_iff.mp h
    subst this
    unfold pickOrder.go
    simp
  | fuel + 1, k, left, out, h => by
    unfold pickOrder.go
    have hi : next k % left.length < left.length := Nat.mod_lt _ (by omega)
    rw [List.getElem?_eq_getElem hi]
    dsimp only
    refine (pickGo_perm next fuel _ _ _ (by rw [List.length_eraseIdx_of_lt hi]; omega)).trans ?_
    rw [Array.toList_push, List.append_assoc]
    exact List.Perm.append_left _ (erase_perm _ _ hi)
theorem pick_perm {α : Type} (next : Nat → Nat) (xs : Array α) : (pickOrder next xs).toList.Perm xs.toList := by
  have := pickGo_perm next xs.size 0 xs.toList #[] (by simp)
  rw [List.nil_append] at this
  exact this
theorem wpAny_chose {M : Model} {A : Around} {E : Value → Shared → Prop} {s : Shared} {src : Source} {n : Nat} {Q : Nat → Shared → Prop} (hn : n ≠ 0) (h : ∀ i d', i < n → Q i { s with drawn := d' }) : wpAny M A (choose src n) Q E s :=
  fun Γ p hΓ => ⟨hn, h _ _ (Nat.mod_lt _ (Nat.pos_of_ne_zero hn))⟩
theorem wpAny_order {M : Model} {A : Around} {E : Value → Shared → Prop} {α : Type} : ∀ (n : Nat) (xs : List α) (s : Shared) (Q : List α → Shared → Prop), xs.length = n → (∀ ys d', ys.Perm xs → Q ys { s with drawn := d' }) → wpAny M A (drawOrder n xs) Q E s
  | 0, xs, s, Q, h, q => by
    have : xs = [] := List.length_eq_zero_iff.mp h
    subst this
    unfold drawOrder
    exact wpAny_pure (q [] s.drawn (.refl _))
  | n + 1, [], s, Q, h, q => by simp at h
  | n + 1, x :: xs, s, Q, h, q => by
    unfold drawOrder
    refine wpAny_bind (m := choose .order (x :: xs).length) (wpAny_chose (by simp) fun i d' hi => ?_)
    rw [List.getElem?_eq_getElem hi]
    dsimp only
    refine wpAny_bind (wpAny_order n _ _ _ (by rw [List.length_eraseIdx_of_lt hi]; omega) fun ys d2 hp => wpAny_pure (q _ d2 ?_))
    exact (List.Perm.cons _ hp).trans (erase_perm _ _ hi)
end L2
end
section
set_option Elab.async false
set_option linter.all false
set_option maxRecDepth 100000
set_option maxHeartbeats 4000000
namespace L2
open PySem PySem.Spec PyProof.Rows LX
/-- a set of numbers, its table rising and led as the world has it -/
def SetT (P : Program) (w : World) (h : Heap) (a : Addr) (S : Int → Bool) (n : Nat) : Prop :=
  ∃ o es ep t, h.get? a = some o ∧ o.ExactSet ∧ o.data = .set es ep t ∧ ElemsOf (intKind P w) es.toList ∧ (∀ k, S k = true ↔ ∃ e ∈ es.toList, (intKind P w).is k e.2 = true)
    ∧ es.size < scanBound ∧ t.fits es.size = true ∧ es.size = n ∧ Tab (!w.params.followText "set-order") t
section
variable {P : Program} {w : World} {A : Around} {E : Value → Shared → Prop} {s : Shared} {a : Addr} {S : Int → Bool} {n : Nat}
theorem SetT.keep {h h' : Heap} (x : SetT P w h a S n) (k : ∀ o, h.get? a = some o → h'.get? a = some o) : SetT P w h' a S n :=
  let ⟨o, es, ep, t, e, r⟩ := x
  ⟨o, es, ep, t, k o e, r⟩
theorem SetT.as {h : Heap} {S' : Int → Bool} {n' : Nat} (x : SetT P w h a S n) (e : ∀ k, S k = S' k) (en : n = n') : SetT P w h a S' n' := by
  cases (funext e : S = S')
  cases en
  exact x
theorem SetT.typeIs (x : SetT P w s.heap a S n) : s.TypeIs (.ref a) "set" := let ⟨o, _, _, _, e, c, _⟩ := x; ⟨o, e, c.1⟩
theorem setT_put {h : Heap} {o : Obj} {es es' : Array (Int × Value)} {ep : Nat} {t t' : SetTable} {S' : Int → Bool} (ho : h.get? a = some o) (hx : o.ExactSet) (hd : o.data = .set es ep t) (he : ElemsOf (intKind P w) es'.toList)
    (hm : ∀ k, S' k = true ↔ ∃ e ∈ es'.toList, (intKind P w).is k e.2 = true) (hb : es'.size < scanBound) (hf : t'.fits es'.size = true) (ht : Tab (!w.params.followText "set-order") t') :
    (h.update a (Obj.putSet es' t')).get? a = some { o with data := .set es' (ep + 1) t' } ∧ SetT P w (h.update a (Obj.putSet es' t')) a S' es'.size := by
  have hg := (SetOf_store (knd := intKind P w) ho hx hd he hm hb hf).1
  exact ⟨hg, _, es', ep + 1, t', hg, hx, rfl, he, hm, hb, hf, rfl, ht⟩
theorem setT_tail {g : Bool → Sem Unit} (hg : ∀ (b : Bool) (u : Shared) (Z : Unit → Shared → Prop), Z () u → wpAny (model P w) A (g b) Z E u) {o : Obj} {es : Array (Int × Value)} {ep : Nat} {t : SetTable} (ho : s.heap.get? a = some o) (hx : o.ExactSet) (hd : o.data = .set es ep t)
    {e1 : Array (Int × Value)} {t2 : SetTable} {S' : Int → Bool} (he : ElemsOf (intKind P w) e1.toList) (hm : ∀ k, S' k = true ↔ ∃ e ∈ e1.toList, (intKind P w).is k e.2 = true) (hb : e1.size < scanBound) (hf : t2.fits e1.size = true)
    (ht : Tab (!w.params.followText "set-order") t2) {wd : Bool} {R : Option Bool → Shared → Prop} (q : ∀ h', Heap.SameBut a s.heap h' → SetT P w h' a S' e1.size → R (some true) { s with heap := h' }) :
    wpAny (model P w) A (do
        storeSet a e1 t2
        if (!wd && t2.tooFull) = true then do
            g (relayAll t2 e1 (SetTable.grown e1.size)).2.2
            storeSet a (relayAll t2 e1 (SetTable.grown e1.size)).1 (relayAll t2 e1 (SetTable.grown e1.size)).2.1
            pure (some true)
          else pure (some true)) R E s := by
  refine wpAny_bind (wpAny_storeSet_of ho hd ?_ (fits_of_scanBound hb))
  obtain ⟨o1, x1⟩ := setT_put (S' := S') ho hx hd he hm hb hf ht
  have k1 := Heap.SameBut.update s.heap a (Obj.putSet e1 t2)
  refine wpAny_ite_split (fun _ => ?_) (fun _ => wpAny_pure (q _ k1 x1))
  have r1 := relayAll_perm t2 e1 (SetTable.grown e1.size)
  have r2 := relayAll_fits t2 e1 (SetTable.grown e1.size)
  have r3 := ht.relay e1 (SetTable.grown e1.size)
  generalize relayAll t2 e1 (SetTable.grown e1.size) = Z at r1 r2 r3 ⊢
  have hz : Z.1.size = e1.size := by have := r1.length_eq; simpa using this
  have hbz : Z.1.size < scanBound := by omega
  refine wpAny_bind (hg _ _ _ (wpAny_bind (wpAny_storeSet_of o1 rfl ?_ (fits_of_scanBound hbz))))
  have x2 := (setT_put (S' := S') o1 hx rfl (he.perm r1) (fun k => (hm k).trans ⟨fun ⟨e, z, y⟩ => ⟨e, r1.mem_iff.mpr z, y⟩, fun ⟨e, z, y⟩ => ⟨e, r1.mem_iff.mp z, y⟩⟩) hbz r2 r3).2
  exact wpAny_pure (q _ (k1.trans (Heap.SameBut.update _ a _)) (x2.as (fun _ => rfl) hz))
theorem setT_add {k : Int} {x : Value} {Q : Bool → Shared → Prop} (hk : (intKind P w).is k x = true) (hsc : x.scannable = true) (hS : SetT P w s.heap a S n) (hroom : n + 1 < scanBound)
    (q : ∀ h', Heap.SameBut a s.heap h' → SetT P w h' a (fun k' => S k' || decide (k' = k)) (if S k then n else n + 1) → Q (!S k) { s with heap := h' }) :
    wpAny (model P w) A (setAddHashed a x ((intKind P w).hash k)) Q E s := by
  obtain ⟨o, es, ep, t, ho, hx, hd, he, hm, hb, hf, hn, ht⟩ := hS
  have hb1 : es.size + 1 < scanBound := by omega
  unfold setAddHashed setAddHashedIn
  refine wpAny_holding (wpAny_bind (wpAny_setState_of ho hd hf ?_))
  dsimp only
  rw [byScan_of hsc hb he, if_pos rfl]
  unfold setAddByScan
  refine wpAny_bind (wpAny_bind (wpAny_rule (wpAny_bind (wpAny_setScan_of hk ho hd hf he ?_))))
  cases hr : List.findIdx? (fun e => (intKind P w).is k e.2) es.toList with
  | some j =>
    dsimp only
    obtain ⟨hj, pj, _⟩ := List.findIdx?_eq_some_iff_getElem.mp hr
    have sk : S k = true := (hm k).mpr ⟨es.toList[j], List.getElem_mem hj, pj⟩
    refine wpAny_pure (wpAny_pure ?_)
    have := q s.heap (Heap.SameBut.refl a s.heap) ⟨o, es, ep, t, ho, hx, hd, he, fun k' => by
      rw [Bool.or_eq_true, decide_eq_true_eq, ← hm k']
      exact ⟨fun z => z.elim id fun e => by rw [e]; exact sk, .inl⟩, hb, hf, by rw [sk]; exact hn, ht⟩
    rw [sk] at this
    exact this
  | none =>
    dsimp only
    have sk : S k = false := by
      cases hz : S k with
      | false => rfl
      | true =>
        obtain ⟨e, z, y⟩ := (hm k).mp hz
        have := List.findIdx?_eq_none_iff.mp hr e z
        rw [y] at this
        cases this
    have gw : ∀ (b : Bool) {u : Shared} {Z : Unit → Shared → Prop}, Z () u → wpAny (model P w) A (match b with | true => rule "set.scan.the-table-gave-way" | false => pure ()) Z E u := fun b u Z z => by
      cases b
      · exact wpAny_pure z
      · exact wpAny_rule z
    have l1 := layNew_perm t es ((intKind P w).hash k) x
    have l2 := layNew_fits t es ((intKind P w).hash k) x
    have l3 := ht.lay es ((intKind P w).hash k) x
    generalize layNew t es ((intKind P w).hash k) x = L at l1 l2 l3 ⊢
    obtain ⟨e1, t1, wd, gave⟩ := L
    dsimp only at l1 l2 l3 ⊢
    rw [Array.toList_push] at l1
    have he1 : ElemsOf (intKind P w) e1.toList := (he.push hk hsc).perm l1
    have hm1 : ∀ k', (S k' || decide (k' = k)) = true ↔ ∃ e ∈ e1.toList, (intKind P w).is k' e.2 = true := mem_push_iff hk hm l1
    have hz1 : e1.size = n + 1 := by have := l1.length_eq; simp at this; omega
    have hb2 : e1.size < scanBound := by omega
    refine wpAny_bind (gw _ ?_)
    have fin : ∀ h', Heap.SameBut a s.heap h' → SetT P w h' a (fun k' => S k' || decide (k' = k)) e1.size → Q true { s with heap := h' } := fun h' z1 z2 => by
      have := q h' z1
      rw [sk] at this
      exact this (z2.as (fun _ => rfl) hz1)
    split
    · refine wpAny_bind ?_
      rw [hashByValue_scannable 8 hsc]
      refine wpAny_pure (setT_tail (fun b u Z z => gw b z) ho hx hd he1 hm1 hb2 ?_ ?_ fun h' z1 z2 => wpAny_pure (fin h' z1 z2))
      · split
        · exact l2
        · exact SetTable.fits_plain_off l2
      · split
        · exact l3
        · exact l3.dull
    · refine wpAny_bind (wpAny_pure ?_)
      rw [if_pos rfl]
      exact setT_tail (fun b u Z z => gw b z) ho hx hd he1 hm1 hb2 l2 l3 fun h' z1 z2 => wpAny_pure (fin h' z1 z2)
end
end L2
end
section
set_option Elab.async false
set_option linter.all false
set_option maxRecDepth 100000
set_option maxHeartbeats 4000000
namespace L2
open PySem PySem.Spec PyProof.Rows LX
section
variable {P : Program} {w : World} {A : Around} {R : Result → Shared → Prop} {I : Addr} {fp wr : List Addr} {G : Array GenState → Array GenState → Prop} {n : Nat} {p : Nat → Value → Prop} {St : Nat → Shared → Prop}
theorem setT_loop (W : WalksS P w A.in1 I fp wr G n p St) (D : Addr) (hD : D ∉ fp) (val : Nat → Int) (hv : ∀ i v, p i v → ∃ t, v = .int (val i) t) (hb : n + 1 < scanBound) : ∀ (k i : Nat) (s : Shared), n - i = k → i ≤ n → St i s →
    SetT P w s.heap D (fun z => (firstMet val i).any (· == z)) (firstMet val i).length → (∀ s', Moved (D :: wr) G s s' → SetT P w s'.heap D (fun z => (firstMet val n).any (· == z)) (firstMet val n).length → R (.ok (.ret .none)) s') →
    codeAny (model P w) A (.builtin "set.update.loop" ⟨[.ref D, .ref I], []⟩) R s := by
  have hw : D ∉ wr := fun h => hD (W.sub _ h)
  have hsub : ∀ b ∈ wr, b ∈ D :: wr := fun b z => List.mem_cons_of_mem _ z
  intro k
  induction k with
  | zero =>
    intro i s hk hi st hS q
    have e : i = n := by omega
    subst e
    refine codeAny_builtin PyProof.Rows.F.entry_set_update_loop ?_
    rw [Around.under_plainId PyProof.Rows.F.plain_set_update_loop _]
    show wpAny _ A.in1 (pyNext (.ref I) >>= _) _ _ s
    exact wpAny_bind (W.done s _ _ st fun s' hm => wpAny_pure (q s' (hm.mono hsub) (hS.keep fun o z => hm.heap D o hw z)))
  | succ k ih =>
    intro i s hk hi st hS q
    have hlt : i < n := by omega
    refine codeAny_builtin PyProof.Rows.F.entry_set_update_loop ?_
    rw [Around.under_plainId PyProof.Rows.F.plain_set_update_loop _]
    show wpAny _ A.in1 (pyNext (.ref I) >>= _) _ _ s
    refine wpAny_bind (W.item i s _ _ hlt st fun v s' hP st' hm => ?_)
    obtain ⟨t, rfl⟩ := hv i v hP
    have hS' := hS.keep (h' := s'.heap) fun o z => hm.heap D o hw z
    show wpAny _ A.in1 (holding [Value.int (val i) t] (setAdd D (.int (val i) t)) >>= _) _ _ s'
    refine wpAny_bind (wpAny_holding ?_)
    unfold setAdd
    refine wpAny_holding (wpAny_bind ((intKind P w).pyHash (k := val i) (intKind_is _ _ _ _) ?_))
    have hr : (firstMet val i).length + 1 < scanBound := by have := firstMet_length_le val i; omega
    refine setT_add (s := { s' with toks := s'.toks + 1 }) (intKind_is _ _ _ _) rfl hS' hr fun h' sb x2 => ?_
    have x3 : SetT P w h' D (fun z => (firstMet val (i + 1)).any (· == z)) (firstMet val (i + 1)).length := x2.as (fun z => by rw [firstMet_succ, step_any]) (by rw [firstMet_succ, step_length])
    refine wpAny_pure ⟨plainId_quiet PyProof.Rows.F.plain_set_update_loop _, ih (i + 1) _ (by omega) hlt (W.frame _ s' _ _ st' (Nat.le_succ _) fun b z o e => ?_) x3 fun s2 m2 y2 => ?_⟩
    · rw [sb.2 b (fun h : b = D => hD (by rw [← h]; exact z))]
      exact e
    · refine q s2 (Moved.trans W.gtrans ((hm.mono hsub).then_heap (Nat.le_succ _) fun b o z e => ?_) m2) y2
      rw [sb.2 b (fun h : b = D => z (by rw [h]; exact List.mem_cons_self))]
      exact e
end
section
variable {P : Program} {w : World} {A : Around} {E : Value → Shared → Prop} {s : Shared}
abbrev freshSet (w : World) : Obj := { cls := .type "set", dict := none, data := .set #[] 0 (.fresh 0 0 (!w.params.followText "set-order")) }
theorem setT_fresh {h : Heap} {a : Addr} (e : h.get? a = some (freshSet w)) : SetT P w h a (fun _ => false) 0 :=
  ⟨_, #[], 0, _, e, ⟨rfl, rfl, rfl⟩, rfl, fun _ z => by simp at z, fun k => by simp, by decide, by rfl, rfl, rfl, fun i k h1 h2 => absurd h2 (Nat.not_lt_zero _)⟩
theorem setT_new (a : Value) {Z : Value → Shared → Prop} (q : Z (.ref s.heap.objs.size) { s with heap := s.heap.push (freshSet w) }) :
    codeAny (model P w) A (.call (.builtin "set.__new__") ⟨[.type "set", a], []⟩) (wants Z E) s := by
  refine codeAny_of_tree ?_
  show wpAny _ A.in1 (do checkBuiltinCall "set.__new__" ⟨[.type "set", a], []⟩; again (.builtin "set.__new__" ⟨[.type "set", a], []⟩)) _ _ s
  refine wpAny_bind (wpAny_of_eq (PySem.F.newCall_set_1 a) (wpAny_pure ⟨plainId_quiet PySem.F.plain_set_new _, codeAny_builtin PySem.F.entry_set_new ?_⟩))
  rw [Around.under_plainId PySem.F.plain_set_new _]
  unfold Builtin.«set.__new__» Builtin.Frozenset.newClass
  have hs := sub_set_self
  obtain ⟨hp, g, d, tk, os⟩ := s
  dsimp only
  wp_walk
  refine wpAny_askSetting (wpAny_pure ?_)
  dsimp only
  simp only [newObj]
  exact wpAny_bind (wpAny_alloc (wpAny_pure (wpAny_pure q)))
/-- set(l), l a list of numbers -/
theorem setT_call {l : Addr} {items : Array Value} {ns : List Int} {Q : Value → Shared → Prop} (hh : A.handled = none) (hl : s.heap.IsList l items) (hi : IntsAre items.toList ns) (hb : items.size + 1 < scanBound)
    (q : ∀ (h' : Heap) (tk : Nat), SetT P w h' s.heap.objs.size (fun z => (firstMet (fun i => ns.getD i 0) items.size).any (· == z)) (firstMet (fun i => ns.getD i 0) items.size).length →
      (∀ b o, s.heap.get? b = some o → h'.get? b = some o) → Q (.ref s.heap.objs.size) { s with heap := h', toks := tk }) : wpAny (model P w) A (call (.type "set") [.ref l]) Q E s := by
  obtain ⟨c, tl, hmro⟩ := PySem.F.called_set.mro
  have hmade := PySem.F.called_set.made
  have hsub := PySem.F.called_set.sub
  refine wpAny_call (codeAny_of_tree ?_)
  show wpAny _ _ (callAny (.type "set") _) _ _ _
  refine wpAny_pure ⟨Code.quiet_builtin _ (by decide +kernel), codeAny_builtin PySem.F.entry_type_call ?_⟩
  rw [Around.under_plain (weight_type_call_type "set" [.ref l] []) rfl]
  have h1 := PySem.F.called_set.notType
  have h2 := PySem.F.called_set.canCreate
  have hct := PySem.F.typeCall_set_1 (.ref l)
  (repeat (any_goals (first | assumption | wp_step)))
  refine codeAny_mono (setT_new (.ref l) (E := E) (Z := fun v u => v = .ref s.heap.objs.size ∧ u = { s with heap := s.heap.push (freshSet w) }) ⟨rfl, rfl⟩) fun r u hr => ?_
  cases r with
  | error e => exact hr
  | ok fl =>
    cases fl with
    | ret obj =>
      obtain ⟨rfl, rfl⟩ := hr
      have hS : (s.heap.push (freshSet w)).get? s.heap.objs.size = some (freshSet w) := Heap.get?_push_size _ rfl
      have hT : Shared.TypeIs { s with heap := s.heap.push (freshSet w) } (.ref s.heap.objs.size) "set" := ⟨_, hS, rfl⟩
      have hli := PySem.F.called_set.init.lookup
      have hbi := PySem.F.called_set.init.bind (.ref s.heap.objs.size)
      (repeat (any_goals (first | assumption | wp_step)))
      refine codeAny_mono (codeAny_call_builtin (R := wants (fun r u => r = .none ∧ ∃ h' tk, u = { s with heap := h', toks := tk } ∧ SetT P w h' s.heap.objs.size (fun z => (firstMet (fun i => ns.getD i 0) items.size).any (· == z)) (firstMet (fun i => ns.getD i 0) items.size).length ∧
          (∀ b o, s.heap.get? b = some o → h'.get? b = some o)) E) PySem.F.called_set.init.plain PySem.F.entry_set_init (check_set_init_1 hT ?_)) fun r₂ s₂ hr₂ => ?_
      · obtain ⟨⟨oc, od, oD, os⟩, hol, hcl, nl, hdl⟩ := hl
        simp only at hcl hdl
        subst hcl hdl
        have hol' : (s.heap.push (freshSet w)).get? l = some { cls := .type "list", dict := od, data := .seq items nl, slots := os } := Heap.get?_push_of_some _ hol
        have z1 := PySem.F.sub_list_set
        have z2 := PySem.F.sub_list_frozenset
        have z3 : (Value.type "list" == Value.type "dict") = false := by decide
        have hl1 : (s.heap.push (freshSet w)).IsList l items := ⟨_, hol', rfl, nl, rfl⟩
        unfold Builtin.«set.__init__» noKeywords Builtin.Frozenset.updateFrom
        generalize hPI : pyIter = PI
        wp_walk
        subst hPI
        refine wpAny_pyIter_list hl1 (wpAny_bind (wpAny_runValue ?_))
        have hlS : l < s.heap.objs.size := Heap.lt_size hol
        have h3 : A.in1.in1.in1.handled = none := by simp [hh]
        have hneI : l ≠ (s.heap.push (freshSet w)).objs.size := by
          rw [Heap.size_push]
          exact Nat.ne_of_lt (Nat.lt_succ_of_lt hlS)
        have hSf : s.heap.objs.size ∉ [(s.heap.push (freshSet w)).objs.size, l] := by
          rw [Heap.size_push]
          simp only [List.mem_cons, List.not_mem_nil, or_false, not_or]
          exact ⟨Nat.ne_of_lt (Nat.lt_succ_self _), fun z => Nat.lt_irrefl _ (Eq.mp (by rw [z]) hlS)⟩
        refine setT_loop ((Walks.list h3 _ l hneI items).toS) s.heap.objs.size hSf (fun i => ns.getD i 0) (fun i v hv => PyProof.Rows.IntsAre.int_at hi i v (by rw [Array.getElem?_toList]; exact hv)) hb (items.size - 0) 0 _ (by omega) (Nat.zero_le _)
          ⟨⟨_, Heap.get?_push_size _ rfl, rfl, rfl⟩, (hl1.push _)⟩ ?hS0 ?hR
        case hS0 => exact (setT_fresh (P := P) (Heap.get?_push_of_some _ hS)).as (fun _ => rfl) rfl
        case hR =>
          intro s' hm hS'
          obtain ⟨h', g', d', tk', os'⟩ := s'
          have eg : g' = s.gens := hm.gens
          have ed : d' = s.drawn := hm.drawn
          have eo : os' = s.os := hm.os
          subst eg ed eo
          show wpAny _ _ _ _ _ _
          refine wpAny_pure ?_
          show wpAny _ _ (ret Value.none) _ _ _
          refine wpAny_pure ⟨rfl, h', tk', rfl, hS', fun b o e => ?_⟩
          have hb0 := Heap.lt_size e
          exact hm.heap b o (by rw [Heap.size_push]; simp only [List.mem_cons, List.not_mem_nil, or_false, not_or]; exact ⟨Nat.ne_of_lt hb0, Nat.ne_of_lt (Nat.lt_succ_of_lt hb0)⟩) (Heap.get?_push_of_some _ (Heap.get?_push_of_some _ e))
      · cases r₂ with
        | error e => exact hr₂
        | ok fl₂ =>
          cases fl₂ with
          | ret r =>
            obtain ⟨rfl, h', tk, rfl, hS', hk'⟩ := hr₂
            (repeat (any_goals (first | assumption | wp_step)))
            exact q _ _ hS' hk'
          | _ => exact hr₂.elim
    | _ => exact hr.elim
end
end L2
end
section
set_option Elab.async false
set_option linter.all false
set_option maxRecDepth 100000
set_option maxHeartbeats 4000000
namespace L2
open PySem PySem.Spec PyProof.Rows LX
/-! ### what the library has of a set's iterator -/
theorem so_next : Slot "set_iterator" "__next__" "set_iterator.__next__" := .of (owner := "set_iterator") (n := "__next__") (by rw [typeLookup_type, builtinLookup_eq_fast]; kernel_rfl) (by decide +kernel) (by decide +kernel) (by decide +kernel) (by first | exact .inl (by decide +kernel) | exact .inr (by decide +kernel)) (by rw [isSubtype_type]; kernel_rfl)
theorem so_iter : Slot "set_iterator" "__iter__" "set_iterator.__iter__" := .of (owner := "set_iterator") (n := "__iter__") (by rw [typeLookup_type, builtinLookup_eq_fast]; kernel_rfl) (by decide +kernel) (by decide +kernel) (by decide +kernel) (by first | exact .inl (by decide +kernel) | exact .inr (by decide +kernel)) (by rw [isSubtype_type]; kernel_rfl)
theorem en_next : entryFor table "set_iterator.__next__" = some Builtin.«set_iterator.__next__» := entryFor_of_tree (by kernel_rfl)
theorem en_iter : entryFor table "set_iterator.__iter__" = some Builtin.«dict_keyiterator.__iter__» := entryFor_alias (id' := "dict_keyiterator.__iter__") (by kernel_rfl) rfl (by decide +kernel) (by kernel_rfl)
theorem en_siter : entryFor table "set.__iter__" = some Builtin.«frozenset.__iter__» := entryFor_alias (id' := "frozenset.__iter__") (by kernel_rfl) rfl (by decide +kernel) (by kernel_rfl)
theorem ow_si : Manifest.owners.lookup (String.ofList ['r', 'o', 't', 'a', 'r', 'e', 't', 'i', '_', 't', 'e', 's'].reverse) = some Manifest.sig_set_iterator := by kernel_rfl
theorem ar_next (a : Value) : argsOk "set_iterator.__next__" ⟨[a], []⟩ := by
  unfold argsOk; rw [signature?_of (id := "set_iterator.__next__") (n := ['_', '_', 't', 'x', 'e', 'n', '_', '_']) (o := ['r', 'o', 't', 'a', 'r', 'e', 't', 'i', '_', 't', 'e', 's']) (by kernel_rfl) ow_si]; kernel_rfl
theorem ar_iter (a : Value) : argsOk "set_iterator.__iter__" ⟨[a], []⟩ := by
  unfold argsOk; rw [signature?_of (id := "set_iterator.__iter__") (n := ['_', '_', 'r', 'e', 't', 'i', '_', '_']) (o := ['r', 'o', 't', 'a', 'r', 'e', 't', 'i', '_', 't', 'e', 's']) (by kernel_rfl) ow_si]; kernel_rfl
theorem ar_siter (a : Value) : argsOk "set.__iter__" ⟨[a], []⟩ := by
  unfold argsOk; rw [signature?_of (id := "set.__iter__") (n := ['_', '_', 'r', 'e', 't', 'i', '_', '_']) (o := ['t', 'e', 's']) (by kernel_rfl) PySem.F.owner_set]; kernel_rfl
/-- an iterator of the set at a -/
def SetIt (h : Heap) (it : Addr) (first : Value) (i : Nat) (a : Addr) (n ep : Nat) : Prop := ∃ o, h.get? it = some o ∧ o.cls = .type "set_iterator" ∧ o.data = .fields #[first, .int i 0, .ref a, .int n 0, .int ep 0]
section
variable {P : Program} {w : World} {A : Around} {E : Value → Shared → Prop} {s : Shared} {it a : Addr} {first : Value} {i n ep : Nat}
theorem SetIt.typeIs (x : SetIt s.heap it first i a n ep) : s.TypeIs (.ref it) "set_iterator" := let ⟨o, e, c, _⟩ := x; ⟨o, e, c⟩
theorem SetIt.keep {h h' : Heap} (x : SetIt h it first i a n ep) (k : ∀ o, h.get? it = some o → h'.get? it = some o) : SetIt h' it first i a n ep := let ⟨o, e, r⟩ := x; ⟨o, k o e, r⟩
theorem SetIt.self {Q : Value → Shared → Prop} (x : SetIt s.heap it first i a n ep) (q : Q (.ref it) s) : wpAny (model P w) A (pyIter (.ref it)) Q E s := by
  refine wpAny_pyIter_slot x.typeIs so_iter (wpAny_call_entry so_iter x.typeIs en_iter ?_ (ar_iter _))
  exact wpAny_pure ⟨_, rfl, "set_iterator", _, x.typeIs, so_next.lookup, q⟩
/-- StopIteration flies -/
theorem stop_flies {α : Type} {Q : α → Shared → Prop} (hh : A.handled = none) (q : ∀ h' e, (∀ b o, s.heap.get? b = some o → h'.get? b = some o) → (∃ o, h'.get? e = some o ∧ o.cls = .type "StopIteration") → E (.ref e) { s with heap := h' }) :
    wpAny (model P w) A (newExc (.type "StopIteration") [] >>= fun e => (raiseNew e : Sem α)) Q E s := by
  refine wpAny_bind ?_
  simp only [newExc, newTuple]
  refine wpAny_bind (wpAny_newObj_type ?_ (by size_fits))
  refine wpAny_bind (m := firstArgMember _ _) (wpAny_of_eq (a := Value.none) (by first | rfl | (simp only [firstArgMember]; rfl)) (wpAny_newObj_type ?_ (by size_fits)))
  simp only [raiseNew]
  refine wpAny_bind (wpAny_handled ?_)
  rw [hh]
  exact wpAny_bind (wpAny_pure (wpAny_throw (q _ _ (fun b o e => Heap.get?_push_of_some _ (Heap.get?_push_of_some _ e)) ⟨_, Heap.get?_push_size _ rfl, rfl⟩)))
/-- the set at a is this very object -/
structure SetAt (h : Heap) (a : Addr) (es : Array (Int × Value)) (ep : Nat) (t : SetTable) : Prop where
  ex : ∃ o, h.get? a = some o ∧ o.data = .set es ep t
  fit : t.fits es.size = true
theorem SetAt.keep {h h' : Heap} {es : Array (Int × Value)} {t : SetTable} (x : SetAt h a es ep t) (k : ∀ o, h.get? a = some o → h'.get? a = some o) : SetAt h' a es ep t :=
  ⟨let ⟨o, e, r⟩ := x.ex; ⟨o, k o e, r⟩, x.fit⟩
theorem SetAt.state {es : Array (Int × Value)} {t : SetTable} {Q : (Array (Int × Value) × Nat × SetTable) → Shared → Prop} (x : SetAt s.heap a es ep t) (q : Q (es, ep, t) s) : wpAny (model P w) A (setState a) Q E s :=
  let ⟨_, e, r⟩ := x.ex
  wpAny_setState_of e r x.fit q
theorem SetAt.entries {es : Array (Int × Value)} {t : SetTable} {Q : Array (Int × Value) → Shared → Prop} (x : SetAt s.heap a es ep t) (q : Q es s) : wpAny (model P w) A (setEntries a) Q E s :=
  let ⟨_, e, r⟩ := x.ex
  wpAny_setEntries_of e r x.fit q
theorem SetAt.epoch {es : Array (Int × Value)} {t : SetTable} {Q : Nat → Shared → Prop} (x : SetAt s.heap a es ep t) (q : Q ep s) : wpAny (model P w) A (setEpoch a) Q E s :=
  let ⟨_, e, r⟩ := x.ex
  wpAny_setEpoch_of e r x.fit q
theorem wpAny_byText {Q : Bool → Shared → Prop} (q : Q (w.params.followText "set-order") s) : wpAny (model P w) A setsByText Q E s := by
  unfold setsByText
  exact wpAny_bind (wpAny_askSetting (wpAny_pure q))
/-- what the next turn tells, by slots -/
def Slots (P : Program) (w : World) (a : Addr) (es : Array (Int × Value)) (ep : Nat) (t : SetTable) (sl : Nat → Nat) (vs : List Value) : Prop :=
  vs.length = es.size ∧ sl 0 = 0 ∧ ∀ (A : Around) (E : Value → Shared → Prop) (s : Shared) (i : Nat) (Q : Option (Value × Nat) → Shared → Prop), SetAt s.heap a es ep t → i ≤ vs.length → Q (vs[i]?.map fun v => (v, sl (i + 1))) s → wpAny (model P w) A (setNext a (sl i) i ep) Q E s
end
end L2
end
section
set_option Elab.async false
set_option linter.all false
set_option maxRecDepth 100000
set_option maxHeartbeats 4000000
namespace L2
open PySem PySem.Spec PyProof.Rows LX
section
variable {P : Program} {w : World} {A : Around} {E : Value → Shared → Prop} {s : Shared} {it a : Addr} {first : Value} {i n ep : Nat} {es : Array (Int × Value)} {t : SetTable}
theorem slots_text (hb : w.params.followText "set-order" = true) : Slots P w a es ep t (fun _ => 0) ((pickOrder (w.params.setOrder a ep) es).toList.map (·.2)) := by
  have hp := pick_perm (w.params.setOrder a ep) es
  refine ⟨by rw [List.length_map, hp.length_eq, Array.length_toList], rfl, fun A E s i Q x hi q => ?_⟩
  unfold setNext
  refine wpAny_bind (x.state ?_)
  dsimp only
  refine wpAny_bind (wpAny_byText ?_)
  rw [hb, if_pos rfl]
  refine wpAny_ite_split (fun h => absurd h (by simp)) (fun _ => ?_)
  unfold setWalk
  refine wpAny_bind (wpAny_bind (x.state ?_))
  dsimp only
  refine wpAny_bind (wpAny_byText ?_)
  rw [hb, if_pos rfl]
  refine wpAny_bind (wpAny_askSetting (wpAny_pure (wpAny_pure ?_)))
  rw [List.getElem?_map, Array.getElem?_toList] at q
  rw [Option.map_map] at q
  exact q
def slL (t : SetTable) : Nat → Nat
  | 0 => 0
  | k + 1 => t.place.getD k 0 + 1
theorem slots_led (hb : w.params.followText "set-order" = false) (ht : Tab (!w.params.followText "set-order") t) (hn : (!t.plain && decide (es.size > 1)) = false) (hf : t.fits es.size = true) :
    Slots P w a es ep t (slL t) (es.toList.map (·.2)) := by
  obtain ⟨hl, hr⟩ := ht
  have hz : t.place.size = es.size := by
    simp only [SetTable.fits, Bool.and_eq_true, beq_iff_eq] at hf
    exact hf.1
  refine ⟨by rw [List.length_map, Array.length_toList], rfl, fun A E s i Q x hi q => ?_⟩
  rw [List.length_map, Array.length_toList] at hi
  have hbl : SetTable.below t.place (slL t i) = i := by
    refine cut_one (below_cut hr _) ?_
    cases i with
    | zero => exact ⟨Nat.zero_le _, fun _ _ h => absurd h (Nat.not_lt_zero _), fun _ _ _ => Nat.zero_le _⟩
    | succ k =>
      have hk : k < t.place.size := by omega
      have e : t.place.getD k 0 = t.place[k] := by simp [Array.getD, hk]
      refine ⟨by omega, fun j h hj => ?_, fun j h hj => ?_⟩
      · show t.place[j] < t.place.getD k 0 + 1
        rw [e]
        by_cases z : j = k
        · subst z; omega
        · have := hr j k (by omega) hk
          omega
      · show t.place.getD k 0 + 1 ≤ t.place[j]
        rw [e]
        exact hr k j (by omega) h
  unfold setNext
  refine wpAny_bind (x.state ?_)
  dsimp only
  refine wpAny_bind (wpAny_byText ?_)
  rw [hb, if_neg Bool.false_ne_true]
  refine wpAny_ite_split (fun h => absurd h (by show ¬ (!t.plain && decide (es.size > 1)) = true; rw [hn]; exact Bool.false_ne_true)) (fun _ => ?_)
  refine wpAny_bind ?_
  show wpAny _ _ (if (!t.led && !es.isEmpty) = true then unsupported _ else pure ()) _ _ _
  rw [hl, hb]
  refine wpAny_pure ?_
  refine wpAny_pure ?_
  rw [hbl]
  rw [List.getElem?_map, Array.getElem?_toList] at q
  by_cases hlt : i < es.size
  · rw [Array.getElem?_eq_getElem hlt] at q ⊢
    rw [Array.getElem?_eq_getElem (show i < t.place.size by omega)]
    have e : t.place.getD i 0 = t.place[i]'(by omega) := by simp [Array.getD, show i < t.place.size by omega]
    dsimp only [Option.map] at q ⊢
    rw [show slL t (i + 1) = t.place.getD i 0 + 1 from rfl, e] at q
    exact q
  · have e : es[i]? = none := Array.getElem?_eq_none (by omega)
    rw [e] at q ⊢
    exact q
end
section
variable {P : Program} {w : World} {A : Around} {E : Value → Shared → Prop} {s : Shared} {I a : Addr} {ep : Nat} {es : Array (Int × Value)} {t : SetTable} {sl : Nat → Nat} {vs : List Value}
theorem next_slot {i : Nat} {Q : Option Value → Shared → Prop} {v : Value} (hs : Slots P w a es ep t sl vs) (hne : a ≠ I) (x : SetIt s.heap I (.int (sl i) 0) i a es.size ep) (y : SetAt s.heap a es ep t) (hv : vs[i]? = some v)
    (q : ∀ h', SetIt h' I (.int (sl (i + 1)) 0) (i + 1) a es.size ep → Heap.SameBut I s.heap h' → Q (some v) { s with heap := h' }) : wpAny (model P w) A (pyNext (.ref I)) Q E s := by
  obtain ⟨o, ho, hc, hd⟩ := id x
  unfold pyNext
  refine wpAny_bind (wpAny_attempt (wpAny_callSpecial?_slot (name := Str.ofString "__next__") x.typeIs so_next (wpAny_call_entry so_next x.typeIs en_next ?_ (ar_next _))))
  unfold Builtin.«set_iterator.__next__»
  refine wpAny_bind (wpAny_pure ?_)
  refine wpAny_bind (wpAny_fieldsOf ho hd ?_)
  dsimp only
  refine wpAny_bind (y.entries ?_)
  refine wpAny_ite_split (fun h => absurd h (by simp)) (fun _ => ?_)
  refine wpAny_bind (hs.2.2 _ _ _ i _ y (by have := (List.getElem?_eq_some_iff.mp hv).1; omega) ?_)
  rw [hv]
  dsimp only [Option.map]
  refine wpAny_bind (wpAny_setField ho hd (by simp) ?_)
  have o1 := Heap.get?_update_self (Obj.mapFields fun vs => vs.setIfInBounds 0 (rawInt (sl (i + 1)))) ho (Obj.isFreed_of_fields (Obj.data_mapFields hd _))
  have d1 := Obj.data_mapFields hd fun vs => vs.setIfInBounds 0 (rawInt (sl (i + 1)))
  refine wpAny_bind (wpAny_setField o1 d1 (by simp) ?_)
  have o2 := Heap.get?_update_self (Obj.mapFields fun vs => vs.setIfInBounds 1 (rawInt ((i : Int) + 1))) o1 (Obj.isFreed_of_fields (Obj.data_mapFields d1 _))
  refine wpAny_pure ⟨v, rfl, wpAny_pure (q _ ⟨_, o2, ?_, ?_⟩ ((Heap.SameBut.update ..).trans (Heap.SameBut.update ..)))⟩
  · rw [Obj.cls_mapFields, Obj.cls_mapFields]
    exact hc
  · rw [Obj.data_mapFields d1]
    simp [rawInt]
theorem end_slot {Q : Option Value → Shared → Prop} (hs : Slots P w a es ep t sl vs) (hh : A.handled = none) (x : SetIt s.heap I (.int (sl es.size) 0) es.size a es.size ep) (y : SetAt s.heap a es ep t)
    (q : ∀ h', (∀ b o, b ≠ I → s.heap.get? b = some o → h'.get? b = some o) → Q none { s with heap := h' }) : wpAny (model P w) A (pyNext (.ref I)) Q E s := by
  obtain ⟨o, ho, hc, hd⟩ := id x
  unfold pyNext
  refine wpAny_bind (wpAny_attempt (wpAny_callSpecial?_slot (name := Str.ofString "__next__") x.typeIs so_next (wpAny_call_entry so_next x.typeIs en_next ?_ (ar_next _))))
  unfold Builtin.«set_iterator.__next__»
  refine wpAny_bind (wpAny_pure ?_)
  refine wpAny_bind (wpAny_fieldsOf ho hd ?_)
  dsimp only
  refine wpAny_bind (y.entries ?_)
  refine wpAny_ite_split (fun h => absurd h (by simp)) (fun _ => ?_)
  refine wpAny_bind (hs.2.2 _ _ _ es.size _ y (by rw [hs.1]; exact Nat.le_refl _) ?_)
  rw [List.getElem?_eq_none (by rw [hs.1]; exact Nat.le_refl _)]
  dsimp only [Option.map]
  refine wpAny_bind (wpAny_setField ho hd (by simp) ?_)
  refine stop_flies (by rw [Around.in1_handled]; exact hh) fun h' e k ⟨oe, he, hce⟩ => ?_
  refine wpAny_bind (wpAny_isInstance (T := "StopIteration") (b := true) ⟨oe, he, hce⟩ isSubtype_stop ?_)
  exact wpAny_pure (q _ fun b o hb e => k b o ((Heap.get?_update_other _ _ (Ne.symm hb)).trans e))
theorem walk_slots (hs : Slots P w a es ep t sl vs) (hh : A.handled = none) (hne : a ≠ I) : Walks P w A I [I, a] [I] es.size (fun i v => vs[i]? = some v) (fun i h => SetIt h I (.int (sl i) 0) i a es.size ep ∧ SetAt h a es ep t) where
  sub := fun b hb => by simp at hb; simp [hb]
  frame := fun _ _ _ st hk => ⟨st.1.keep fun o e => hk I (by simp) o e, st.2.keep fun o e => hk a (by simp) o e⟩
  item := fun i s Q E hi st hQ => by
    have hv : vs[i]? = some (vs[i]'(by rw [hs.1]; exact hi)) := List.getElem?_eq_getElem _
    refine next_slot hs hne st.1 st.2 hv fun h' x' sb => ?_
    exact hQ _ h' s.toks hv ⟨x', st.2.keep fun o e => by rw [sb.2 a hne]; exact e⟩ fun b o hb e => by rw [sb.2 b fun z => hb (by simp [z])]; exact e
  done := fun s Q E st hQ => end_slot hs hh st.1 st.2 fun h' k => hQ h' s.toks fun b o hb e => k b o (fun z => hb (by simp [z])) e
  self := fun _ _ _ _ st hQ => st.1.self hQ
/-! the drawn way: the places lie in a tuple -/
def TupAt (h : Heap) (T : Addr) (ys : List Nat) : Prop := ∃ o, h.get? T = some o ∧ ∃ n, o.data = .seq (ys.map fun (i : Nat) => rawInt i).toArray n
theorem TupAt.keep {h h' : Heap} {T : Addr} {ys : List Nat} (x : TupAt h T ys) (k : ∀ o, h.get? T = some o → h'.get? T = some o) : TupAt h' T ys := let ⟨o, e, r⟩ := x; ⟨o, k o e, r⟩
theorem next_drawn {i j : Nat} {T : Addr} {ys : List Nat} {Q : Option Value → Shared → Prop} {e : Int × Value} (x : SetIt s.heap I (.ref T) i a es.size ep) (y : SetAt s.heap a es ep t) (z : TupAt s.heap T ys) (hj : ys[i]? = some j) (he : es[j]? = some e)
    (q : ∀ h', SetIt h' I (.ref T) (i + 1) a es.size ep → Heap.SameBut I s.heap h' → Q (some e.2) { s with heap := h' }) : wpAny (model P w) A (pyNext (.ref I)) Q E s := by
  obtain ⟨o, ho, hc, hd⟩ := id x
  obtain ⟨oT, hT, nT, dT⟩ := z
  unfold pyNext
  refine wpAny_bind (wpAny_attempt (wpAny_callSpecial?_slot (name := Str.ofString "__next__") x.typeIs so_next (wpAny_call_entry so_next x.typeIs en_next ?_ (ar_next _))))
  unfold Builtin.«set_iterator.__next__»
  refine wpAny_bind (wpAny_pure ?_)
  refine wpAny_bind (wpAny_fieldsOf ho hd ?_)
  dsimp only
  refine wpAny_bind (y.entries ?_)
  refine wpAny_ite_split (fun h => absurd h (by simp)) (fun _ => ?_)
  refine wpAny_bind (wpAny_seqItems hT dT ?_)
  dsimp only
  have hg : (ys.map fun (i : Nat) => rawInt i).toArray[((i : Nat) : Int).toNat]? = some (Value.int j 0) := by
    rw [List.getElem?_toArray, List.getElem?_map, Int.toNat_natCast, hj]; rfl
  rw [hg]
  dsimp only
  unfold setNextDrawn
  refine wpAny_bind (wpAny_bind (y.state ?_))
  dsimp only
  refine wpAny_ite_split (fun h => absurd h (by simp)) (fun _ => ?_)
  rw [Int.toNat_natCast, he]
  refine wpAny_pure ?_
  refine wpAny_bind (wpAny_setField ho hd (by simp) ?_)
  have o2 := Heap.get?_update_self (Obj.mapFields fun vs => vs.setIfInBounds 1 (rawInt ((i : Int) + 1))) ho (Obj.isFreed_of_fields (Obj.data_mapFields hd _))
  refine wpAny_pure ⟨_, rfl, wpAny_pure (q _ ⟨_, o2, ?_, ?_⟩ (Heap.SameBut.update ..))⟩
  · rw [Obj.cls_mapFields]
    exact hc
  · rw [Obj.data_mapFields hd]
    simp [rawInt]
theorem end_drawn {T : Addr} {ys : List Nat} {Q : Option Value → Shared → Prop} (hh : A.handled = none) (x : SetIt s.heap I (.ref T) es.size a es.size ep) (y : SetAt s.heap a es ep t) (z : TupAt s.heap T ys) (hl : ys.length = es.size)
    (q : ∀ h', (∀ b o, b ≠ I → s.heap.get? b = some o → h'.get? b = some o) → Q none { s with heap := h' }) : wpAny (model P w) A (pyNext (.ref I)) Q E s := by
  obtain ⟨o, ho, hc, hd⟩ := id x
  obtain ⟨oT, hT, nT, dT⟩ := z
  unfold pyNext
  refine wpAny_bind (wpAny_attempt (wpAny_callSpecial?_slot (name := Str.ofString "__next__") x.typeIs so_next (wpAny_call_entry so_next x.typeIs en_next ?_ (ar_next _))))
  unfold Builtin.«set_iterator.__next__»
  refine wpAny_bind (wpAny_pure ?_)
  refine wpAny_bind (wpAny_fieldsOf ho hd ?_)
  dsimp only
  refine wpAny_bind (y.entries ?_)
  refine wpAny_ite_split (fun h => absurd h (by simp)) (fun _ => ?_)
  refine wpAny_bind (wpAny_seqItems hT dT ?_)
  dsimp only
  have hg : (ys.map fun (i : Nat) => rawInt i).toArray[((es.size : Nat) : Int).toNat]? = none := by
    rw [List.getElem?_toArray, List.getElem?_map, Int.toNat_natCast, List.getElem?_eq_none (by omega)]; rfl
  rw [hg]
  dsimp only
  refine wpAny_bind (wpAny_setField ho hd (by simp) ?_)
  have o1 := Heap.get?_update_self (Obj.mapFields fun vs => vs.setIfInBounds 0 (rawInt 0)) ho (Obj.isFreed_of_fields (Obj.data_mapFields hd _))
  have d1 := Obj.data_mapFields hd fun vs => vs.setIfInBounds 0 (rawInt 0)
  refine wpAny_bind (wpAny_setField o1 d1 (by simp) ?_)
  refine stop_flies (by rw [Around.in1_handled]; exact hh) fun h' e k ⟨oe, he, hce⟩ => ?_
  refine wpAny_bind (wpAny_isInstance (T := "StopIteration") (b := true) ⟨oe, he, hce⟩ isSubtype_stop ?_)
  exact wpAny_pure (q _ fun b o hb e => k b o ((Heap.get?_update_other _ _ (Ne.symm hb)).trans ((Heap.get?_update_other _ _ (Ne.symm hb)).trans e)))
theorem walk_drawn {T : Addr} {ys : List Nat} (hh : A.handled = none) (hne : a ≠ I) (hnT : T ≠ I) (hp : ys.Perm (List.range es.size)) : Walks P w A I [I, a, T] [I] es.size (fun i v => ∃ j e, ys[i]? = some j ∧ es[j]? = some e ∧ v = e.2) (fun i h => SetIt h I (.ref T) i a es.size ep ∧ SetAt h a es ep t ∧ TupAt h T ys) where
  sub := fun b hb => by simp at hb; simp [hb]
  frame := fun _ _ _ st hk => ⟨st.1.keep fun o e => hk I (by simp) o e, st.2.1.keep fun o e => hk a (by simp) o e, st.2.2.keep fun o e => hk T (by simp) o e⟩
  item := fun i s Q E hi st hQ => by
    have hl : ys.length = es.size := by rw [hp.length_eq, List.length_range]
    have hv : ys[i]? = some (ys[i]'(by omega)) := List.getElem?_eq_getElem _
    have hlt : ys[i]'(by omega) < es.size := List.mem_range.mp (hp.mem_iff.mp (List.getElem_mem _))
    have he : es[ys[i]'(by omega)]? = some (es[ys[i]'(by omega)]) := Array.getElem?_eq_getElem hlt
    refine next_drawn st.1 st.2.1 st.2.2 hv he fun h' x' sb => ?_
    exact hQ _ h' s.toks ⟨_, _, hv, he, rfl⟩ ⟨x', st.2.1.keep fun o e => by rw [sb.2 a hne]; exact e, st.2.2.keep fun o e => by rw [sb.2 T hnT]; exact e⟩ fun b o hb e => by rw [sb.2 b fun z => hb (by simp [z])]; exact e
  done := fun s Q E st hQ => end_drawn hh st.1 st.2.1 st.2.2 (by rw [hp.length_eq, List.length_range]) fun h' k => hQ h' s.toks fun b o hb e => k b o (fun z => hb (by simp [z])) e
  self := fun _ _ _ _ st hQ => st.1.self hQ
end
end L2
end
section
set_option Elab.async false
set_option linter.all false
set_option maxRecDepth 100000
set_option maxHeartbeats 4000000
namespace L2
open PySem PySem.Spec PyProof.Rows LX PySem.W
theorem items_list {p : Nat → Value → Prop} {acc : Array Value} {n : Nat} {vs : List Value} (h : ItemsOf p acc n) (hl : vs.length = n) (hp : ∀ i v, p i v → vs[i]? = some v) : acc.toList = vs := by
  refine List.ext_getElem? fun i => ?_
  by_cases hi : i < n
  · have hi' : i < acc.size := by rw [h.1]; exact hi
    rw [Array.getElem?_toList, Array.getElem?_eq_getElem hi', hp i _ (h.2 i _ (Array.getElem?_eq_getElem hi'))]
  · rw [List.getElem?_eq_none (by rw [Array.length_toList, h.1]; omega), List.getElem?_eq_none (by omega)]
section
variable {P : Program} {w : World} {A : Around} {E : Value → Shared → Prop} {s : Shared} {a : Addr} {ep : Nat} {es : Array (Int × Value)} {t : SetTable}
/-- iter(s) -/
theorem iter_set {Q : Value → Shared → Prop} (hh : A.handled = none) (y : SetAt s.heap a es ep t) (hT : s.TypeIs (.ref a) "set") (hz : es.size ≤ sizeLine) (ht : Tab (!w.params.followText "set-order") t)
    (q : ∀ (I : Addr) (h' : Heap) (d' : Drawn) (fp : List Addr) (p : Nat → Value → Prop) (St : Nat → Heap → Prop), Walks P w A I fp [I] es.size p St → St 0 h' → (∀ b o, s.heap.get? b = some o → h'.get? b = some o) → s.heap.objs.size ≤ I → (∀ b ∈ fp, b = a ∨ s.heap.objs.size ≤ b) →
      (∀ acc, ItemsOf p acc es.size → acc.toList.Perm (es.toList.map (·.2))) → Q (.ref I) { s with heap := h', drawn := d' }) : wpAny (model P w) A (pyIter (.ref a)) Q E s := by
  have ha : a < s.heap.objs.size := let ⟨_, e, _⟩ := y.ex; Heap.lt_size e
  have hab : ∀ k, a ≠ s.heap.objs.size + k := fun k z => absurd ha (by rw [z]; exact Nat.not_lt.mpr (Nat.le_add_right _ _))
  refine wpAny_pyIter_slot hT PySem.F.slot_set_iter (wpAny_call_entry PySem.F.slot_set_iter hT en_siter ?_ (ar_siter _))
  unfold Builtin.«frozenset.__iter__» Builtin.Frozenset.slot0
  refine wpAny_bind (wpAny_bind (wpAny_pure (wpAny_pure ?_)))
  unfold Builtin.Frozenset.sizeOf
  refine wpAny_bind (wpAny_bind (y.entries (wpAny_pure ?_)))
  unfold setDrawn
  refine wpAny_bind (wpAny_bind (y.state ?_))
  dsimp only
  refine wpAny_bind (wpAny_byText (wpAny_pure ?_))
  show wpAny _ _ (if (!w.params.followText "set-order" && (!t.plain && decide (es.size > 1))) = true then _ else _) _ _ _
  refine wpAny_ite_split (fun hc => ?_) (fun hc => wpAny_bind (wpAny_pure ?_))
  · refine wpAny_bind (wpAny_order _ _ _ _ (by rw [List.length_range]) fun ys d' hp => ?_)
    have hl : ys.length = es.size := by rw [hp.length_eq, List.length_range]
    refine wpAny_bind (wpAny_newTuple ?_ (by rw [List.length_map, hl]; exact hz))
    have y1 := y.keep (h' := s.heap.push { cls := .type "tuple", data := .seq (ys.map fun (i : Nat) => rawInt i).toArray }) fun o e => Heap.get?_push_of_some _ e
    refine wpAny_bind (y1.epoch (wpAny_bind (wpAny_newObj_type (wpAny_pure ⟨_, rfl, "set_iterator", _, ⟨_, Heap.get?_push_size _ rfl, rfl⟩, so_next.lookup, ?_⟩))))
    refine q _ _ d' _ _ _ (walk_drawn (T := s.heap.objs.size) hh ?_ ?_ hp) ⟨⟨_, Heap.get?_push_size _ rfl, rfl, rfl⟩, y1.keep fun o e => Heap.get?_push_of_some _ e, ⟨_, Heap.get?_push_of_some _ (Heap.get?_push_size _ rfl), _, rfl⟩⟩ (fun b o e => Heap.get?_push_of_some _ (Heap.get?_push_of_some _ e)) ?_ (fun b hb => ?_) fun acc hi => ?_
    · rw [Heap.size_push]; exact hab 1
    · rw [Heap.size_push]; exact Nat.ne_of_lt (Nat.lt_succ_self _)
    · rw [Heap.size_push]; exact Nat.le_succ _
    · rw [Heap.size_push] at hb
      simp only [List.mem_cons, List.not_mem_nil, or_false] at hb
      rcases hb with rfl | rfl | rfl
      · exact .inr (Nat.le_succ _)
      · exact .inl rfl
      · exact .inr (Nat.le_refl _)
    · have e1 : acc.toList = (ys.filterMap fun j => es.toList[j]?).map (·.2) := by
        have hlen : (ys.filterMap fun j => es.toList[j]?).length = es.size ∧ ∀ (i j : Nat), ys[i]? = some j → (ys.filterMap fun j => es.toList[j]?)[i]? = es.toList[j]? := by
          have gen : ∀ zs : List Nat, (∀ j ∈ zs, j < es.size) → (zs.filterMap fun j => es.toList[j]?).length = zs.length ∧ ∀ (i j : Nat), zs[i]? = some j → (zs.filterMap fun j => es.toList[j]?)[i]? = es.toList[j]? := by
            intro zs
            induction zs with
            | nil => exact fun _ => ⟨rfl, fun i j z => by simp at z⟩
            | cons z zs ih =>
              intro hz'
              obtain ⟨i1, i2⟩ := ih fun j hj => hz' j (.tail _ hj)
              have hz0 : z < es.toList.length := by rw [Array.length_toList]; exact hz' z (.head _)
              rw [List.filterMap_cons_some (List.getElem?_eq_getElem hz0)]
              refine ⟨by simp [i1], fun i j e => ?_⟩
              cases i with
              | zero => cases e; rw [List.getElem?_eq_getElem hz0]; rfl
              | succ i => exact i2 i j e
          obtain ⟨g1, g2⟩ := gen ys fun j hj => List.mem_range.mp (hp.mem_iff.mp hj)
          exact ⟨g1.trans hl, g2⟩
        refine items_list hi (by rw [List.length_map]; exact hlen.1) fun i v ⟨j, e, z1, z2, z3⟩ => ?_
        rw [List.getElem?_map, hlen.2 i j z1, Array.getElem?_toList, z2, z3]
        rfl
      rw [e1]
      refine List.Perm.map _ ((hp.filterMap _).trans ?_)
      have := List.filterMap_getElem?_range_length es.toList
      rw [Array.length_toList] at this
      rw [this]
  · refine wpAny_bind (y.epoch (wpAny_bind (wpAny_newObj_type (wpAny_pure ⟨_, rfl, "set_iterator", _, ⟨_, Heap.get?_push_size _ rfl, rfl⟩, so_next.lookup, ?_⟩))))
    have fin : ∀ (sl : Nat → Nat) (vs : List Value), Slots P w a es ep t sl vs → vs.Perm (es.toList.map (·.2)) → Q (.ref s.heap.objs.size) { s with heap := s.heap.push { cls := .type "set_iterator", data := .fields [rawInt 0, rawInt 0, Value.ref a, rawInt es.size, rawInt ep].toArray } } := fun sl vs hs hp => by
      refine q _ _ s.drawn _ _ _ (walk_slots hs hh (hab 0)) ⟨⟨_, Heap.get?_push_size _ rfl, rfl, ?_⟩, y.keep fun o e => Heap.get?_push_of_some _ e⟩ (fun b o e => Heap.get?_push_of_some _ e) (Nat.le_refl _) (fun b hb => ?_) fun acc hi => ?_
      · rw [hs.2.1]; rfl
      · simp only [List.mem_cons, List.not_mem_nil, or_false] at hb
        exact hb.symm.imp id fun z => Nat.le_of_eq z.symm
      · rw [items_list hi hs.1 fun i v z => z]
        exact hp
    by_cases hb : w.params.followText "set-order" = true
    · exact fin _ _ (slots_text hb) ((pick_perm _ es).map _)
    · have hb' : w.params.followText "set-order" = false := by simpa using hb
      rw [hb'] at hc
      exact fin _ _ (slots_led hb' ht (by simpa using hc) y.fit) (.refl _)
end
end L2
end
section
set_option Elab.async false
set_option linter.all false
set_option maxRecDepth 100000
set_option maxHeartbeats 4000000
namespace L2
open PySem PySem.Spec PyProof.Rows LX PySem.W
section
variable {P : Program} {w : World} {A : Around} {E : Value → Shared → Prop} {s : Shared} {a : Addr} {ep : Nat} {es : Array (Int × Value)} {t : SetTable}
theorem hint_set {Q : Bool → Shared → Prop} (hT : s.TypeIs (.ref a) "set") (q : Q false s) : wpAny (model P w) A (Builtin.List.listLengthHint (.ref a)) Q E s := by
  unfold Builtin.List.listLengthHint
  refine wpAny_bind (wpAny_specialOf hT PySem.F.slot_set_len.lookup ?_)
  generalize hid : ("set.__len__" : String) = k
  wp_delta
  rw [show splitId k = some ("set", "__len__") from by subst hid; decide +kernel]
  subst hid
  refine wpAny_bind (wpAny_isInstance (T := "set") (b := true) hT (by rw [isSubtype_type]; kernel_rfl) ?_)
  refine wpAny_ite_split (fun z => absurd z (by decide)) (fun _ => ?_)
  refine wpAny_ite_split (fun _ => wpAny_bind (wpAny_typeOf hT (wpAny_pure q))) (fun z => absurd (by decide +kernel) z)
theorem ext_set {R : Result → Shared → Prop} (hh : A.handled = none) (y : SetAt s.heap a es ep t) (hT : s.TypeIs (.ref a) "set") (hz : es.size ≤ sizeLine) (ht : Tab (!w.params.followText "set-order") t) (D : Addr) (hDa : D ≠ a) (res : Value) (c₀ : Nat)
    (hD : s.heap.get? D = some { cls := .type "list", data := .seq #[] c₀ })
    (q : ∀ h' tk d' acc' c', (∀ b o, b ≠ D → s.heap.get? b = some o → h'.get? b = some o) → h'.get? D = some { cls := .type "list", dict := none, data := .seq acc' c', slots := #[] } → acc'.toList.Perm (es.toList.map (·.2)) → R (.ok (.ret res)) { s with heap := h', toks := tk, drawn := d' }) :
    wpAny (model P w) A.in1 (Builtin.List.listExtendWith (.ref D) (.ref a) res) (fun fin s' => match fin with | .done f => R (.ok f) s' | .again c' => c'.quiet = true ∧ codeAny (model P w) A c' R s') (fun e s' => R (.error e) s') s := by
  unfold Builtin.List.listExtendWith
  refine wpAny_bind (wpAny_typeOf (T := "set") hT ?_)
  have h1 : Builtin.List.listSameRef (.ref D) (.ref a) = false := by simp [Builtin.List.listSameRef, hDa]
  have n1 : (Value.type "set" == Value.type "list") = false := by decide
  have n2 : (Value.type "set" == Value.type "tuple") = false := by decide
  simp only [h1, n1, n2, Bool.or_false, Bool.false_eq_true, if_false]
  have hD0 : D < s.heap.objs.size := Heap.lt_size hD
  refine wpAny_bind (iter_set (by rw [Around.in1_handled]; exact hh) y hT hz ht fun I h1' d1 fp p St W st k1 hI hfp hacc => ?_)
  have hDf : D ∉ fp := fun z => (hfp D z).elim hDa fun le => absurd hD0 (Nat.not_lt.mpr le)
  have hDI : D ≠ I := fun z => absurd hD0 (by rw [z]; exact Nat.not_lt.mpr hI)
  have key : ∀ (h : Heap) (c₁ tk : Nat), St 0 h → (∀ b o, b ≠ D → s.heap.get? b = some o → h.get? b = some o) → h.get? D = some { cls := .type "list", data := .seq #[] c₁ } →
      codeAny (model P w) A (.builtin "list.extend.loop" ⟨[.ref D, .ref I, res], []⟩) R { s with heap := h, toks := tk, drawn := d1 } := by
    intro h c₁ tk hst hk hS₁
    refine codeAny_extend_loopS W.toS hz D hDf res es.size 0 _ #[] c₁ rfl (Nat.zero_le _) hst hS₁ (ItemsOf.nil _) fun s' acc' c' hm hS' hit => ?_
    rw [Moved.eq_with hm]
    refine q s'.heap s'.toks d1 acc' c' (fun b o hb e => hm.heap b o (fun hmem => ?_) (hk b o hb e)) hS' (hacc _ hit)
    rcases List.mem_cons.mp hmem with e' | hmem
    · exact hb e'
    · exact absurd (Heap.lt_size e) (by rw [List.mem_singleton.mp hmem]; exact Nat.not_lt.mpr hI)
  have hD1 := k1 _ _ hD
  have hT1 : Shared.TypeIs { s with heap := h1', drawn := d1 } (.ref a) "set" := let ⟨o, e, c⟩ := hT; ⟨o, k1 _ _ e, c⟩
  refine wpAny_bind (wpAny_holding (hint_set hT1 ?_))
  refine wpAny_ite_split (fun _ => ?_) (fun _ => wpAny_pure ⟨plainId_quiet PySem.F.plain_extend_loop _, key _ c₀ _ st (fun b o _ e => k1 b o e) hD1⟩)
  refine wpAny_bind (wpAny_rule (wpAny_bind ?_))
  show wpAny _ _ (updateSeq D (·.push .none) >>= fun _ => updateSeq D (·.pop)) _ _ _
  refine wpAny_bind (wpAny_updateSeq hD1 rfl ?_)
  have hD2 := Heap.get?_update_self (Obj.mapSeq (·.push Value.none)) hD1 rfl
  refine wpAny_updateSeq (hz := by seq_fits) hD2 rfl ?_
  have hD3 := Heap.get?_update_self (Obj.mapSeq (·.pop)) hD2 rfl
  refine wpAny_pure ⟨plainId_quiet PySem.F.plain_extend_loop _, key _ _ _ (W.frame 0 _ _ st fun b hb o e => ?_) (fun b o hb e => ?_) hD3⟩
  · have hbD : b ≠ D := fun h => hDf (h ▸ hb)
    exact (Heap.get?_update_other _ _ (Ne.symm hbD)).trans ((Heap.get?_update_other _ _ (Ne.symm hbD)).trans e)
  · exact (Heap.get?_update_other _ _ (Ne.symm hb)).trans ((Heap.get?_update_other _ _ (Ne.symm hb)).trans (k1 _ _ e))
theorem collect_set {R : List Value → Shared → Prop} (hh : A.handled = none) (y : SetAt s.heap a es ep t) (hT : s.TypeIs (.ref a) "set") (hz : es.size ≤ sizeLine) (ht : Tab (!w.params.followText "set-order") t)
    (q : ∀ (h' : Heap) (tk : Nat) (d' : Drawn) (acc : Array Value), (∀ b o, s.heap.get? b = some o → h'.get? b = some o) → acc.toList.Perm (es.toList.map (·.2)) → R acc.toList { s with heap := h', toks := tk, drawn := d' }) : wpAny (model P w) A (collect (.ref a)) R E s := by
  have ha : a < s.heap.objs.size := let ⟨_, e, _⟩ := y.ex; Heap.lt_size e
  unfold collect
  refine wpAny_bind (wpAny_runValue (codeAny_builtin entry_proto_collect' ?_))
  rw [Around.under_plainId PySem.F.plain_proto_collect _]
  show wpAny _ A.in1 (newList [] >>= fun l => again (.builtin "list.__iadd__" ⟨[l, .ref a], []⟩)) _ _ s
  refine wpAny_bind (wpAny_newObj_type (wpAny_pure ⟨plainId_quiet PySem.F.plain_list_iadd _, codeAny_builtin entry_list_iadd' ?_⟩))
  rw [Around.under_plainId PySem.F.plain_list_iadd _]
  have h1 : (s.heap.push { cls := .type "list", data := .seq ([] : List Value).toArray }).get? s.heap.objs.size = some { cls := .type "list", data := .seq #[] } := Heap.get?_push_size _ rfl
  show wpAny _ A.in1 (Builtin.List.listExtendWith (.ref s.heap.objs.size) (.ref a) (.ref s.heap.objs.size)) _ _ _
  have hT1 : Shared.TypeIs { s with heap := s.heap.push { cls := .type "list", data := .seq ([] : List Value).toArray } } (.ref a) "set" := let ⟨o, e, c⟩ := hT; ⟨o, Heap.get?_push_of_some _ e, c⟩
  have key := ext_set (P := P) (A := A) (s := { s with heap := s.heap.push { cls := .type "list", data := .seq ([] : List Value).toArray } })
    (R := fun (r : Result) (s' : Shared) => ∃ (h' : Heap) (tk : Nat) (d' : Drawn) (acc' : Array Value) (c' : Nat), r = .ok (.ret (.ref s.heap.objs.size)) ∧ s' = { s with heap := h', toks := tk, drawn := d' } ∧
      (∀ b o, s.heap.get? b = some o → h'.get? b = some o) ∧ h'.get? s.heap.objs.size = some { cls := .type "list", dict := none, data := .seq acc' c', slots := #[] } ∧ acc'.toList.Perm (es.toList.map (·.2)))
    hh (y.keep fun o e => Heap.get?_push_of_some _ e) hT1 hz ht s.heap.objs.size (Nat.ne_of_gt ha) (.ref s.heap.objs.size) 0 h1
    (fun h' tk d' acc' c' hk hS' hacc => ⟨h', tk, d', acc', c', rfl, rfl, fun b o e => hk b o (Nat.ne_of_lt (Heap.lt_size e)) (Heap.get?_push_of_some _ e), hS', hacc⟩)
  refine wpAny_mono key (fun fin s' x => ?_) fun e s' x => ?_
  · cases fin with
    | done f =>
      obtain ⟨h', tk, d', acc', c', e, rfl, hk, hS', hacc⟩ := x
      cases e
      show wpAny _ A (load s.heap.objs.size >>= _) _ _ _
      exact wpAny_bind (wpAny_load hS' (wpAny_pure (q h' tk d' acc' hk hacc)))
    | again c₁ =>
      refine ⟨x.1, codeAny_mono x.2 fun r s₂ z => ?_⟩
      obtain ⟨h', tk, d', acc', c', rfl, rfl, hk, hS', hacc⟩ := z
      show wpAny _ A (load s.heap.objs.size >>= _) _ _ _
      exact wpAny_bind (wpAny_load hS' (wpAny_pure (q h' tk d' acc' hk hacc)))
  · obtain ⟨_, _, _, _, _, e', _⟩ := x
    cases e'
end
end L2
end
section
set_option Elab.async false
set_option linter.all false
set_option maxRecDepth 100000
set_option maxHeartbeats 4000000
namespace L2
open PySem PySem.Spec PyProof.Rows LX PySem.W
/-! ### numbers without doubles -/
def dd (ns : List Int) : List Int := firstMet (fun i => ns.getD i 0) ns.length
theorem range_getD : ∀ ns : List Int, (List.range ns.length).map (fun i => ns.getD i 0) = ns := fun ns => by
  refine List.ext_getElem (by simp) fun i h1 h2 => ?_
  simp [List.getD, List.getElem?_eq_getElem h2]
theorem mem_dd {ns : List Int} {k : Int} : k ∈ dd ns ↔ k ∈ ns := by
  have := firstMet_any (fun i => ns.getD i 0) ns.length k
  rw [range_getD] at this
  have e : ∀ l : List Int, l.any (· == k) = true ↔ k ∈ l := fun l => by simp
  rw [← e, ← e]
  unfold dd
  rw [this]
theorem dedup_nodup {l : List Int} {v : Int} (h : l.Nodup) : (step_dedup l v).Nodup := by
  unfold step_dedup
  split
  · exact h
  · rename_i q
    have hv : v ∉ l := fun z => q (by simpa using z)
    refine List.nodup_append.mpr ⟨h, by simp, fun x hx y hy e => ?_⟩
    rw [List.mem_singleton] at hy
    subst hy e
    exact hv hx
theorem dd_nodup (ns : List Int) : (dd ns).Nodup := by
  have gen : ∀ i, (firstMet (fun i => ns.getD i 0) i).Nodup := by
    intro i
    induction i with
    | zero => exact List.nodup_nil
    | succ i ih => rw [firstMet_succ]; exact dedup_nodup ih
  exact gen _
theorem nodup_len : ∀ {l m : List Int}, l.Nodup → (∀ k ∈ l, k ∈ m) → l.length ≤ m.length
  | [], m, _, _ => Nat.zero_le _
  | x :: l, m, h, s => by
    have hx : x ∈ m := s x (.head _)
    have hl := List.nodup_cons.mp h
    have := nodup_len (l := l) (m := m.erase x) hl.2 fun k hk => (List.mem_erase_of_ne fun e => hl.1 (by rw [← e]; exact hk)).mpr (s k (.tail _ hk))
    rw [List.length_erase_of_mem hx] at this
    have : 0 < m.length := List.length_pos_of_mem hx
    simp only [List.length_cons]
    omega
theorem dd_le {ns ms : List Int} (h : ∀ k ∈ ns, k ∈ ms) : (dd ns).length ≤ ms.length := nodup_len (dd_nodup ns) fun k hk => h k (mem_dd.mp hk)
theorem nodup_perm : ∀ {l m : List Int}, l.Nodup → (∀ k ∈ l, k ∈ m) → m.length ≤ l.length → l.Perm m
  | [], m, _, _, h => by
    have : m = [] := List.length_eq_zero_iff.mp (Nat.le_zero.mp h)
    subst this
    exact .nil
  | x :: l, m, h, s, z => by
    have hx : x ∈ m := s x (.head _)
    have hl := List.nodup_cons.mp h
    have := nodup_perm (l := l) (m := m.erase x) hl.2 (fun k hk => (List.mem_erase_of_ne fun e => hl.1 (by rw [← e]; exact hk)).mpr (s k (.tail _ hk))) (by rw [List.length_erase_of_mem hx]; simp only [List.length_cons] at z; omega)
    exact (List.Perm.cons x this).trans (List.perm_cons_erase hx).symm
/-- two strictly rising lists with the same members are one -/
theorem rise_one {l m : List Int} (hl : l.Pairwise (· < ·)) (hm : m.Pairwise (· < ·)) (h : ∀ k, k ∈ l ↔ k ∈ m) : l = m := by
  have nl : l.Nodup := hl.imp fun h => Int.ne_of_lt h
  have nm : m.Nodup := hm.imp fun h => Int.ne_of_lt h
  refine rising_eq (nodup_perm nl (fun k => (h k).mp) (nodup_len nm fun k => (h k).mpr)) (hl.imp Int.le_of_lt) (hm.imp Int.le_of_lt)
theorem rise_of {l : List Int} (h : l.Pairwise (· ≤ ·)) (n : l.Nodup) : l.Pairwise (· < ·) :=
  (h.and n).imp fun ⟨a, b⟩ => Int.lt_iff_le_and_ne.mpr ⟨a, b⟩
theorem ints_perm {vs us : List Value} (p : vs.Perm us) : ∀ {ks : List Int}, IntsAre us ks → ∃ js, IntsAre vs js ∧ js.Perm ks := by
  induction p with
  | nil => intro ks h; cases h; exact ⟨[], .nil, .nil⟩
  | cons x _ ih =>
    intro ks h
    cases h with
    | cons k t r =>
      obtain ⟨js, a, b⟩ := ih r
      exact ⟨k :: js, .cons k t a, b.cons k⟩
  | swap x y l =>
    intro ks h
    cases h with
    | cons k t r =>
      cases r with
      | cons k' t' r => exact ⟨k' :: k :: _, .cons k' t' (.cons k t r), .swap _ _ _⟩
  | trans _ _ i1 i2 =>
    intro ks h
    obtain ⟨js, a, b⟩ := i2 h
    obtain ⟨is, c, d⟩ := i1 a
    exact ⟨is, c, d.trans b⟩
/-! ### set(l), sorted(s) -/
def setM (ns : List Int) : Int → Bool := fun z => (dd ns).any (· == z)
def SetO (P : Program) (w : World) (a : Addr) (ns : List Int) : HO := .ext fun h => SetT P w h a (setM ns) (dd ns).length
theorem elems_ints {P : Program} {w : World} : ∀ {l : List (Int × Value)}, ElemsOf (intKind P w) l → ∃ ks, IntsAre (l.map (·.2)) ks ∧ ∀ k, k ∈ ks ↔ ∃ e ∈ l, (intKind P w).is k e.2 = true
  | [], _ => ⟨[], .nil, fun k => by simp⟩
  | e :: l, h => by
    obtain ⟨ks, a, b⟩ := elems_ints h.tail
    obtain ⟨⟨k, hk, _⟩, _⟩ := h.head
    obtain ⟨t, et⟩ : ∃ t, e.2 = Value.int k t := by
      have hk' : Value.isInt k e.2 = true := hk
      cases hv : e.2 <;> rw [hv] at hk' <;> simp [Value.isInt] at hk'
      exact ⟨_, by rw [hk']⟩
    refine ⟨k :: ks, by rw [List.map_cons, et]; exact .cons k t a, fun z => ?_⟩
    rw [List.mem_cons, b z]
    constructor
    · rintro (rfl | ⟨e', h1, h2⟩)
      · exact ⟨e, .head _, hk⟩
      · exact ⟨e', .tail _ h1, h2⟩
    · rintro ⟨e', h1, h2⟩
      rcases List.mem_cons.mp h1 with q | q
      · subst q
        exact .inl ((intKind P w).inj _ z k h2 hk)
      · exact .inr ⟨e', q, h2⟩
section
variable {X : Cx}
theorem Inv.drew {pins : List (Addr × Obj)} {σ : List (Option V)} {H : Hp} {s : Shared} {d' : Drawn} (I : Inv X pins σ H s) : Inv X pins σ H { s with drawn := d' } :=
  ⟨I.ok, I.os, I.bare, I.base, I.loc, I.cell, I.free, I.freeC, I.pin, I.hok, I.len⟩
def rSet (X : Cx) : List V → Hp → VK → Prop := fun vs H Q => ∃ (p : Addr) (ns : List Int), vs = [.ref p] ∧ SqL X.K H p (ns.map V.int) ∧ ns.length + 1 < 4096 ∧ ∀ l : Addr, H l = none → Q (.ref l) (upd H l (SetO X.prog X.w l ns))
theorem call_set (hc : X.calm = true) : CallR X (.type "set") (rSet X) := by
  rintro pins s σ H xs us Q I r ⟨p, ns, rfl, hq, hz, q⟩
  obtain ⟨u, rfl, ru⟩ := r.one
  cases (show u = Value.ref p from ru)
  obtain ⟨its, rv, pl, _⟩ := I.list hq
  have hI := intsAre_of rv
  have hlen := rv.length
  rw [List.length_map] at hlen
  have hsz : its.toArray.size = ns.length := by simpa using hlen.symm
  refine setT_call (I.ok.hd hc) pl.isList hI (by rw [hsz]; exact hz) fun h' tk x k => ?_
  rw [hsz] at x
  refine ⟨.ref s.heap.objs.size, _, I.laid (a := s.heap.objs.size) (o := SetO X.prog X.w s.heap.objs.size ns) (t' := tk) k (Nat.le_refl _) ?_, rfl, q _ (I.hok.fresh (Nat.le_refl _))⟩
  exact ⟨x, let ⟨o, _, _, _, e, _⟩ := x; ⟨o, e⟩, fun h1 h2 y k => SetT.keep y k⟩
def rSortS (X : Cx) : List V → Hp → VK → Prop := fun vs H Q => ∃ (p : Addr) (ns : List Int), vs = [.ref p] ∧ H p = some (SetO X.prog X.w p ns) ∧ (dd ns).length < 64 ∧
  ∀ (l : Addr) (rs : List Int), H l = none → rs.Pairwise (· < ·) → (∀ k, k ∈ rs ↔ k ∈ ns) → Q (.ref l) (upd H l (.lst (rs.map V.int)))
theorem call_sortedS (hc : X.calm = true) : CallR X (.builtin "sorted") (rSortS X) := by
  rintro pins s σ H xs us Q I r ⟨p, ns, rfl, hp, h64, q⟩
  obtain ⟨u, rfl, ru⟩ := r.one
  cases (show u = Value.ref p from ru)
  have x : SetT X.prog X.w s.heap p (setM ns) (dd ns).length := (show _ ∧ _ from I.hok p _ hp).1
  have hT := x.typeIs
  obtain ⟨o, es, ep, t, ho, _, hd, he, hm, hb, hf, hn, ht⟩ := x
  have y : SetAt s.heap p es ep t := ⟨⟨o, ho, hd⟩, hf⟩
  obtain ⟨ks, hks, hmem⟩ := elems_ints he
  have hkl : ks.length = (dd ns).length := by
    have := hks.length
    rw [List.length_map, Array.length_toList] at this
    omega
  have hp2 : (dd ns).Perm ks := nodup_perm (dd_nodup ns) (fun k hk => (hmem k).mpr ((hm k).mp (by unfold setM; simpa using hk))) (by omega)
  refine Calls.call_function_entry kind_sorted plain_sorted entry_sorted (args_sorted1 _) ?_
  unfold Builtin.«sorted»
  refine wpAny_bind (m := checkCount "sorted" 1 1 _) (wpAny_pure ?_)
  refine wpAny_bind (collect_set (A := X.A.in1) (I.ok.hd hc) y hT (fits_of_scanBound hb) ht fun h' tk d' acc hkp hperm => ?_)
  obtain ⟨js, hI, hjs⟩ := ints_perm hperm hks
  have hlen := hI.length
  have hjl : js.length = (dd ns).length := by rw [hjs.length_eq, hkl]
  have I1 : Inv X pins σ H { s with heap := h', toks := tk, drawn := d' } := (I.drew (d' := d')).kept (t' := tk) hkp
  refine wpAny_bind (wpAny_newList ?_)
  have hoL : (h'.push (seqObj "list" acc.toList.toArray 0)).get? h'.objs.size = some (seqObj "list" acc.toList.toArray 0) := Heap.get?_push_size _ rfl
  show wpAny _ _ _ _ _ { s with heap := h'.push (seqObj "list" acc.toList.toArray 0), toks := tk, drawn := d' }
  refine wpAny_bind (wpAny_holding (wpAny_call_entry slot_list_sort ⟨_, hoL, rfl⟩ entry_list_sort (list_sort_tree hoL hI (by omega) fun out ns' a1 a2 a3 => ⟨_, rfl, ?_⟩) (args_list_sort _)))
  refine wpAny_pure ⟨_, rfl, ?_⟩
  obtain ⟨e, he'⟩ := sortedHeap_at (out := out) hoL
  have hdd : ns'.Perm (dd ns) := a2.trans (hjs.trans hp2.symm)
  refine ⟨.ref h'.objs.size, _, I1.laid (a := h'.objs.size) (o := .lst (ns'.map V.int)) (t' := tk) (fun b o hb => ?_) (Nat.le_refl _) ?_, rfl, q _ ns' (I1.hok.fresh (Nat.le_refl _)) (rise_of a3 (hdd.nodup_iff.mpr (dd_nodup ns))) fun k => hdd.mem_iff.trans mem_dd⟩
  · have hlt := Heap.lt_size hb
    rw [sortedHeap_old (Nat.ne_of_lt hlt) (by rw [size_push']; exact Nat.lt_succ_of_lt hlt), Heap.get?_push_ne _ _ _ (Nat.ne_of_lt hlt)]
    exact hb
  · refine ⟨by rw [List.length_map, hdd.length_eq]; exact Nat.le_trans (Nat.le_of_lt h64) (by show 64 ≤ sizeLine; decide), out.toList, e, vals_ints a1, ?_⟩
    rw [he']
end
end L2
end
section
set_option Elab.async false
set_option linter.all false
set_option maxRecDepth 100000
set_option maxHeartbeats 4000000
namespace L2
open PySem PySem.Spec PyProof.Rows LX
section
variable {X : Cx} {pins : List (Addr × Obj)} {σ : St} {H : Hp} {s : Shared} {d : Addr} {kvs : List (Key × V)}
/-! ### a dict that is read only from here on -/
theorem Inv.frozen (I : Inv X pins σ H s) (hd : H d = some (.dK kvs)) : ∃ o, Inv X pins σ (upd H d (.frz o (.dK kvs))) s := by
  obtain ⟨hz, h0, vs, rel, o, es, ep, ho, r⟩ := dk_of I.hok hd
  have nn : ∀ {b : Addr}, H b = none → upd H d (.frz o (.dK kvs)) b = none := fun {b} q => by
    rw [upd_ne fun z => by rw [z, hd] at q; cases q]
    exact q
  have ns : ∀ {b : Addr} {u : HO}, H b = some u → u ≠ .dK kvs → upd H d (.frz o (.dK kvs)) b = some u := fun {b u} q n => by
    rw [upd_ne fun z => n (by rw [z, hd] at q; exact (Option.some.inj q).symm)]
    exact q
  refine ⟨o, I.ok, I.os, I.bare, ⟨I.base.keep, I.base.slot, fun b ob q n e => nn (I.base.free b ob q n e), I.base.there, fun b xs q => ns (I.base.tups b xs q) (by intro z; cases z), fun b ob u q => ns (I.base.frzs b ob u q) (by intro z; cases z), fun b ps q => ?_⟩, I.loc, I.cell, nn I.free, fun x c q => nn (I.freeC x c q), fun p hp => ?_, fun a u q => ?_, I.len⟩
  · obtain ⟨more, q'⟩ := I.base.tbls b ps q
    exact ⟨more, ns q' (by intro z; cases z)⟩
  · obtain ⟨p1, p2, p3⟩ := I.pin p hp
    exact ⟨p1, nn p2, p3⟩
  · have st : ∀ {a : Addr} {u : HO}, ObjOk X.prog X.w H s.heap a u → ObjOk X.prog X.w (upd H d (.frz o (.dK kvs))) s.heap a u := fun x => x.stay (fun _ _ _ z => z) (fun b z => ns z (by intro y; cases y)) fun b xs z => ns z (by intro y; cases y)
    by_cases e : a = d
    · subst e
      rw [upd_same] at q
      cases q
      exact ⟨ho, st (I.hok a _ hd)⟩
    · rw [upd_ne e] at q
      exact st (I.hok a u q)
/-- an expression's value, and a dict frozen after it -/
def tFrz (te : TE) : TE := fun σ H Q => te σ H fun v H1 => ∃ d kvs, H1 d = some (.dK kvs) ∧ ∀ o, Q v (upd H1 d (.frz o (.dK kvs)))
theorem pe_frz {e : Expr} {te : TE} (h : PE X e te) : PE X e (tFrz te) := by
  intro pins s σ H Q I t
  refine wpAny_mono (h pins s σ H _ I t) (fun u s1 ⟨v, H1, I1, r, q⟩ => ?_) fun _ _ z => z
  obtain ⟨d, kvs, hd, q⟩ := q
  obtain ⟨o, I2⟩ := I1.frozen hd
  exact ⟨v, _, I2, r, q o⟩
/-! ### for k in d -/
def Itd (d : Addr) (o : Obj) (kvs : List (Key × V)) : It :=
  ⟨fun i H => H d = some (.frz o (.dK kvs)) ∧ i < kvs.length, fun i H x H' => H' = H ∧ ∃ p, kvs[i]? = some p ∧ x = kV p.1, fun i H => H d = some (.frz o (.dK kvs)) ∧ kvs.length ≤ i⟩
theorem kV_rel {P : Program} {w : World} {k : Key} {u : Value} (h : (mixKind P w).is k u = true) : RelV (kV k) u := by
  have h4 : keyIs k u = true := h
  rcases keyIs_shape h4 with ⟨i, t, e1, e2⟩ | ⟨y, t, e1, e2⟩
  · subst e1 e2
    exact ⟨t, rfl⟩
  · subst e1 e2
    exact ⟨t, rfl⟩
theorem frz_at {o : Obj} (I : Inv X pins σ H s) (hd : H d = some (.frz o (.dK kvs))) {es : Array DictEntry} {ep : Nat} (eo : o.data = .dict es ep) : kvs.length ≤ sizeLine ∧ (d == sysModules) = false ∧ ∃ vs, KV kvs vs ∧ s.heap.DictAt (mixKind X.prog X.w) d vs ep := by
  obtain ⟨ho, hz, h0, vs, rel, o', es', ep', ho', c1, c2, c3⟩ := (show ObjOk X.prog X.w H s.heap d (.frz o (.dK kvs)) from I.hok d _ hd)
  have e : o' = o := Option.some.inj (ho'.symm.trans ho)
  subst e
  rw [eo] at c2
  injection c2 with e1 e2
  subst e1 e2
  exact ⟨hz, h0, vs, rel, o', es, ho', c1, eo, c3⟩
theorem frz_data {o : Obj} (I : Inv X pins σ H s) (hd : H d = some (.frz o (.dK kvs))) : ∃ es ep, o.data = .dict es ep := by
  obtain ⟨ho, hz, h0, vs, rel, o', es', ep', ho', c1, c2, c3⟩ := (show ObjOk X.prog X.w H s.heap d (.frz o (.dK kvs)) from I.hok d _ hd)
  have e : o' = o := Option.some.inj (ho'.symm.trans ho)
  subst e
  exact ⟨es', ep', c2⟩
theorem kv_get : ∀ {kvs : List (Key × V)} {vs : List (Key × Value)}, KV kvs vs → ∀ {i : Nat} {p : Key × V}, kvs[i]? = some p → ∃ x, vs[i]? = some (p.1, x)
  | _, _, .nil, _, _, h => by simp at h
  | (k, v) :: _, (k', x) :: _, .cons a r, 0, p, h => by
    have h1 : (k, v) = p := by simpa using h
    subst h1
    obtain ⟨e, _⟩ := a
    have e' : k = k' := e
    subst e'
    exact ⟨x, rfl⟩
  | _ :: _, _ :: _, .cons _ r, i + 1, p, h => by
    have := kv_get r (i := i) (p := p) (by simpa using h)
    simpa using this
theorem turn_dict {P : Program} {w : World} {K : PySem.W.Frag} {tg : Expr} (d it : Addr) (o : Obj) (kvs : List (Key × V)) (ne : d ≠ it) : Turn P w K tg (Itd d o kvs) [it] it (fun i h => ∃ es ep, o.data = .dict es ep ∧ h.IsKeyIter it d i kvs.length ep) where
  mem := by simp
  obj := fun i h st b hb => by
    have e : b = it := by simpa using hb
    subst e
    obtain ⟨es, ep, _, o, e, c, d⟩ := st
    exact ⟨o, e, fun v z => by rw [d] at z; cases z⟩
  keep := fun i h h' ⟨es, ep, eo, st⟩ k => ⟨es, ep, eo, st.at fun o e => k it (by simp) o e⟩
  item := by
    rintro X hP hw hK hc i pins s σ H E I hf ⟨es, ep, eo, st⟩ ⟨hd, hi⟩
    subst hP hw hK
    obtain ⟨hz, h0, vs, rel, hat⟩ := frz_at I hd eo
    have hl := rel.length
    obtain ⟨x, hx⟩ := kv_get rel (List.getElem?_eq_getElem hi)
    obtain ⟨f0, f1, f2, f3, f4, f5⟩ := hf it (by simp)
    rw [hl] at st
    refine wpAny_pyNext_dict_item st hat hx fun key h' hk st' sb => ?_
    have I1 : Inv X pins σ H { s with heap := h' } := I.turned (t' := s.toks) (fun b o hb e => (sb.2 b hb).trans e) f0 f1 f3 f4 f5
    exact ⟨key, rfl, letGo_keyiter (s' := { s with heap := h' }) st' ⟨kV (kvs[i]'hi).1, H, I1, kV_rel hk, ⟨rfl, _, List.getElem?_eq_getElem hi, rfl⟩, ⟨es, ep, eo, by rw [hl]; exact st'⟩, fun b hb => (hf b hb).1⟩⟩
  done := by
    rintro X hP hw hK hc i pins s σ H E I hf ⟨es, ep, eo, st⟩ ⟨hd, hi⟩
    subst hP hw hK
    obtain ⟨hz, h0, vs, rel, hat⟩ := frz_at I hd eo
    have hl := rel.length
    obtain ⟨f0, f1, f2, f3, f4, f5⟩ := hf it (by simp)
    rw [hl] at st
    exact wpAny_pyNext_dict_end (I.ok.hd hc) st hat (List.getElem?_eq_none (by omega)) fun h' eb => ⟨rfl, I.turned (t' := s.toks) (fun b o hb e => eb b o hb e) f0 f1 f3 f4 f5⟩
  self := fun _ _ _ _ _ ⟨_, _, _, st⟩ h => wpAny_pyIter_keyiter st h
def iDict (td : TE) : TI := fun σ H R => td σ H fun x H1 => ∃ d o kvs, x = .ref d ∧ H1 d = some (.frz o (.dK kvs)) ∧ R (Itd d o kvs) H1
theorem pi_dict {tg l : Expr} {tl : TE} (hl : PE X l tl) : PI X tg l (iDict tl) := by
  intro pins s σ H R I h
  refine thn (hl pins s σ H _ I h) fun v s1 ⟨x, H1, I1, r1, q1⟩ => ?_
  obtain ⟨d, o, kvs, e, hd, q⟩ := q1
  subst e
  cases r1
  obtain ⟨es, ep, eo⟩ := frz_data I1 hd
  obtain ⟨hz, h0, vs, rel, hat⟩ := frz_at I1 hd eo
  have hl := rel.length
  refine wpAny_pyIter_dict h0 hat ?_
  rw [← hl]
  refine ⟨s1.heap.objs.size, [s1.heap.objs.size], _, _, H1, rfl, I1.kept (t' := s1.toks) fun b o e => Heap.get?_push_of_some _ e, turn_dict d _ o kvs (Nat.ne_of_lt hat.lt_size), ⟨es, ep, eo, _, Heap.get?_push_size _ rfl, rfl, rfl⟩, fun b hb => ?_, q⟩
  have e : b = s1.heap.objs.size := by simpa using hb
  subst e
  exact I1.fpOk (Nat.le_refl _) (I1.hok.fresh (Nat.le_refl _))
end
/-- over a dict -/
theorem for_dict {d : Addr} {o : Obj} {kvs : List (Key × V)} {g : TG} {tb : TS} {D : Ends} {σ : St} {H : Hp} (Pv : Nat → St → Hp → Prop) (h0 : Pv 0 σ H) (hl : ∀ i σ H, i ≤ kvs.length → Pv i σ H → H d = some (.frz o (.dK kvs)))
    (hs : ∀ i p σ H, kvs[i]? = some p → Pv i σ H → g (kV p.1) σ H fun σ2 H2 => tb { D with nx := Pv (i + 1), ct := Pv (i + 1), bk := D.nx } σ2 H2) (hd : ∀ σ H, Pv kvs.length σ H → D.nx σ H) :
    ∃ W : Nat → Nat → St → Hp → Prop, (∃ m, W 0 m σ H) ∧ ∀ i m σ H, W i m σ H →
      ((Itd d o kvs).stop i H ∧ D.nx σ H) ∨ ((Itd d o kvs).go i H ∧ ∃ N : St → Hp → Prop, (∀ σ' H', N σ' H' → ∃ m', m' < m ∧ W (i + 1) m' σ' H') ∧ ∀ x H', (Itd d o kvs).yld i H x H' → g x σ H' fun σ2 H2 => tb { D with nx := N, ct := N, bk := D.nx } σ2 H2) := by
  refine ⟨fun i m σ H => m = kvs.length - i ∧ i ≤ kvs.length ∧ Pv i σ H, ⟨kvs.length, by simp, Nat.zero_le _, h0⟩, ?_⟩
  rintro i m σ H ⟨rfl, hi, p⟩
  by_cases hlt : i < kvs.length
  · refine .inr ⟨⟨hl i σ H hi p, hlt⟩, Pv (i + 1), fun σ' H' p' => ⟨kvs.length - (i + 1), by omega, rfl, hlt, p'⟩, fun x H' y => ?_⟩
    obtain ⟨e1, q, e2, e3⟩ := y
    subst e1 e3
    exact hs i q σ _ e2 p
  · have e : i = kvs.length := by omega
    subst e
    exact .inl ⟨⟨hl _ σ H hi p, Nat.le_refl _⟩, hd σ H p⟩
section
variable {X : Cx}
/-! ### len(d), sorted(d) -/
theorem call_lenR : CallR X (.builtin "len") (fun xs H Q => ∃ a kvs, xs = [V.ref a] ∧ Rd H a (.dK kvs) ∧ Q (.int kvs.length) H) := by
  rintro pins s σ H xs us Q I r ⟨a, kvs, rfl, e, q⟩
  obtain ⟨u, rfl, ru⟩ := r.one
  cases (show u = Value.ref a from ru)
  exact d_len I e fun t s' I' => ⟨.int kvs.length, H, I', ⟨t, rfl⟩, q⟩
def rSortR : List V → Hp → VK → Prop := fun vs H Q => ∃ (p : Addr) (kvs : List (Key × V)) (ks : List Int), vs = [.ref p] ∧ Rd H p (.dK kvs) ∧ kvs.map (·.1) = ks.map Sum.inl ∧ ks.length < 64 ∧
  ∀ (l : Addr) (ns' : List Int), H l = none → ns'.Perm ks → ns'.Pairwise (· ≤ ·) → Q (.ref l) (upd H l (.lst (ns'.map V.int)))
theorem call_sortedR (hc : X.calm = true) : CallR X (.builtin "sorted") rSortR := by
  rintro pins s σ H xs us Q I r ⟨p, kvs, ks, rfl, hp, hk, h64, q⟩
  obtain ⟨u, rfl, ru⟩ := r.one
  cases (show u = Value.ref p from ru)
  obtain ⟨hz, hd, vs, rel, dd⟩ := dk_rd I.hok hp
  obtain ⟨ep, hat⟩ := dd.dictAt
  have hh := I.ok.hd hc
  have hl : ks.length = kvs.length := by
    have := congrArg List.length hk
    simpa using this.symm
  refine Calls.call_function_entry kind_sorted plain_sorted entry_sorted (args_sorted1 _) ?_
  unfold Builtin.«sorted»
  refine wpAny_bind (m := checkCount "sorted" 1 1 _) (wpAny_pure ?_)
  refine wpAny_bind (PySem.W.kdu_collect (A := X.A.in1) (PySem.W.kdl_dict (knd := mixKind X.prog X.w) (kvs := vs) (ep := ep) hd) hh hat (by rw [← rel.length]; exact hz) fun h' tk acc hkp hacc => ?_)
  have hI : IntsAre acc.toList ks := dict_ints (by rw [← rel.keys]; exact hk) hacc.1 hacc.2
  have hlen := hI.length
  have I1 : Inv X pins σ H { s with heap := h', toks := tk } := I.kept (t' := tk) hkp
  refine wpAny_bind (wpAny_newList ?_)
  have hoL : (h'.push (seqObj "list" acc.toList.toArray 0)).get? h'.objs.size = some (seqObj "list" acc.toList.toArray 0) := Heap.get?_push_size _ rfl
  show wpAny _ _ _ _ _ { s with heap := h'.push (seqObj "list" acc.toList.toArray 0), toks := tk }
  refine wpAny_bind (wpAny_holding (wpAny_call_entry slot_list_sort ⟨_, hoL, rfl⟩ entry_list_sort (list_sort_tree hoL hI (by omega) fun out ns' a1 a2 a3 => ⟨_, rfl, ?_⟩) (args_list_sort _)))
  refine wpAny_pure ⟨_, rfl, ?_⟩
  obtain ⟨e, he⟩ := sortedHeap_at (out := out) hoL
  refine ⟨.ref h'.objs.size, _, I1.laid (a := h'.objs.size) (o := .lst (ns'.map V.int)) (t' := tk) (fun b o hb => ?_) (Nat.le_refl _) ?_, rfl, q _ ns' (I1.hok.fresh (Nat.le_refl _)) a2 a3⟩
  · have hlt := Heap.lt_size hb
    rw [sortedHeap_old (Nat.ne_of_lt hlt) (by rw [size_push']; exact Nat.lt_succ_of_lt hlt), Heap.get?_push_ne _ _ _ (Nat.ne_of_lt hlt)]
    exact hb
  · refine ⟨by rw [List.length_map, a2.length_eq, hl]; exact hz, out.toList, e, vals_ints a1, ?_⟩
    rw [he]
end
end L2
end
section
set_option Elab.async false
set_option linter.all false
set_option maxRecDepth 100000
set_option maxHeartbeats 4000000
namespace L2
open PySem PySem.Spec PyProof.Rows LX
/-! ### == of two dicts, of two tuples of a list and a dict -/
theorem pairs_any {P P' : Program} {w w' : World} : ∀ {es : List DictEntry} {kvs : List (Key × Value)}, Pairs (mixKind P w) es kvs → Pairs (mixKind P' w') es kvs
  | _, _, .nil => .nil
  | _, _, .cons a b r => .cons a b (pairs_any r)
theorem pairs_key {P : Program} {w : World} : ∀ {es : List DictEntry} {kvs : List (Key × Value)}, Pairs (mixKind P w) es kvs → ∀ e ∈ es, ∃ kv ∈ kvs, keyIs kv.1 e.key = true
  | _, _, .nil, _, h => nomatch h
  | _, _, .cons (kv := kv) a b r, e, h => by
    rcases List.mem_cons.mp h with z | z
    · subst z
      exact ⟨kv, List.mem_cons_self .., a⟩
    · obtain ⟨kv', h1, h2⟩ := pairs_key r e z
      exact ⟨kv', List.mem_cons_of_mem _ h1, h2⟩
theorem dict_any {P P' : Program} {w w' : World} {h : Heap} {a : Addr} {kvs : List (Key × Value)} (x : h.DictOf (mixKind P w) a kvs) (hi : ∀ p ∈ kvs, ∃ i, p.1 = Sum.inl i) : h.DictOf (mixKind P' w') a kvs := by
  obtain ⟨o, es, ep, h1, h2, h3, h4, h5, h6⟩ := x
  have h4' : ∀ e ∈ es, ∃ k, keyIs k e.key = true ∧ e.hash = keyH w k := h4
  refine ⟨o, es, ep, h1, h2, h3, fun e he => ?_, pairs_any h5, h6⟩
  obtain ⟨k, g1, g2⟩ := h4' e he
  obtain ⟨kv, g3, g4⟩ := pairs_key h5 e (by simpa using he)
  obtain ⟨i, ei⟩ := hi kv g3
  have ek : k = kv.1 := (mixKind P w).inj _ _ _ g1 g4
  rw [ei] at ek
  subst ek
  exact ⟨.inl i, g1, g2⟩
theorem hits_all {A : Around} {s : Shared} {kb : List (Key × Value)} : ∀ {ka : List (Key × Value)}, (∀ p ∈ ka, ∃ y, valueAt kb p.1 = some y ∧ SeqAt.EqAt A s p.2 y true) → PySem.W.KeqHits A s kb ka true
  | [], _ => .nil
  | (k, v) :: r, h => by
    obtain ⟨y, e1, e2⟩ := h (k, v) (List.mem_cons_self ..)
    exact .hit (e := true) (b := true) e1 e2 (hits_all fun p hp => h p (List.mem_cons_of_mem _ hp))
theorem kv_mem : ∀ {kvs : List (Key × V)} {vs : List (Key × Value)}, KV kvs vs → ∀ q ∈ vs, ∃ p ∈ kvs, p.1 = q.1 ∧ RelV p.2 q.2
  | _, _, .nil, _, h => nomatch h
  | p :: _, q :: _, .cons a r, q', h => by
    rcases List.mem_cons.mp h with e | h
    · subst e
      exact ⟨p, List.mem_cons_self .., a⟩
    · obtain ⟨p', h1, h2⟩ := kv_mem r q' h
      exact ⟨p', List.mem_cons_of_mem _ h1, h2⟩
theorem ki {kvs : List (Key × V)} {vs : List (Key × Value)} (r : KV kvs vs) (hi : ∀ p ∈ kvs, ∃ i, p.1 = Sum.inl i) : ∀ q ∈ vs, ∃ i, q.1 = Sum.inl i := fun q hq => by
  obtain ⟨p, h1, h2, _⟩ := kv_mem r q hq
  obtain ⟨i, e⟩ := hi p h1
  exact ⟨i, by rw [← h2, e]⟩
section
variable {X : Cx} {pins : List (Addr × Obj)} {σ : St} {H : Hp} {s : Shared}
theorem eqAt_dict (I : Inv X pins σ H s) {A : Around} {n : Nat} {a b : Addr} {kvs kvs' : List (Key × V)} (ha : Rd H a (.dK kvs)) (hb : Rd H b (.dK kvs')) (hl : kvs.length = kvs'.length) (hi : ∀ p ∈ kvs, ∃ i, p.1 = Sum.inl i) (hj : ∀ p ∈ kvs', ∃ i, p.1 = Sum.inl i) (hd : ∀ p ∈ kvs, ∃ y, valV kvs' p.1 = some y ∧ Deep X.K H n p.2 y) (hu : A.units + n + 1 < cLine) : SeqAt.EqAt A s (.ref a) (.ref b) true := by
  by_cases e : a = b
  · subst e
    exact SeqAt.EqAt.same _
  · refine SeqAt.EqAt.of_refs e fun prog w E Q h => ?_
    obtain ⟨_, h1, vs, r1, d1⟩ := dk_rd I.hok ha
    obtain ⟨_, h2, us, r2, d2⟩ := dk_rd I.hok hb
    have l1 := r1.length
    have l2 := r2.length
    refine PySem.W.keq_eq (knd := mixKind prog w) (r := true) h1 h2 (dict_any d1 fun q hq => ki r1 hi q hq) (dict_any d2 fun q hq => ki r2 hj q hq) (by omega) (fun _ => hits_all fun q hq => ?_) ?_
    · obtain ⟨p, hp, e1, rp⟩ := kv_mem r1 q hq
      obtain ⟨y, hy, dp⟩ := hd p hp
      have rv := r2.val p.1
      rw [hy] at rv
      rw [← e1]
      cases hu' : valueAt us p.1 with
      | none =>
        rw [hu'] at rv
        exact absurd rv (by intro z; cases z)
      | some u =>
        rw [hu'] at rv
        exact ⟨u, rfl, dp.eqAt I rp (by first | exact rv | simpa using rv) (by rw [Around.in1_units]; omega)⟩
    · have e : (vs.length == us.length && true) = true := by simp; omega
      rw [e]
      exact h
def rEqVw (K : PySem.W.Frag) (n : Nat) : R2 := fun x y H Q => ∃ a b r d r' d' kvs kvs', x = .ref a ∧ y = .ref b ∧ SqT K H a [.ref r, .ref d] ∧ SqT K H b [.ref r', .ref d'] ∧ Deep K H n (.ref r) (.ref r') ∧ Rd H d (.dK kvs) ∧ Rd H d' (.dK kvs') ∧ kvs.length = kvs'.length ∧ (∀ p ∈ kvs, ∃ i, p.1 = Sum.inl i) ∧ (∀ p ∈ kvs', ∃ i, p.1 = Sum.inl i) ∧ (∀ p ∈ kvs, ∃ y, valV kvs' p.1 = some y ∧ Deep K H n p.2 y) ∧ Q (.bl true) H
theorem op_eqVw {n : Nat} (hu : X.A.units + n + 2 < cLine) : OpR X (compareOp .Eq) (rEqVw X.K n) := by
  rintro pins s σ H x y v u Q I rx ry ⟨a, b, r, d, r', d', kvs, kvs', rfl, rfl, ha, hb, h1, h2, h3, h4, h6, h7, h5, q⟩
  cases rx
  cases ry
  obtain ⟨vs, r1, t1, _⟩ := I.tuple ha
  obtain ⟨ws, r2, t2, _⟩ := I.tuple hb
  cases r1 with
  | cons x1 xr =>
    cases xr with
    | cons x2 xr =>
      cases xr
      cases r2 with
      | cons y1 yr =>
        cases yr with
        | cons y2 yr =>
          cases yr
          cases x2
          cases y2
          refine SeqAt.eq_tupleAt (e := fun _ => true) t1 t2 (by omega) (fun j g1 g2 => ?_) ⟨.bl true, H, I, by simp [RelV], q⟩
          match j, g1, g2 with
          | 0, _, _ => exact h1.eqAt I x1 y1 (by rw [Around.in1_units]; omega)
          | 1, _, _ => exact eqAt_dict I h2 h3 h4 h6 h7 h5 (by rw [Around.in1_units]; omega)
          | j + 2, g1, _ => exact absurd (show j + 2 < 2 from g1) (by omega)
end
end L2
end
section
set_option Elab.async false
set_option linter.all false
set_option maxRecDepth 100000
set_option maxHeartbeats 4000000
namespace L2
open PySem PySem.Spec PyProof.Rows LX
/-! ### != of two lists of numbers, of any lengths -/
theorem eqAll_ints : ∀ {ms ns : List Int}, ms.length = ns.length → eqAll (ms.map V.int) (ns.map V.int) = decide (ms = ns) := by
  intro ms ns hl
  rw [Bool.eq_iff_iff, decide_eq_true_eq]
  unfold eqAll
  rw [List.all_eq_true]
  constructor
  · intro h
    refine List.ext_getElem hl fun j h1 h2 => ?_
    have := h j (by rw [List.length_map]; exact List.mem_range.mpr h1)
    simpa [List.getD, h1, h2, eqV] using this
  · rintro rfl j hj
    rw [List.length_map] at hj
    have hj := List.mem_range.mp hj
    simp [List.getD, hj, eqV]
theorem flat_ints (ns : List Int) : (ns.map V.int).all flatV = true := by simp [flatV]
def rNeI (K : PySem.W.Frag) : R2 := fun x y H Q => ∃ a b, ∃ ms ns : List Int, x = .ref a ∧ y = .ref b ∧ SqL K H a (ms.map V.int) ∧ SqL K H b (ns.map V.int) ∧ Q (.bl (!decide (ms = ns))) H
theorem op_neI {X : Cx} (hu : X.A.units < cLine) : OpR X (compareOp .NotEq) (rNeI X.K) := by
  rintro pins s σ H x y v u Q I rx ry ⟨a, b, ms, ns, rfl, rfl, ha, hb, q⟩
  by_cases hl : ms.length = ns.length
  · refine op_neL hu pins s σ H _ _ v u Q I rx ry ⟨a, b, _, _, rfl, rfl, ha, hb, by simpa using hl, flat_ints _, flat_ints _, ?_⟩
    rw [eqAll_ints hl]
    exact q
  · cases rx
    cases ry
    obtain ⟨vs, r1, ⟨o1, n1, e1, c1, _, g1⟩, _⟩ := I.list ha
    obtain ⟨ws, r2, ⟨o2, n2, e2, c2, _, g2⟩, _⟩ := I.list hb
    have l1 := r1.length
    have l2 := r2.length
    rw [List.length_map] at l1 l2
    refine SeqAt.RcNeAt.lists_lengths ⟨o1, e1, c1, n1, g1⟩ ⟨o2, e2, c2, n2, g2⟩ (by simp; omega) hu _ _ _ _ ⟨.bl true, H, I, rfl, ?_⟩
    have e : (!decide (ms = ns)) = true := by
      rw [decide_eq_false fun z => hl (by rw [z])]
      rfl
    rw [e] at q
    exact q
section
variable {X : Cx}
/-! ### l.insert(i, y) -/
def rInsert : V → List V → Hp → VK → Prop := fun x vs H Q => ∃ (l : Addr) (xs : List V) (i : Nat) (y : V), x = .ref l ∧ vs = [.int i, y] ∧ H l = some (.lst xs) ∧ i ≤ 1000000 ∧ xs.length < sizeLine ∧ Q .non (upd H l (.lst (xs.take i ++ [y] ++ xs.drop i)))
theorem take_min {α : Type} (xs : List α) (i : Nat) : xs.take (min i xs.length) = xs.take i := by
  rcases Nat.le_total i xs.length with h | h
  · rw [Nat.min_eq_left h]
  · rw [Nat.min_eq_right h, List.take_of_length_le (Nat.le_refl _), List.take_of_length_le h]
theorem drop_min {α : Type} (xs : List α) (i : Nat) : xs.drop (min i xs.length) = xs.drop i := by
  rcases Nat.le_total i xs.length with h | h
  · rw [Nat.min_eq_left h]
  · rw [Nat.min_eq_right h, List.drop_of_length_le (Nat.le_refl _), List.drop_of_length_le h]
theorem vals_two : ∀ {x y : V} {us : List Value}, Vals [x, y] us → ∃ u v, us = [u, v] ∧ RelV x u ∧ RelV y v
  | _, _, _, .cons a (.cons b .nil) => ⟨_, _, rfl, a, b⟩
theorem mt_insert : MtM X "list.insert" rInsert := by
  intro pins s σ H x vs v us Q I rx rv h
  obtain ⟨l, xs, i, y, rfl, rfl, hH, hi, hz, q⟩ := h
  cases rx
  obtain ⟨ui, u, rfl, ri, ru⟩ := vals_two rv
  obtain ⟨t, rfl⟩ := ri
  obtain ⟨z, its, n, r, hl, e⟩ := I.lstM hH
  have hc : ¬ (!Builtin.List.listFitsIndex (i : Int)) = true := by
    have : Builtin.List.listFitsIndex (i : Int) = true := by
      unfold Builtin.List.listFitsIndex
      simp
      omega
    rw [this]
    decide
  have hs : its.toArray.size ≤ sizeLine := by rw [List.size_toArray]; omega
  generalize ei : (i : Int) = i' at hc ⊢
  have M := PySem.AutoListH.list_insert_list_int_val_1 l its.toArray n i' t u hc hs
  refine call_meets F.slot_list_insert ⟨_, e, rfl⟩ F.entry_list_insert (F.args_list_insert_3 _ _ _) M ⟨e, ?_⟩
  refine ⟨.non, _, I.lset (ys := xs.take i ++ [y] ++ xs.drop i) (its' := its.take i ++ [u] ++ its.drop i) hH e ?_ (((r.take i).append (.cons ru .nil)).append (r.drop i)) ?_, rfl, q⟩
  · dsimp only
    rw [if_neg (by omega), ← ei, Int.toNat_natCast]
    apply Array.ext'
    have e1 : its.take (min i its.length) = its.take i := take_min _ _
    have e2 : its.drop (min i its.length) = its.drop i := drop_min _ _
    have e3 : (its.drop (min i its.length)).take (its.length - min i its.length) = its.drop (min i its.length) := List.take_of_length_le (by rw [List.length_drop]; exact Nat.le_refl _)
    simp only [Array.toList_append, Array.toList_push, Array.toList_extract, List.extract_eq_drop_take, List.drop_zero, Nat.sub_zero, List.size_toArray, e1, e3, e2]
  · simp only [List.length_append, List.length_take, List.length_drop, List.length_singleton]
    omega
/-! ### e[::-1] -/
theorem vals_rev : ∀ {xs : List V} {us : List Value}, Vals xs us → Vals xs.reverse us.reverse
  | _, _, .nil => .nil
  | x :: xs, u :: us, .cons a r => by
    rw [List.reverse_cons, List.reverse_cons]
    exact (vals_rev r).append (.cons a .nil)
def tRev (K : PySem.W.Frag) (te : TE) (ts : TO) : TE := fun σ H Q => te σ H fun x H1 => ts σ H1 fun o H2 => o = some (-1) ∧ ∃ a xs, x = .ref a ∧ SqL K H2 a xs ∧ ∀ l, H2 l = none → Q (.ref l) (upd H2 l (.lst xs.reverse))
theorem pe_rev {e st : Expr} {te : TE} {ts : TO} {p2 pos : Pos} (he : PE X e te) (hst : PO X (some st) ts) : PE X (.Subscript e (.Slice none none (some st) p2) pos) (tRev X.K te ts) := by
  intro pins s σ H Q I h
  refine Subscript_ (thn (he pins s σ H _ I h) fun v s1 ⟨x, H1, I1, r1, q1⟩ => ?_)
  refine wpAny_Slice ?_
  rw [evalPart_none]
  refine wpAny_pure ?_
  refine wpAny_pure ?_
  refine thn (hst pins s1 σ H1 _ I1 q1) fun vs s3 ⟨so, H3, I3, ps, eo, a, xs, ex, hx, q⟩ => ?_
  subst eo ex
  cases r1
  have I4 : Inv X pins σ H3 { s3 with heap := s3.heap.push { cls := .type "slice", data := .fields #[.none, .none, vs] } } := I3.kept (t' := s3.toks) fun b ob q => Heap.get?_push_of_some _ q
  show wpAny (model X.prog X.w) X.A (subscriptTail e (.Slice none none (some st) p2) (.ref a) (.ref s3.heap.objs.size)) (EP X pins σ Q) X.xe { s3 with heap := s3.heap.push { cls := .type "slice", data := .fields #[.none, .none, vs] } }
  obtain ⟨its, r, ht, hz⟩ := I4.list hx
  have hlen := r.length
  refine tail_any (ops := [.ref a, .ref s3.heap.objs.size]) ht.isList.typeIs slot_list_getitem.lookup ?_ (by with_unfolding_all rfl)
  refine wpAny_getItem_list_slice ht.isList (Heap.IsSliceOf.new ..) .none .none ps (by decide) ?_ (by rw [List.size_toArray]; omega)
  rw [PySem.W.krv_pick]
  refine ⟨.ref _, _, I4.laid (t' := s3.toks) (o := .lst xs.reverse) (fun b ob q => Heap.get?_push_of_some _ q) (Nat.le_refl _) ?_, rfl, q _ (I4.hok.fresh (Nat.le_refl _))⟩
  exact ⟨by rw [List.length_reverse]; exact hz, its.reverse, 0, vals_rev r, Heap.get?_push_size _ rfl⟩
end
end L2
end
section
set_option Elab.async false
set_option linter.all false
set_option maxRecDepth 100000
set_option maxHeartbeats 4000000
namespace L2
open PySem PySem.Spec PyProof.Rows LX
section
variable {X : Cx}
/-! ### list(d), d a dict whose keys are numbers -/
def rListR : List V → Hp → VK → Prop := fun vs H Q => ∃ (p : Addr) (kvs : List (Key × V)) (ks : List Int), vs = [.ref p] ∧ Rd H p (.dK kvs) ∧ kvs.map (·.1) = ks.map Sum.inl ∧ ∀ l : Addr, H l = none → Q (.ref l) (upd H l (.lst (ks.map V.int)))
theorem call_listR (hc : X.calm = true) : CallR X (.type "list") rListR := by
  rintro pins s σ H xs us Q I r ⟨p, kvs, ks, rfl, hp, hk, q⟩
  obtain ⟨u, rfl, ru⟩ := r.one
  cases (show u = Value.ref p from ru)
  obtain ⟨hz, hd, vs, rel, dd⟩ := dk_rd I.hok hp
  obtain ⟨ep, hat⟩ := dd.dictAt
  have hl : ks.length = kvs.length := by
    have := congrArg List.length hk
    simpa using this.symm
  refine PySem.W.kdl_call (PySem.W.kdl_dict (knd := mixKind X.prog X.w) (kvs := vs) (ep := ep) hd) (I.ok.hd hc) hat (by rw [← rel.length]; exact hz) fun h' tk acc c hkp hS hacc => ?_
  have hI : IntsAre acc.toList ks := dict_ints (by rw [← rel.keys]; exact hk) hacc.1 hacc.2
  refine ⟨.ref s.heap.objs.size, _, I.laid (a := s.heap.objs.size) (o := .lst (ks.map V.int)) (t' := tk) hkp (Nat.le_refl _) ?_, rfl, q _ (I.hok.fresh (Nat.le_refl _))⟩
  refine ⟨by rw [List.length_map, hl]; exact hz, acc.toList, c, vals_ints hI, ?_⟩
  rw [hS]
/-! ### != of two tuples of a list and a dict that are the same -/
def rNeVw (K : PySem.W.Frag) (n : Nat) : R2 := fun x y H Q => ∃ a b r d r' d' kvs kvs', x = .ref a ∧ y = .ref b ∧ SqT K H a [.ref r, .ref d] ∧ SqT K H b [.ref r', .ref d'] ∧ Deep K H n (.ref r) (.ref r') ∧ Rd H d (.dK kvs) ∧ Rd H d' (.dK kvs') ∧ kvs.length = kvs'.length ∧ (∀ p ∈ kvs, ∃ i, p.1 = Sum.inl i) ∧ (∀ p ∈ kvs', ∃ i, p.1 = Sum.inl i) ∧ (∀ p ∈ kvs, ∃ y, valV kvs' p.1 = some y ∧ Deep K H n p.2 y) ∧ Q (.bl false) H
theorem op_neVw {n : Nat} (hu : X.A.units + n + 2 < cLine) : OpR X (compareOp .NotEq) (rNeVw X.K n) := by
  rintro pins s σ H x y v u Q I rx ry ⟨a, b, r, d, r', d', kvs, kvs', rfl, rfl, ha, hb, h1, h2, h3, h4, h6, h7, h5, q⟩
  cases rx
  cases ry
  obtain ⟨vs, r1, t1, _⟩ := I.tuple ha
  obtain ⟨ws, r2, t2, _⟩ := I.tuple hb
  cases r1 with
  | cons x1 xr =>
    cases xr with
    | cons x2 xr =>
      cases xr
      cases r2 with
      | cons y1 yr =>
        cases yr with
        | cons y2 yr =>
          cases yr
          cases x2
          cases y2
          refine SeqAt.RcNeAt.tuples (e := fun _ => true) t1 t2 (by omega) (fun j g1 g2 => ?_) _ _ _ _ ⟨.bl false, H, I, by simp [RelV], q⟩
          match j, g1, g2 with
          | 0, _, _ => exact h1.eqAt I x1 y1 (by rw [Around.in1_units]; omega)
          | 1, _, _ => exact eqAt_dict I h2 h3 h4 h6 h7 h5 (by rw [Around.in1_units]; omega)
          | j + 2, g1, _ => exact absurd (show j + 2 < 2 from g1) (by omega)
end
end L2
end
section
set_option Elab.async false
set_option linter.all false
set_option maxRecDepth 100000
set_option maxHeartbeats 4000000
namespace L2
open PySem PySem.Spec PyProof.Rows LX
section
variable {X : Cx}
/-! ### dict(d) -/
def rDictR : List V → Hp → VK → Prop := fun vs H Q => ∃ (p : Addr) (kvs : List (Key × V)), vs = [.ref p] ∧ Rd H p (.dK kvs) ∧ ∀ l : Addr, H l = none → Q (.ref l) (upd H l (.dK kvs))
theorem call_dictR : CallR X (.type "dict") rDictR := by
  rintro pins s σ H xs us Q I r ⟨p, kvs, rfl, hp, q⟩
  obtain ⟨u, rfl, ru⟩ := r.one
  cases (show u = Value.ref p from ru)
  exact d_copyOf I hp fun l s' hl I' => ⟨.ref l, _, I', rfl, q l hl⟩
end
/-! ### a comprehension with a test over a dict -/
theorem compT_dict {d : Addr} {o : Obj} {kvs : List (Key × V)} {tc : TT} {te : TE} {Q : VK} {D : Addr} {τ : St} {H : Hp} (Pv : Nat → List V → Hp → Prop) (h0 : Pv 0 [] H) (hD : ∀ i ys H, i ≤ kvs.length → Pv i ys H → H D = some (.lst ys) ∧ ys.length ≤ i) (hl : ∀ i ys H, i ≤ kvs.length → Pv i ys H → H d = some (.frz o (.dK kvs))) (hn : kvs.length ≤ sizeLine)
    (hs : ∀ i p ys H, kvs[i]? = some p → Pv i ys H → tc (some (kV p.1) :: τ) H fun b H4 => if b = true then te (some (kV p.1) :: τ) H4 fun v H5 => H5 D = some (.lst ys) ∧ Pv (i + 1) (ys ++ [v]) (upd H5 D (.lst (ys ++ [v]))) else Pv (i + 1) ys H4)
    (hd : ∀ ys H, Pv kvs.length ys H → Q (.ref D) H) : CompToT (Itd d o kvs) D τ tc te Q H := by
  refine ⟨fun i m ys H => m = kvs.length - i ∧ i ≤ kvs.length ∧ Pv i ys H, ⟨kvs.length, by simp, Nat.zero_le _, h0⟩, ?_⟩
  rintro i m ys H2 ⟨rfl, hi, p⟩
  obtain ⟨d1, d2⟩ := hD i ys H2 hi p
  refine ⟨d1, ?_⟩
  have hS := hl i ys H2 hi p
  by_cases hlt : i < kvs.length
  · refine .inr ⟨⟨hS, hlt⟩, by omega, Pv (i + 1), fun zs H' p' => ⟨kvs.length - (i + 1), by omega, rfl, hlt, p'⟩, fun y H3 q => ?_⟩
    obtain ⟨e1, q', e2, e3⟩ := q
    subst e1 e3
    exact hs i q' ys _ e2 p
  · have e : i = kvs.length := by omega
    subst e
    exact .inl ⟨⟨hS, Nat.le_refl _⟩, hd ys H2 p⟩
end L2
end
section
set_option Elab.async false
set_option linter.all false
set_option maxRecDepth 100000
set_option maxHeartbeats 4000000
set_option exponentiation.threshold 4000
namespace K20
open PySem L2 LX
def top (i : Nat) : Stmt := PySem.Challenge.pw_stillheap_k20_held_only_by.main.body.getD i (.Pass ⟨0, 0, 0, 0⟩)
abbrev sLook : Stmt := top 5
abbrev sLTold : Stmt := top 6
abbrev sLThing : Stmt := top 7
abbrev sSteps : Stmt := top 8
abbrev sOnly : Stmt := top 10
abbrev sCell : Stmt := top 12
abbrev sWhole : Stmt := top 13
abbrev sDigits : Stmt := top 14
abbrev sStream : Stmt := top 15
abbrev sView : Stmt := top 16
abbrev sCopy : Stmt := top 17
abbrev sGrown : Stmt := top 18
abbrev sRoots : Stmt := top 19
abbrev sList : Stmt := top 20
abbrev sLaw : Stmt := top 21
section
variable {P : Program} {w : World} {K : PySem.W.Frag} {mg : Str → Option Value} {base : Heap}
/-- _law_cell -/
def spCell (K : PySem.W.Frag) : Sp := fun vs H Q _ => ∃ (a : Addr) (ns : List Int) (j : Nat), vs = [.ref a, .int j] ∧ SqL K H a (ns.map V.int) ∧ ∀ n : Int, Q (.int n) H
theorem ok_cell {f : Addr} {fd : FuncData} (F : Fun K "_law_cell" "_law_cell" sCell f fd) (zl : mg "len" = none) : FnOk P w K mg base (CXE P w) 1 f fd ["script", "k"] (spCell K) := by
  refine F.okE (N := ["script", "k"]) ⟨rfl, rfl, rfl, by decide +kernel, rfl, by decide +kernel, by decide +kernel⟩ (fun vs H Q E h => ?_) (fun cdv A outer s H vs Q E hr h => ?_)
  · obtain ⟨a, ns, j, rfl, _⟩ := h
    rfl
  · obtain ⟨a, ns, j, rfl, hS, k⟩ := h
    refine ⟨_, pss_cons (ps_if (pt_cmpR op_lt (pv 1) (pe_callB call_len_seq rfl zl PyProof.Rows.Boot.«len» (pa_cons (pv 0) pa_nil)) (nomark _)) (pss_one (ps_ret (pe_ix ix_list (pv 0) (pv 1) (fun _ _ => rfl)))) pss_nil) (pss_one (ps_ret pe_int)), ?_⟩
    refine ⟨_, rfl, _, rfl, a, _, rfl, .inl hS, _, _, rfl, rfl, _, rfl, ite2 (fun h => ?_) (fun _ => k 0)⟩
    simp only [List.length_map, decide_eq_true_eq] at h
    have hj : j < ns.length := by omega
    exact ⟨_, rfl, _, rfl, a, _, _, .int (ns[j]'hj), rfl, rfl, hS, atI_nat (by rw [List.getElem?_map, List.getElem?_eq_getElem hj]; rfl), k _⟩
/-- _law_digits -/
def spDigits : Sp := fun vs H Q _ => ∃ c : Int, vs = [.int c] ∧ ∀ (p : Addr) (ds : List Int) (H' : Hp), Same H H' → H' p = some (.lst (ds.map V.int)) → H p = none → ds.length = 6 → Q (.ref p) H'
theorem scD : FnScope ["cell", "rest", "told", "k", "near"] ["cell"] (defScope sDigits) := ⟨rfl, rfl, rfl, by decide +kernel, rfl, by decide +kernel, by decide +kernel⟩
theorem ok_digits {f : Addr} {fd : FuncData} (F : Fun K "_law_digits" "_law_digits" sDigits f fd) (zr : mg "range" = none) : FnOk P w K mg base (CXE P w) 1 f fd ["cell"] spDigits := by
  refine F.okE scD (fun vs H Q E h => ?_) (fun cdv A outer s H vs Q E hr h => ?_)
  · obtain ⟨c, rfl, _⟩ := h
    rfl
  · obtain ⟨c, rfl, k⟩ := h
    refine ⟨_, PSs.nox (pss_cons (ps_set (i := 1) scD.nd rfl (Or.inl rfl) (pe_op op_fdiv (pv 0) pe_int)) (pss_cons (ps_set (i := 2) scD.nd rfl (Or.inl rfl) (pe_lst pa_nil))
      (pss_cons (ps_for PassesOwn.never rfl (pi_range1 rfl zr (pa_cons pe_int pa_nil)) (pg_name (i := 3) scD.nd rfl (Or.inl rfl))
        (pss_one (ps_if (pt_cmpR op_eq (pe_op op_mod (pv 0) pe_int) pe_int (nomark _))
          (pss_cons (ps_expr (pe_bm PySem.F.plainAttrs_list PySem.F.slot_list_append PySem.F.type_list_append mt_append (pv 2) (pa_cons (pe_op op_mod (pv 1) pe_int) pa_nil))) (pss_one (ps_set (i := 1) scD.nd rfl (Or.inl rfl) (pe_op op_fdiv (pv 1) pe_int))))
          (pss_cons (ps_set (i := 4) scD.nd rfl (Or.inl rfl) (pe_op op_mod (pe_op op_add (pe_op op_add (pv 1) (pe_op op_mul pe_int (pv 3))) pe_int) pe_int))
          (pss_cons (ps_set (i := 4) scD.nd rfl (Or.inl rfl) (pe_op op_add (pe_op op_mod (pe_op op_mul (pv 4) (pv 4)) pe_int) (pe_op op_mul pe_int (pv 3))))
          (pss_one (ps_expr (pe_bm PySem.F.plainAttrs_list PySem.F.slot_list_append PySem.F.type_list_append mt_append (pv 2) (pa_cons (pe_op op_mod (pe_op op_fdiv (pe_op op_mod (pe_op op_mul (pv 4) (pv 4)) pe_int) pe_int) pe_int) pa_nil)))))))))
      (pss_one (ps_ret (pv 2)))))), ?_⟩
    refine ⟨_, rfl, c, 2, rfl, rfl, ⟨by decide, by decide⟩, by show 0 ≤ sizeLine; exact Nat.zero_le _, fun p hp => ?_⟩
    refine ⟨6, rfl, by decide, by decide, for_range (lo := 0) (n := 6) (fun i σ H2 => ∃ (r : Int) (v3 v4 : Option V) (ds : List Int), σ = [some (.int c), some (.int r), some (.ref p), v3, v4] ∧ Same H H2 ∧ H2 p = some (.lst (ds.map V.int)) ∧ ds.length = i)
      ⟨_, none, none, [], rfl, Same.upd hp, upd_same, rfl⟩ ?_ ?_⟩
    · rintro i σ H2 hi ⟨r, v3, v4, ds, rfl, s2, z, hl⟩
      have fin : ∀ d : Int, Same H (upd H2 p (.lst (ds.map V.int ++ [V.int d]))) ∧ upd H2 p (.lst (ds.map V.int ++ [V.int d])) p = some (.lst ((ds ++ [d]).map V.int)) ∧ (ds ++ [d]).length = i + 1 := fun d =>
        ⟨fun b u q => by rw [upd_ne (ne_of_none q hp)]; exact s2 b u q, by rw [upd_same, List.map_append]; rfl, by rw [List.length_append, hl]; rfl⟩
      have hz : (ds.map V.int).length < sizeLine := by rw [List.length_map, hl]; exact Nat.lt_trans hi (by decide)
      refine ⟨_, rfl, c, 2, rfl, rfl, (by show (0 : Int) < 2; decide), rfl, _, rfl, ite2 (fun _ => ?_) (fun _ => ?_)⟩
      · refine ⟨_, rfl, .inl ⟨rfl, _, SqL.of z⟩, _, rfl, r, 60, rfl, rfl, (by show (0 : Int) < 60; decide), p, _, _, rfl, rfl, z, hz, ?_⟩
        refine ⟨_, rfl, r, 60, rfl, rfl, ⟨by decide, by decide⟩, ?_⟩
        exact ⟨_, _, _, _, rfl, fin _⟩
      · refine ⟨_, rfl, _, rfl, 7919, _, rfl, rfl, .inl ⟨by decide, by decide⟩, r, _, rfl, rfl, _, 11, rfl, rfl, _, 2305843009213693951, rfl, rfl, (by show (0 : Int) < 2305843009213693951; decide), ?_⟩
        have b0 := Int.emod_nonneg (r + 7919 * (0 + (i : Int)) + 11) (show (2305843009213693951 : Int) ≠ 0 by decide)
        have b1 := Int.emod_lt_of_pos (r + 7919 * (0 + (i : Int)) + 11) (show (0 : Int) < 2305843009213693951 by decide)
        obtain ⟨n1, e1⟩ : ∃ n1, (r + 7919 * (0 + (i : Int)) + 11) % 2305843009213693951 = n1 := ⟨_, rfl⟩
        rw [e1] at b0 b1
        have c0 := Int.emod_nonneg (n1 * n1) (show (1000000007 : Int) ≠ 0 by decide)
        have c1 := Int.emod_lt_of_pos (n1 * n1) (show (0 : Int) < 1000000007 by decide)
        refine ⟨_, rfl, _, rfl, _, _, rfl, rfl, .inl ?_, _, 1000000007, rfl, rfl, (by show (0 : Int) < 1000000007; decide), _, rfl, 31, _, rfl, rfl, .inl ⟨by decide, by decide⟩, _, _, rfl, rfl, ?_⟩
        · show _ < (r + 7919 * (0 + (i : Int)) + 11) % 2305843009213693951 ∧ (r + 7919 * (0 + (i : Int)) + 11) % 2305843009213693951 < _
          rw [e1]
          omega
        · refine ⟨_, rfl, .inl ⟨rfl, _, SqL.of z⟩, _, rfl, _, rfl, _, _, rfl, rfl, .inl ?_, _, 998244353, rfl, rfl, (by show (0 : Int) < 998244353; decide), _, 8, rfl, rfl, ⟨by decide, by decide⟩, _, 60, rfl, rfl, (by show (0 : Int) < 60; decide), p, _, _, rfl, rfl, z, hz, ?_⟩
          · show _ < (r + 7919 * (0 + (i : Int)) + 11) % 2305843009213693951 * ((r + 7919 * (0 + (i : Int)) + 11) % 2305843009213693951) % 1000000007 + 31 * (0 + (i : Int)) ∧ (r + 7919 * (0 + (i : Int)) + 11) % 2305843009213693951 * ((r + 7919 * (0 + (i : Int)) + 11) % 2305843009213693951) % 1000000007 + 31 * (0 + (i : Int)) < _
            rw [e1]
            omega
          · exact ⟨_, _, _, _, rfl, fin _⟩
    · rintro σ H2 ⟨r, v3, v4, ds, rfl, s2, z, hl⟩
      exact ⟨_, rfl, k p ds H2 s2 z hp hl⟩
theorem sq_same {H H' : Hp} {a : Addr} {xs : List V} (h : SqL K H a xs) (s : Same H H') : SqL K H' a xs := Or.imp (fun r => Or.elim r (fun e => .inl (s _ _ e)) fun ⟨o, e⟩ => .inr ⟨o, s _ _ e⟩) id h
def cmp? : Stmt → Option Expr
  | .Assign _ e _ => some e
  | _ => none
def scopeOf : Option Expr → Scope
  | some (.ListComp _ _ sc _) => sc
  | _ => default
abbrev scpS : Scope := scopeOf (cmp? ((defBody sStream).head!))
theorem cS : CompP (defScope sStream) scpS "k" [] ["script", "many", "told", "k", "cell", "place", "digit", "at"] [] := by decide +kernel
/-- _law_stream -/
def spStream (K : PySem.W.Frag) : Sp := fun vs H Q _ => ∃ (a : Addr) (ns : List Int), vs = [.ref a, .int 100] ∧ SqL K H a (ns.map V.int) ∧ ns.length ≤ 1000 ∧ ∀ (p : Addr) (ds : List Int) (H' : Hp), Same H H' → H' p = some (.lst (ds.map V.int)) → H p = none → ds.length = 100 → Q (.ref p) H'
theorem scS : FnScope ["script", "many", "told", "k", "cell", "place", "digit", "at"] ["script", "many"] (defScope sStream) := ⟨rfl, rfl, rfl, by decide +kernel, rfl, by decide +kernel, by decide +kernel⟩
theorem ok_stream {f fD : Addr} {fd fdD : FuncData} (F : Fun K "_law_stream" "_law_stream" sStream f fd) (zr : mg "range" = none) (ze : mg "enumerate" = none) (GD : FnOk P w K mg base (CXE P w) 1 fD fdD ["cell"] spDigits) (mD : mg "_law_digits" = some (.ref fD)) (kD : PySem.W.keepIn K (.ref fD) = true) (bD : Binds K fdD ["cell"] []) :
    FnOk P w K mg base (CXE P w) 2 f fd ["script", "many"] (spStream K) := by
  refine F.okE scS (fun vs H Q E h => ?_) (fun cdv A outer s H vs Q E hr h => ?_)
  · obtain ⟨a, ns, rfl, _⟩ := h
    rfl
  · obtain ⟨a, ns, rfl, hS, hz, k⟩ := h
    have co : CompOk (cxE P w K mg base ["script", "many", "told", "k", "cell", "place", "digit", "at"] "_law_stream" (defScope sStream) f cdv A outer s H E).nox scpS [] "k" [] ["k"] :=
      comp_ok rfl rfl rfl cS rfl rfl (by intro q hq; cases hq)
    refine ⟨_, PSs.nox (pss_cons (ps_comp (i := 2) scS.nd rfl rfl co rfl (pi_range1 rfl zr (pa_cons (pv 1) pa_nil))
          (fun C fp s₀ H₀ => pe_op op_mod (pe_op op_add (pe_op op_add (pe_op op_mul (pe_op op_mul (pv 0) (pv 0)) pe_int) (pe_op op_mul pe_int (pv 0))) pe_int) pe_int))
      (pss_cons (ps_for PassesOwn.never rfl (pi_enum rfl ze (pa_cons (pv 0) pa_nil)) (pg_tup rfl (pgs_cons (pg_name (i := 3) scS.nd rfl (Or.inl rfl)) (pgs_cons (pg_name (i := 4) scS.nd rfl (Or.inl rfl)) pgs_nil)))
        (pss_one (ps_for PassesOwn.never rfl (pi_enum rfl ze (pa_cons (xe_call GD hr rfl mD kD bD .nil passN (pa_cons (pv 4) pa_nil)) pa_nil)) (pg_tup rfl (pgs_cons (pg_name (i := 5) scS.nd rfl (Or.inl rfl)) (pgs_cons (pg_name (i := 6) scS.nd rfl (Or.inl rfl)) pgs_nil)))
          (pss_cons (ps_set (i := 7) scS.nd rfl (Or.inl rfl) (pe_op op_mod (pe_op op_add (pe_op op_mul pe_int (pv 3)) (pv 5)) (pv 1)))
          (pss_one (ps_asg (pe_op op_mod (pe_op op_add (pe_op op_mul (pe_ix ix_list (pv 2) (pv 7) (fun _ _ => rfl)) pe_int) (pv 6)) pe_int) (pg_sub (pv 2) (pv 7) set_list)))))))
      (pss_one (ps_ret (pv 2))))), ?_⟩
    refine ⟨_, rfl, 100, rfl, by decide, by decide, fun D hD => ?_⟩
    refine comp_range (lo := 0) (n := 100) (fun i zs H2 => ∃ ds : List Int, zs = ds.map V.int ∧ ds.length = i ∧ Same H H2 ∧ H2 D = some (.lst zs)) ⟨[], rfl, rfl, Same.upd hD, upd_same⟩ (fun i zs H2 hi ⟨ds, e, l, _, z⟩ => ⟨z, by rw [e, List.length_map]; exact l⟩)
      (by decide) (fun i zs H2 hi ⟨ds, e, l, s2, z⟩ => ?_) (fun zs H2 ⟨ds, e, l, s2, z⟩ => ?_)
    · refine ⟨_, rfl, _, rfl, 0 + (i : Int), 0 + (i : Int), rfl, rfl, .inl ⟨by omega, by omega⟩, _, 7, rfl, rfl, .inr ⟨by decide, by decide⟩, _, rfl, 13, _, rfl, rfl, .inl ⟨by decide, by decide⟩, _, _, rfl, rfl, _, 5, rfl, rfl, _, 61, rfl, rfl, (by show (0 : Int) < 61; decide), z, ds ++ [((0 + (i : Int)) * (0 + (i : Int)) * 7 + 13 * (0 + (i : Int)) + 5) % 61], ?_, ?_, ?_, upd_same⟩
      · rw [List.map_append, e]; rfl
      · rw [List.length_append, l]; rfl
      · exact fun b u q => by rw [upd_ne (ne_of_none q hD)]; exact s2 b u q
    · have fin : ∀ {H3 : Hp} {zs : List V}, Same H H3 → Same H (upd H3 D (.lst zs)) := fun s3 b u q => by rw [upd_ne (ne_of_none q hD)]; exact s3 b u q
      refine ⟨_, rfl, a, rfl, ⟨_, sq_same hS s2⟩, for_enum (K := K) (a := a) (xs := ns.map V.int) (fun i σ H3 => ∃ (v3 v4 v5 v6 v7 : Option V) (ds : List Int), σ = [some (.ref a), some (.int 100), some (.ref D), v3, v4, v5, v6, v7] ∧ Same H H3 ∧ H3 D = some (.lst (ds.map V.int)) ∧ ds.length = 100)
        ⟨none, none, none, none, none, ds, rfl, s2, by rw [← e]; exact z, l⟩ (fun i σ H3 _ ⟨_, _, _, _, _, _, _, s3, _⟩ => sq_same hS s3) ?_ ?_⟩
      · rintro i x σ H3 t hi ⟨v3, v4, v5, v6, v7, ds3, rfl, s3, z3, l3⟩ ht
        have hlt : i < ns.length := by have := (List.getElem?_eq_some_iff.mp hi).1; rwa [List.length_map] at this
        rw [List.getElem?_map] at hi
        obtain ⟨n, hn, rfl⟩ := Option.map_eq_some_iff.mp hi
        have s4 : Same H (upd H3 t (.tup [.int (i : Int), .int n])) := s3.trans (Same.upd ht)
        have z4 : upd H3 t (.tup [.int (i : Int), .int n]) D = some (.lst (ds3.map V.int)) := by rw [upd_ne (ne_of_none z3 ht)]; exact z3
        refine ⟨t, _, rfl, SqT.of upd_same, rfl, _, _, rfl, _, _, rfl, rfl, ?_⟩
        refine ⟨_, rfl, n, rfl, fun p2 ds2 H5 s5 z5 hp2 l2 => ?_⟩
        have nD : D ≠ p2 := ne_of_none z4 hp2
        refine ⟨p2, rfl, ⟨_, SqL.of z5⟩, for_enum (K := K) (a := p2) (xs := ds2.map V.int) (fun j σ H6 => ∃ (v5 v6 v7 : Option V) (ds : List Int), σ = [some (.ref a), some (.int 100), some (.ref D), some (.int (i : Int)), some (.int n), v5, v6, v7] ∧ Same H H6 ∧ H6 D = some (.lst (ds.map V.int)) ∧ ds.length = 100 ∧ H6 p2 = some (.lst (ds2.map V.int)))
          ⟨_, _, _, ds3, rfl, s4.trans s5, s5 _ _ z4, l3, z5⟩ (fun j σ H6 _ ⟨_, _, _, _, _, _, _, _, q⟩ => SqL.of q) ?_ ?_⟩
        · rintro j y σ H6 t2 hj ⟨v5, v6, v7, ds6, rfl, s6, z6, l6, q6⟩ ht2
          have hjt : j < ds2.length := by have := (List.getElem?_eq_some_iff.mp hj).1; rwa [List.length_map] at this
          rw [List.getElem?_map] at hj
          obtain ⟨d, hd, rfl⟩ := Option.map_eq_some_iff.mp hj
          have s7 : Same H (upd H6 t2 (.tup [.int (j : Int), .int d])) := s6.trans (Same.upd ht2)
          have z7 : upd H6 t2 (.tup [.int (j : Int), .int d]) D = some (.lst (ds6.map V.int)) := by rw [upd_ne (ne_of_none z6 ht2)]; exact z6
          have q7 : upd H6 t2 (.tup [.int (j : Int), .int d]) p2 = some (.lst (ds2.map V.int)) := by rw [upd_ne (ne_of_none q6 ht2)]; exact q6
          refine ⟨t2, _, rfl, SqT.of upd_same, rfl, _, _, rfl, _, _, rfl, rfl, ?_⟩
          refine ⟨_, rfl, 6, _, rfl, rfl, .inl ⟨by decide, by decide⟩, _, rfl, _, _, rfl, rfl, _, rfl, _, 100, rfl, rfl, (by show (0 : Int) < 100; decide), ?_⟩
          have b0 := Int.emod_nonneg (6 * (i : Int) + (j : Int)) (show (100 : Int) ≠ 0 by decide)
          have b1 := Int.emod_lt_of_pos (6 * (i : Int) + (j : Int)) (show (0 : Int) < 100 by decide)
          obtain ⟨m, em⟩ : ∃ m : Nat, (6 * (i : Int) + (j : Int)) % 100 = (m : Int) := ⟨((6 * (i : Int) + (j : Int)) % 100).toNat, by omega⟩
          have hm : m < ds6.length := by omega
          have hat : atI (ds6.map V.int) ((6 * (i : Int) + (j : Int)) % 100) = some (.int (ds6[m]'hm)) := by
            rw [em]
            exact atI_nat (by rw [List.getElem?_map, List.getElem?_eq_getElem hm]; rfl)
          have hix : ixN (ds6.map V.int).length ((6 * (i : Int) + (j : Int)) % 100) = some m := by
            rw [em]
            unfold ixN
            rw [if_pos (by omega), if_pos (by rw [List.length_map]; omega)]
            rfl
          refine ⟨_, rfl, _, rfl, D, _, _, .int (ds6[m]'hm), rfl, rfl, SqL.of z7, hat, _, 7, rfl, rfl, .inr ⟨by decide, by decide⟩, _, rfl, _, _, rfl, rfl, _, 100003, rfl, rfl, (by show (0 : Int) < 100003; decide), ?_⟩
          refine ⟨_, rfl, _, rfl, D, _, _, m, rfl, rfl, z7, hix, ?_⟩
          refine ⟨_, _, _, ds6.set m ((ds6[m]'hm * 7 + d) % 100003), rfl, fin s7, ?_, by rw [List.length_set]; exact l6, ?_⟩
          · rw [upd_same, List.map_set]
          · rw [upd_ne (Ne.symm nD)]
            exact q7
        · rintro σ H6 ⟨v5, v6, v7, ds6, rfl, s6, z6, l6, _⟩
          exact ⟨_, _, _, _, _, ds6, rfl, s6, z6, l6⟩
      · rintro σ H3 ⟨v3, v4, v5, v6, v7, ds3, rfl, s3, z3, l3⟩
        exact ⟨_, rfl, k D ds3 H3 s3 z3 hD l3⟩
def oV : Option Int → V
  | none => .non
  | some n => .int n
def ret? : Stmt → Option Expr
  | .Return e _ => e
  | _ => none
abbrev scpR : Scope := scopeOf (ret? ((defBody sRoots).head!))
theorem cR : CompP (defScope sRoots) scpR "thing" [] ["view"] [] := by decide +kernel
/-- _law_roots -/
def spRoots (K : PySem.W.Frag) : Sp := fun vs H Q _ => ∃ (t r : Addr) (x : V) (rs : List (Option Int)), vs = [.ref t] ∧ SqT K H t [.ref r, x] ∧ H r = some (.lst (rs.map oV)) ∧ rs.length ≤ 1000 ∧
  ∀ (p : Addr) (H' : Hp), Same H H' → H p = none → H' p = some (.lst ((rs.filterMap id).map V.int)) → Q (.ref p) H'
theorem scR : FnScope ["view"] ["view"] (defScope sRoots) := ⟨rfl, rfl, rfl, by decide +kernel, rfl, by decide +kernel, by decide +kernel⟩
theorem ok_roots {f : Addr} {fd : FuncData} (F : Fun K "_law_roots" "_law_roots" sRoots f fd) : FnOk P w K mg base (CXE P w) 1 f fd ["view"] (spRoots K) := by
  refine F.okE scR (fun vs H Q E h => ?_) (fun cdv A outer s H vs Q E hr h => ?_)
  · obtain ⟨t, r, x, rs, rfl, _⟩ := h
    rfl
  · obtain ⟨t, r, x, rs, rfl, ht, hr0, hz, k⟩ := h
    have co : CompOk (cxE P w K mg base ["view"] "_law_roots" (defScope sRoots) f cdv A outer s H E).nox scpR [] "thing" [] ["thing"] :=
      comp_ok rfl rfl rfl cR rfl rfl (by intro q hq; cases hq)
    refine ⟨_, PSs.nox (pss_one (ps_ret (pe_compU co rfl (pi_list (pe_ix ix_tup (pv 0) pe_int (fun _ _ => rfl))) (fun C fp s₀ H₀ => pt_cmpR op_notN (pv 0) pe_non (nomark _)) (fun C fp s₀ H₀ => pv 0)))), ?_⟩
    refine ⟨_, rfl, t, _, 0, .ref r, rfl, rfl, ht, rfl, r, rfl, ⟨_, SqL.of hr0⟩, fun D hD => ?_⟩
    refine compT_list (K := K) (a := r) (xs := rs.map oV) (fun i ys H2 => ys = ((rs.take i).filterMap id).map V.int ∧ Same H H2 ∧ H2 D = some (.lst ys)) ⟨rfl, Same.upd hD, upd_same⟩ (fun i ys H2 _ ⟨e, _, z⟩ => ⟨z, ?_⟩) (fun i ys H2 _ ⟨_, s2, _⟩ => SqL.of (s2 _ _ hr0)) ?_ (fun i x ys H2 hx ⟨e, s2, z⟩ => ?_) (fun ys H2 ⟨e, s2, z⟩ => ?_)
    · rw [e, List.length_map]
      exact Nat.le_trans (List.length_filterMap_le _ _) (by rw [List.length_take]; omega)
    · rw [List.length_map]
      exact Nat.le_trans hz (by decide)
    · have hlt : i < rs.length := by have := (List.getElem?_eq_some_iff.mp hx).1; rwa [List.length_map] at this
      have tk : rs.take (i + 1) = rs.take i ++ [rs[i]] := List.take_succ_eq_append_getElem hlt
      have hxe : x = oV rs[i] := by
        rw [List.getElem?_map, List.getElem?_eq_getElem hlt] at hx
        exact (Option.some.inj hx).symm
      subst hxe
      cases hc : rs[i] with
      | none =>
        refine ⟨_, rfl, rfl, _, rfl, iteF ⟨?_, s2, z⟩⟩
        rw [tk, hc, List.filterMap_append, e]
        simp
      | some n =>
        refine ⟨_, rfl, rfl, _, rfl, iteT ⟨_, rfl, z, ?_, fun b u q => by rw [upd_ne (ne_of_none q hD)]; exact s2 b u q, upd_same⟩⟩
        rw [tk, hc, List.filterMap_append, List.map_append, e]
        rfl
    · rw [List.length_map, List.take_of_length_le (Nat.le_refl _)] at e
      exact k D H2 s2 hD (by rw [← e]; exact z)
abbrev Fs := List (Int × List (Option Int))
def kvl (ad : Int → Addr) (ks : Fs) : List (Key × V) := ks.map fun p => (Sum.inl p.1, V.ref (ad p.1))
/-- a view in the store -/
structure Vw (H : Hp) (r d : Addr) (o : Obj) (ad : Int → Addr) (rs : List (Option Int)) (ks : Fs) : Prop where
  hr : H r = some (.lst (rs.map oV))
  hd : H d = some (.frz o (.dK (kvl ad ks)))
  hl : ∀ p ∈ ks, H (ad p.1) = some (.lst (p.2.map oV))
theorem Vw.same {H H' : Hp} {r d : Addr} {o : Obj} {ad : Int → Addr} {rs : List (Option Int)} {ks : Fs} (v : Vw H r d o ad rs ks) (s : Same H H') : Vw H' r d o ad rs ks := ⟨s _ _ v.hr, s _ _ v.hd, fun p hp => s _ _ (v.hl p hp)⟩
/-- a view that tells what it has -/
structure Rt (rs : List (Option Int)) (ks : Fs) : Prop where
  nd : (ks.map (·.1)).Nodup
  pos : ∀ p ∈ ks, 0 ≤ p.1
  kl : ks.length ≤ 11
  rl : rs.length ≤ 20
  fl : ∀ p ∈ ks, p.2.length ≤ 6
  ri : ∀ n, some n ∈ rs → n ∈ ks.map (·.1)
  fi : ∀ p ∈ ks, ∀ n, some n ∈ p.2 → n ∈ ks.map (·.1)
  top : ∀ p ∈ ks, p.1 ≤ 1000
theorem val_kvl (ad : Int → Addr) (t : Int) : ∀ ks : Fs, valV (kvl ad ks) (Sum.inl t) = if t ∈ ks.map (·.1) then some (V.ref (ad t)) else none
  | [] => rfl
  | (k, fs) :: r => by
    have ih := val_kvl ad t r
    by_cases e : k = t
    · subst e
      rw [show kvl ad ((k, fs) :: r) = (Sum.inl k, V.ref (ad k)) :: kvl ad r from rfl, valV_pos rfl, if_pos (by simp)]
    · rw [show kvl ad ((k, fs) :: r) = (Sum.inl k, V.ref (ad k)) :: kvl ad r from rfl, valV_neg (fun z => e (by injection z)), ih]
      have : (t ∈ ((k, fs) :: r).map (·.1)) ↔ t ∈ r.map (·.1) := by
        rw [List.map_cons, List.mem_cons]
        exact ⟨fun z => z.resolve_left fun y => e y.symm, .inr⟩
      simp only [this]
theorem kvl_congr {ad ad' : Int → Addr} {ks : Fs} (h : ∀ p ∈ ks, ad p.1 = ad' p.1) : kvl ad ks = kvl ad' ks := List.map_congr_left fun p hp => by rw [h p hp]
def inFor : Stmt → Nat → Stmt
  | .For _ _ b _ _, i => b.getD i (.Pass ⟨0, 0, 0, 0⟩)
  | s, _ => s
abbrev NV : List Str := ["script", "cell", "stream", "things", "named", "fields", "at", "thing", "many", "roots"]
abbrev scpV1 : Scope := scopeOf (cmp? ((defBody sView).getD 2 (.Pass ⟨0, 0, 0, 0⟩)))
abbrev scpV2 : Scope := scopeOf (cmp? (inFor ((defBody sView).getD 6 (.Pass ⟨0, 0, 0, 0⟩)) 1))
abbrev scpV3 : Scope := scopeOf (cmp? ((defBody sView).getD 8 (.Pass ⟨0, 0, 0, 0⟩)))
theorem cV1 : CompP (defScope sView) scpV1 "k" ["cell"] NV [1] := by decide +kernel
theorem cV2 : CompP (defScope sView) scpV2 "number" ["named"] NV [4] := by decide +kernel
theorem cV3 : CompP (defScope sView) scpV3 "number" ["named"] NV [4] := by decide +kernel
theorem scV : FnScope NV ["script"] (defScope sView) := ⟨rfl, rfl, rfl, by decide +kernel, rfl, by decide +kernel, by decide +kernel⟩
def spView (K : PySem.W.Frag) : Sp := fun vs H Q _ => ∃ (a : Addr) (ns : List Int), vs = [.ref a] ∧ SqL K H a (ns.map V.int) ∧ ns.length ≤ 1000 ∧
  ∀ (v r d : Addr) (o : Obj) (ad : Int → Addr) (rs : List (Option Int)) (ks : Fs) (H' : Hp), Same H H' → H' v = some (.tup [.ref r, .ref d]) → Vw H' r d o ad rs ks → Rt rs ks → Q (.ref v) H'
theorem cut_ints (ns : List Int) (lo hi : Option Int) : ∃ cs : List Int, cutV (ns.map V.int) lo hi = cs.map V.int ∧ cs.length ≤ ns.length := by
  refine ⟨(ns.drop (HT.sIx (ns.map V.int).length 0 lo)).take (HT.sIx (ns.map V.int).length (ns.map V.int).length hi - HT.sIx (ns.map V.int).length 0 lo), ?_, ?_⟩
  · unfold cutV
    rw [List.map_take, List.map_drop]
  · rw [List.length_take, List.length_drop]
    omega
theorem cut_len (ns : List Int) (lo hi : Option Int) {cs : List Int} (e : cutV (ns.map V.int) lo hi = cs.map V.int) : cs.length ≤ HT.sIx ns.length ns.length hi - HT.sIx ns.length 0 lo := by
  have := congrArg List.length e
  rw [List.length_map] at this
  rw [← this]
  unfold cutV
  rw [List.length_take, List.length_map]
  omega
/-- the thing at a place -/
def thg (b st : Int) (k : Nat) : Int := b + (0 + (k : Int)) * st
theorem thg_inj {b st : Int} (h : 0 < st) {i j : Nat} (e : thg b st i = thg b st j) : i = j := by
  unfold thg at e
  have e1 : (0 + (i : Int)) * st = (0 + (j : Int)) * st := by omega
  have := Int.eq_of_mul_eq_mul_right (by omega) e1
  omega
theorem thgs_nodup {b st : Int} (h : 0 < st) (n : Nat) : ((List.range n).map (thg b st)).Nodup :=
  List.Pairwise.map _ (fun i j q e => q (thg_inj h e)) List.nodup_range
def nmd (ts : List Int) : List (Option Int) := [none] ++ ts.map some ++ ts.map some
theorem nmd_map (ts : List Int) : (nmd ts).map oV = [V.non] ++ ts.map V.int ++ ts.map V.int := by
  unfold nmd
  rw [List.map_append, List.map_append, List.map_map]
  rfl
theorem nmd_len (ts : List Int) : (nmd ts).length = 1 + ts.length + ts.length := by
  unfold nmd
  simp
  omega
theorem nmd_mem {ts : List Int} {n : Int} (h : some n ∈ nmd ts) : n ∈ ts := by
  unfold nmd at h
  simp at h
  exact h
theorem at_named (ts : List Int) (q : Int) (i : Int) (h0 : 0 ≤ i) (h1 : i < (1 + ts.length + ts.length : Nat)) : ∃ x : Option Int, atI ([V.non] ++ ts.map V.int ++ ts.map V.int) i = some (oV x) ∧ ∀ n, x = some n → n ∈ ts := by
  obtain ⟨m, rfl⟩ : ∃ m : Nat, i = (m : Int) := ⟨i.toNat, by omega⟩
  have hm : m < (nmd ts).length := by rw [nmd_len]; omega
  refine ⟨(nmd ts)[m], ?_, fun n e => nmd_mem (by rw [← e]; exact List.getElem_mem hm)⟩
  rw [← nmd_map]
  exact atI_nat (by rw [List.getElem?_map, List.getElem?_eq_getElem hm]; rfl)
abbrev rLen (K : PySem.W.Frag) : List V → Hp → VK → Prop := fun xs H Q => ∃ p ys, xs = [.ref p] ∧ (SqL K H p ys ∨ SqT K H p ys) ∧ Q (.int ys.length) H
theorem at_cnt (c : Int) : ∃ cnt : Int, atI [V.int 3, V.int 1, V.int 6, V.int 9, V.int 11, V.int 0] (c % 6) = some (.int cnt) ∧ 0 ≤ cnt ∧ cnt ≤ 11 := by
  have b0 := Int.emod_nonneg c (show (6 : Int) ≠ 0 by decide)
  have b1 := Int.emod_lt_of_pos c (show (0 : Int) < 6 by decide)
  obtain e | e | e | e | e | e : c % 6 = ((0 : Nat) : Int) ∨ c % 6 = ((1 : Nat) : Int) ∨ c % 6 = ((2 : Nat) : Int) ∨ c % 6 = ((3 : Nat) : Int) ∨ c % 6 = ((4 : Nat) : Int) ∨ c % 6 = ((5 : Nat) : Int) := by omega
  all_goals rw [e]
  · exact ⟨3, atI_nat rfl, by decide, by decide⟩
  · exact ⟨1, atI_nat rfl, by decide, by decide⟩
  · exact ⟨6, atI_nat rfl, by decide, by decide⟩
  · exact ⟨9, atI_nat rfl, by decide, by decide⟩
  · exact ⟨11, atI_nat rfl, by decide, by decide⟩
  · exact ⟨0, atI_nat rfl, by decide, by decide⟩
theorem cut_six (ns : List Int) (at' m : Int) (h0 : 0 ≤ at') (h1 : 0 ≤ m) {cs : List Int} (e : cutV (ns.map V.int) (some (at' + 1)) (some (at' + 1 + m)) = cs.map V.int) : (cs.length : Int) ≤ m := by
  have h := cut_len ns _ _ e
  simp only [HT.sIx] at h
  rw [if_neg (by omega), if_neg (by omega)] at h
  omega
theorem cut_pre (ns : List Int) (m : Int) (h1 : 0 ≤ m) {cs : List Int} (e : cutV (ns.map V.int) none (some m) = cs.map V.int) : (cs.length : Int) ≤ m := by
  have h := cut_len ns _ _ e
  simp only [HT.sIx] at h
  rw [if_neg (by omega)] at h
  omega
theorem ok_view {f fC fS : Addr} {fd fdC fdS : FuncData} (F : Fun K "_law_view" "_law_view" sView f fd) (zr : mg "range" = none) (zl : mg "len" = none)
    (GC : FnOk P w K mg base (CXE P w) 1 fC fdC ["script", "k"] (spCell K)) (mC : mg "_law_cell" = some (.ref fC)) (kC : PySem.W.keepIn K (.ref fC) = true) (bC : Binds K fdC ["script", "k"] [])
    (GS : FnOk P w K mg base (CXE P w) 2 fS fdS ["script", "many"] (spStream K)) (mS : mg "_law_stream" = some (.ref fS)) (kS : PySem.W.keepIn K (.ref fS) = true) (bS : Binds K fdS ["script", "many"] []) :
    FnOk P w K mg base (CXE P w) 3 f fd ["script"] (spView K) := by
  refine F.okE scV (fun vs H Q E h => ?_) (fun cdv A outer s H vs Q E hr h => ?_)
  · obtain ⟨a, ns, rfl, _⟩ := h
    rfl
  · obtain ⟨a, ns, rfl, hS, hz, k⟩ := h
    have co1 : CompOk (cxE P w K mg base NV "_law_view" (defScope sView) f cdv A outer s H E).nox scpV1 [("cell", s.heap.objs.size + 1)] "k" [1] ["k", "cell"] :=
      comp_ok rfl rfl rfl cV1 rfl rfl (by intro q hq; rw [List.mem_singleton.mp hq]; rfl)
    have co2 : CompOk (cxE P w K mg base NV "_law_view" (defScope sView) f cdv A outer s H E).nox scpV2 [("named", s.heap.objs.size + 2)] "number" [4] ["number", "named"] :=
      comp_ok rfl rfl rfl cV2 rfl rfl (by intro q hq; rw [List.mem_singleton.mp hq]; rfl)
    have co3 : CompOk (cxE P w K mg base NV "_law_view" (defScope sView) f cdv A outer s H E).nox scpV3 [("named", s.heap.objs.size + 2)] "number" [4] ["number", "named"] :=
      comp_ok rfl rfl rfl cV3 rfl rfl (by intro q hq; rw [List.mem_singleton.mp hq]; rfl)
    have hu := hu_of hr
    refine ⟨_, PSs.nox (pss_cons (ps_set (i := 1) scV.nd rfl (Or.inr rfl) (xe_call GC (hr.mono (by decide)) rfl mC kC bC .nil passN (pa_cons (pv 0) (pa_cons pe_int pa_nil))))
      (pss_cons (ps_set (i := 2) scV.nd rfl (Or.inl rfl) (xe_call GS hr rfl mS kS bS .nil passN (pa_cons (pe_slice sl_list (pv 0) (po_some pe_int) po_none) (pa_cons pe_int pa_nil))))
      (pss_cons (ps_comp (i := 3) scV.nd rfl rfl co1 rfl (pi_range1 rfl zr (pa_cons (pe_ix ix_list (pe_lst (pa_cons pe_int (pa_cons pe_int (pa_cons pe_int (pa_cons pe_int (pa_cons pe_int (pa_cons pe_int pa_nil))))))) (pe_op op_mod (pv 1) pe_int) (fun _ _ => rfl)) pa_nil))
          (fun C fp s₀ H₀ => pe_op op_add (pe_op op_mod (pe_op op_fdiv (pv 1) pe_int) pe_int) (pe_op op_mul (pv 0) (pe_op op_add pe_int (pe_op op_mod (pe_op op_fdiv (pv 1) pe_int) pe_int)))))
      (pss_cons (ps_set (i := 4) scV.nd rfl (Or.inr rfl) (pe_op op_cat (pe_op op_cat (pe_lst (pa_cons pe_non pa_nil)) (pv 3)) (pv 3)))
      (pss_cons (ps_set (i := 5) scV.nd rfl (Or.inl rfl) pe_dnewK)
      (pss_cons (ps_set (i := 6) scV.nd rfl (Or.inl rfl) pe_int)
      (pss_cons (ps_for PassesOwn.never rfl (pi_list (pv 3)) (pg_name (i := 7) scV.nd rfl (Or.inl rfl))
          (pss_cons (ps_set (i := 8) scV.nd rfl (Or.inl rfl) (pe_op op_mod (pe_ix ix_list (pv 2) (pv 6) (fun _ _ => rfl)) pe_int))
          (pss_cons (ps_dput hu (pv 5) (pv 7) (pe_comp co2 rfl (pi_list (pe_slice sl_list (pv 2) (po_some (pe_op op_add (pv 6) pe_int)) (po_some (pe_op op_add (pe_op op_add (pv 6) pe_int) (pv 8)))))
              (fun C fp s₀ H₀ => pe_ix (r := rIxL K) ix_list (pv 1) (pe_op op_mod (pe_op op_fdiv (pv 0) pe_int) (pe_callB (r := rLen K) call_len_seq rfl zl PyProof.Rows.Boot.«len» (pa_cons (pv 1) pa_nil))) (fun _ _ => rfl))) rfl)
          (pss_one (ps_set (i := 6) scV.nd rfl (Or.inl rfl) (pe_op op_add (pe_op op_add (pv 6) pe_int) (pv 8)))))))
      (pss_cons (ps_set (i := 8) scV.nd rfl (Or.inl rfl) (pe_op op_mod (pe_op op_add (pe_op op_fdiv (pv 1) pe_int) pe_int) pe_int))
      (pss_cons (ps_comp (i := 9) scV.nd rfl rfl co3 rfl (pi_list (pe_slice sl_list (pv 2) po_none (po_some (pv 8))))
          (fun C fp s₀ H₀ => pe_ix (r := rIxL K) ix_list (pv 1) (pe_op op_mod (pe_op op_fdiv (pv 0) pe_int) (pe_callB (r := rLen K) call_len_seq rfl zl PyProof.Rows.Boot.«len» (pa_cons (pv 1) pa_nil))) (fun _ _ => rfl)))
      (pss_one (ps_ret (pe_frz (pe_tup (pa_cons (pv 9) (pa_cons (pv 5) pa_nil))))))))))))))), ?_⟩
    refine ⟨_, rfl, a, ns, 0, rfl, hS, fun cell => ?_⟩
    refine ⟨_, rfl, _, rfl, a, _, rfl, hS, fun p1 hp1 => ?_⟩
    obtain ⟨c1, ec1, lc1⟩ := cut_ints ns (some 1) none
    rw [ec1]
    refine ⟨p1, c1, rfl, SqL.of upd_same, by omega, fun st ds H1 s1 z1 hst lds => ?_⟩
    have s1' : Same H H1 := (Same.upd hp1).trans s1
    have z2 : (0 : Int) ≤ cell / 6 % 4 := Int.emod_nonneg _ (by decide)
    obtain ⟨b, eb⟩ : ∃ b : Int, cell / 6 % 4 = b := ⟨_, rfl⟩
    have z3 : (0 : Int) ≤ cell / 24 % 3 := Int.emod_nonneg _ (by decide)
    obtain ⟨sp, es⟩ : ∃ sp : Int, 1 + cell / 24 % 3 = sp := ⟨_, rfl⟩
    have hsp : 0 < sp := by omega
    have z2u : cell / 6 % 4 < 4 := Int.emod_lt_of_pos _ (by decide)
    have z3u : cell / 24 % 3 < 3 := Int.emod_lt_of_pos _ (by decide)
    rw [eb] at z2 z2u
    obtain ⟨cnt, hat, cn0, cn1⟩ := at_cnt cell
    refine ⟨by show 6 ≤ sizeLine; decide, fun p2 hp2 => ?_⟩
    refine ⟨_, rfl, cell, 6, rfl, rfl, (by show (0 : Int) < 6; decide), p2, _, _, .int cnt, rfl, rfl, SqL.of upd_same, hat, cnt, rfl, by omega, by omega, fun D hD => ?_⟩
    have sc : Same H1 (upd (upd H1 p2 (.lst [V.int 3, V.int 1, V.int 6, V.int 9, V.int 11, V.int 0])) D (.lst [])) := (Same.upd hp2).trans (Same.upd hD)
    have hD1 : H1 D = none := (Same.upd hp2).free hD
    refine comp_range (lo := 0) (n := cnt.toNat) (fun i zs H2 => zs = ((List.range i).map (thg b sp)).map V.int ∧ Same H1 H2 ∧ H2 D = some (.lst zs)) ⟨rfl, sc, upd_same⟩ (fun i zs H2 hi ⟨e, _, z⟩ => ⟨z, by rw [e, List.length_map, List.length_map, List.length_range]⟩)
      (Nat.le_trans (show cnt.toNat ≤ 11 by omega) (by decide)) (fun i zs H2 hi ⟨e, s2, z⟩ => ?_) (fun zs H2 ⟨e, s2, z⟩ => ?_)
    · refine ⟨_, rfl, cell, 6, rfl, rfl, ⟨by decide, by decide⟩, _, 4, rfl, rfl, (by show (0 : Int) < 4; decide), _, rfl, _, rfl, cell, 24, rfl, rfl, ⟨by decide, by decide⟩, _, 3, rfl, rfl, (by show (0 : Int) < 3; decide), 1, _, rfl, rfl, _, _, rfl, rfl, .inl ⟨by omega, by omega⟩, _, _, rfl, rfl, z, ?_, ?_, upd_same⟩
      · rw [e, List.range_succ, List.map_append, List.map_append, eb, es]
        rfl
      · exact fun c u q => by rw [upd_ne (ne_of_none q hD1)]; exact s2 c u q
    · obtain ⟨ts, ets⟩ : ∃ ts : List Int, (List.range cnt.toNat).map (thg b sp) = ts := ⟨_, rfl⟩
      have tl : ts.length = cnt.toNat := by rw [← ets, List.length_map, List.length_range]
      have tl11 : ts.length ≤ 11 := by omega
      have tnd : ts.Nodup := by rw [← ets]; exact thgs_nodup hsp _
      have tpos : ∀ t ∈ ts, 0 ≤ t := fun t ht => by
        rw [← ets] at ht
        obtain ⟨j, _, rfl⟩ := List.mem_map.mp ht
        have := Int.mul_nonneg (show (0 : Int) ≤ 0 + (j : Int) by omega) (show 0 ≤ sp by omega)
        unfold thg
        omega
      have ttop : ∀ t ∈ ts, t ≤ 1000 := fun t ht => by
        rw [← ets] at ht
        obtain ⟨j, hj, rfl⟩ := List.mem_map.mp ht
        have hj := List.mem_range.mp hj
        have h3 : sp = 1 ∨ sp = 2 ∨ sp = 3 := by omega
        unfold thg
        rcases h3 with h | h | h
        · rw [h]; omega
        · rw [h]; omega
        · rw [h]; omega
      rw [ets] at e
      subst e
      refine ⟨by show 1 ≤ sizeLine; decide, fun p3 hp3 => ⟨_, rfl, p3, D, _, _, rfl, rfl, upd_same, Same.upd hp3 _ _ z, Nat.le_trans (show [V.non].length + (ts.map V.int).length ≤ 12 by rw [List.length_map]; simp; omega) (by decide), fun p4 hp4 => ?_⟩⟩
      have z4 := Same.upd (o := .lst ([V.non] ++ ts.map V.int)) hp4 _ _ (Same.upd (o := .lst [V.non]) hp3 _ _ z)
      refine ⟨_, rfl, p4, D, _, _, rfl, rfl, upd_same, z4, Nat.le_trans (show ([V.non] ++ ts.map V.int).length + (ts.map V.int).length ≤ 23 by rw [List.length_append, List.length_map]; simp; omega) (by decide), fun p5 hp5 => ?_⟩
      obtain ⟨H5, e5⟩ : ∃ H5, upd (upd (upd H2 p3 (.lst [V.non])) p4 (.lst ([V.non] ++ ts.map V.int))) p5 (.lst ([V.non] ++ ts.map V.int ++ ts.map V.int)) = H5 := ⟨_, rfl⟩
      have s5 : Same H1 H5 := by rw [← e5]; exact ((s2.trans (Same.upd hp3)).trans (Same.upd hp4)).trans (Same.upd hp5)
      have d5 : H5 D = some (.lst (ts.map V.int)) := by rw [← e5]; exact Same.upd hp5 _ _ z4
      have n5 : H5 p5 = some (.lst ([V.non] ++ ts.map V.int ++ ts.map V.int)) := by rw [← e5]; exact upd_same
      have st5 : H5 st = some (.lst (ds.map V.int)) := s5 _ _ z1
      rw [e5]
      refine fun p6 hp6 => ?_
      have nl : (([V.non] ++ ts.map V.int ++ ts.map V.int).length : Int) = ((1 + ts.length + ts.length : Nat) : Int) := by
        rw [List.length_append, List.length_append, List.length_map]; rfl
      have np6 : ∀ {Hx : Hp} {kvs : List (Key × V)} {c : Addr} {xs : List V}, Hx p6 = some (.dK kvs) → Hx c = some (.lst xs) → c ≠ p6 := fun g1 g2 => ne_of g2 g1 (by intro z; cases z)
      refine ⟨_, rfl, D, rfl, ⟨_, SqL.of (Same.upd hp6 _ _ d5)⟩, for_list (K := K) (a := D) (xs := ts.map V.int) (fun i σ Hx => ∃ (at' : Nat) (v7 v8 : Option V) (ad : Int → Addr) (ks : Fs),
          σ = [some (.ref a), some (.int cell), some (.ref st), some (.ref D), some (.ref p5), some (.ref p6), some (.int (at' : Int)), v7, v8, none] ∧ Same H5 Hx ∧ Hx p6 = some (.dK (kvl ad ks)) ∧ ks.map (·.1) = ts.take i ∧
          (∀ p ∈ ks, Hx (ad p.1) = some (.lst (p.2.map oV)) ∧ p.2.length ≤ 6 ∧ ∀ n, some n ∈ p.2 → n ∈ ts) ∧ at' ≤ 10 + 7 * i)
        ⟨10, none, none, fun _ => 0, [], rfl, Same.upd hp6, upd_same, rfl, (fun p hp => nomatch hp), Nat.le_refl _⟩ (fun i σ Hx _ ⟨_, _, _, _, _, _, sx, _⟩ => SqL.of (sx _ _ d5)) ?_ ?_⟩
      · rintro i x σ Hx hi ⟨at', v7, v8, ad, ks, rfl, sx, g6, gk, gl, ga⟩
        have hlt : i < ts.length := by have := (List.getElem?_eq_some_iff.mp hi).1; rwa [List.length_map] at this
        have hxe : x = .int ts[i] := by
          rw [List.getElem?_map, List.getElem?_eq_getElem hlt] at hi
          exact (Option.some.inj hi).symm
        subst hxe
        have ha : at' < ds.length := by omega
        have hat2 : atI (ds.map V.int) (at' : Int) = some (.int (ds[at']'ha)) := atI_nat (by rw [List.getElem?_map, List.getElem?_eq_getElem ha]; rfl)
        refine ⟨_, rfl, _, rfl, st, _, _, .int (ds[at']'ha), rfl, rfl, SqL.of (sx _ _ st5), hat2, _, 7, rfl, rfl, (by show (0 : Int) < 7; decide), ?_⟩
        have m0 := Int.emod_nonneg (ds[at']'ha) (show (7 : Int) ≠ 0 by decide)
        have m1 := Int.emod_lt_of_pos (ds[at']'ha) (show (0 : Int) < 7 by decide)
        obtain ⟨m, em⟩ : ∃ m : Int, (ds[at']'ha) % 7 = m := ⟨_, rfl⟩
        rw [em] at m0 m1
        refine ⟨_, rfl, _, rfl, _, 1, rfl, rfl, _, rfl, _, rfl, _, 1, rfl, rfl, _, rfl, _, _, rfl, rfl, _, rfl, st, ds.map V.int, rfl, SqL.of (sx _ _ st5), fun q hq => ?_⟩
        obtain ⟨cs, ecs, lcs⟩ := cut_ints ds (some ((at' : Int) + 1)) (some ((at' : Int) + 1 + m))
        have l6 := cut_six ds (at' : Int) m (by omega) m0 ecs
        show ∃ a, _ ∧ _
        rw [em, ecs]
        refine ⟨q, rfl, ⟨_, SqL.of upd_same⟩, fun E' hE' => ?_⟩
        have sE : Same Hx (upd (upd Hx q (.lst (cs.map V.int))) E' (.lst [])) := (Same.upd hq).trans (Same.upd hE')
        have hE1 : Hx E' = none := (Same.upd hq).free hE'
        refine comp_list (K := K) (a := q) (xs := cs.map V.int) (fun j zs H7 => ∃ fs : List (Option Int), zs = fs.map oV ∧ fs.length = j ∧ (∀ n, some n ∈ fs → n ∈ ts) ∧ Same Hx H7 ∧ H7 E' = some (.lst zs) ∧ H7 q = some (.lst (cs.map V.int)))
          ⟨[], rfl, rfl, (fun n hn => nomatch hn), sE, upd_same, Same.upd hE' _ _ upd_same⟩ (fun j zs H7 _ ⟨fs, e1, e2, _, _, e3, _⟩ => ⟨e3, by rw [e1, List.length_map]; exact e2⟩) (fun j zs H7 _ ⟨fs, _, _, _, _, _, e4⟩ => SqL.of e4)
          (Nat.le_trans (show (cs.map V.int).length ≤ 6 by rw [List.length_map]; omega) (by decide)) (fun j x zs H7 hx ⟨fs, e1, e2, e3, s7, g7, q7⟩ => ?_) (fun zs H7 ⟨fs, e1, e2, e3, s7, g7, q7⟩ => ?_)
        · rw [List.getElem?_map] at hx
          obtain ⟨n, hn, rfl⟩ := Option.map_eq_some_iff.mp hx
          have n7 := s7 _ _ (sx _ _ n5)
          have i0 := Int.emod_nonneg (n / 3) (show ((1 + ts.length + ts.length : Nat) : Int) ≠ 0 by omega)
          have i1 := Int.emod_lt_of_pos (n / 3) (show (0 : Int) < ((1 + ts.length + ts.length : Nat) : Int) by omega)
          obtain ⟨y, hy, my⟩ := at_named ts 0 _ i0 i1
          refine ⟨_, rfl, _, rfl, n, 3, rfl, rfl, ⟨by decide, by decide⟩, _, rfl, p5, _, rfl, .inl (SqL.of n7), _, _, rfl, rfl, (by show (0 : Int) < _; rw [nl]; omega), p5, _, _, oV y, rfl, rfl, SqL.of n7, (by rw [nl]; exact hy), g7, fs ++ [y], ?_, ?_, ?_, ?_, upd_same, ?_⟩
          · rw [e1, List.map_append]; rfl
          · rw [List.length_append, e2]; rfl
          · intro n' hn'
            rcases List.mem_append.mp hn' with h | h
            · exact e3 n' h
            · exact my n' (List.mem_singleton.mp h).symm
          · exact fun c u g => by rw [upd_ne (ne_of_none g hE1)]; exact s7 c u g
          · rw [upd_ne (ne_of_none upd_same hE')]; exact q7
        · rw [List.length_map] at e2
          have g67 := s7 _ _ g6
          have tk : ts.take (i + 1) = ts.take i ++ [ts[i]] := List.take_succ_eq_append_getElem hlt
          have tnk : ts[i] ∉ ts.take i := fun hm => by
            have h1 : (ts.take i ++ [ts[i]]).Nodup := by rw [← tk]; exact (List.take_sublist _ _).nodup tnd
            have := (List.nodup_append.mp h1).2.2 _ hm _ (List.mem_singleton.mpr rfl)
            exact this rfl
          have vn : valV (kvl ad ks) (Sum.inl ts[i]) = none := by rw [val_kvl, gk, if_neg tnk]
          have kl : (kvl ad ks).length < sizeLine := by
            unfold kvl
            have := congrArg List.length gk
            rw [List.length_map] at this
            rw [List.length_map, this, List.length_take]
            exact Nat.lt_of_le_of_lt (show min i ts.length ≤ 11 by omega) (by decide)
          refine ⟨_, rfl, _, rfl, p6, _, rfl, DPut.k (k := Sum.inl ts[i]) g67 kl, ?_⟩
          rw [putK_new _ vn]
          refine ⟨_, rfl, _, 1, rfl, rfl, _, rfl, _, _, rfl, rfl, ?_⟩
          have nE : E' ≠ p6 := np6 g67 g7
          have cg : kvl ad ks ++ [(Sum.inl ts[i], V.ref E')] = kvl (fun k => if k = ts[i] then E' else ad k) (ks ++ [(ts[i], fs)]) := by
            unfold kvl
            rw [List.map_append]
            congr 1
            · refine List.map_congr_left fun p hp => ?_
              have e9 : (if p.1 = ts[i] then E' else ad p.1) = ad p.1 := if_neg fun z => tnk (by rw [← z, ← gk]; exact List.mem_map_of_mem hp)
              show _ = (Sum.inl p.1, V.ref (if p.1 = ts[i] then E' else ad p.1))
              rw [e9]
            · simp
          refine ⟨(at' + 1 + m.toNat), some (.int ts[i]), some (.int ((ds[at']'ha) % 7)), fun k => if k = ts[i] then E' else ad k, ks ++ [(ts[i], fs)], ?_, ?_, ?_, ?_, ?_, ?_⟩
          · have : ((at' + 1 + m.toNat : Nat) : Int) = (at' : Int) + 1 + m := by omega
            rw [this, ← em]
            rfl
          · exact fun c u g => by rw [upd_ne (ne_of_none g hp6)]; exact s7 c u (sx c u g)
          · rw [upd_same, cg]
          · rw [List.map_append, gk, tk]; rfl
          · intro p hp
            rcases List.mem_append.mp hp with h | h
            · obtain ⟨g1, g2, g3⟩ := gl p h
              refine ⟨?_, g2, g3⟩
              show upd H7 p6 _ (if p.1 = ts[i] then E' else ad p.1) = _
              rw [if_neg fun z => tnk (by rw [← z, ← gk]; exact List.mem_map_of_mem h)]
              have g1' := s7 _ _ g1
              rw [upd_ne (np6 g67 g1')]
              exact g1'
            · rw [List.mem_singleton.mp h]
              refine ⟨?_, by show fs.length ≤ 6; omega, e3⟩
              show upd H7 p6 _ (if ts[i] = ts[i] then E' else _) = _
              rw [if_pos rfl, upd_ne nE, g7, e1]
          · omega
      · rintro σ Hx ⟨at', v7, v8, ad, ks, rfl, sx, g6, gk, gl, ga⟩
        rw [List.length_map, List.take_of_length_le (Nat.le_refl _)] at gk
        refine ⟨_, rfl, cell, 72, rfl, rfl, ⟨by decide, by decide⟩, _, 4, rfl, rfl, _, 10, rfl, rfl, (by show (0 : Int) < 10; decide), ?_⟩
        have m0 := Int.emod_nonneg (cell / 72 + 4) (show (10 : Int) ≠ 0 by decide)
        have m1 := Int.emod_lt_of_pos (cell / 72 + 4) (show (0 : Int) < 10 by decide)
        obtain ⟨m, em⟩ : ∃ m : Int, (cell / 72 + 4) % 10 = m := ⟨_, rfl⟩
        rw [em] at m0 m1
        refine ⟨_, rfl, _, rfl, _, rfl, st, ds.map V.int, rfl, SqL.of (sx _ _ st5), fun q hq => ?_⟩
        obtain ⟨cs, ecs, lcs⟩ := cut_ints ds none (some m)
        have l9 := cut_pre ds m m0 ecs
        show ∃ a, _ ∧ _
        rw [em, ecs]
        refine ⟨q, rfl, ⟨_, SqL.of upd_same⟩, fun E' hE' => ?_⟩
        have sE : Same Hx (upd (upd Hx q (.lst (cs.map V.int))) E' (.lst [])) := (Same.upd hq).trans (Same.upd hE')
        have hE1 : Hx E' = none := (Same.upd hq).free hE'
        refine comp_list (K := K) (a := q) (xs := cs.map V.int) (fun j zs H7 => ∃ fs : List (Option Int), zs = fs.map oV ∧ fs.length = j ∧ (∀ n, some n ∈ fs → n ∈ ts) ∧ Same Hx H7 ∧ H7 E' = some (.lst zs) ∧ H7 q = some (.lst (cs.map V.int)))
          ⟨[], rfl, rfl, (fun n hn => nomatch hn), sE, upd_same, Same.upd hE' _ _ upd_same⟩ (fun j zs H7 _ ⟨fs, e1, e2, _, _, e3, _⟩ => ⟨e3, by rw [e1, List.length_map]; exact e2⟩) (fun j zs H7 _ ⟨fs, _, _, _, _, _, e4⟩ => SqL.of e4)
          (Nat.le_trans (show (cs.map V.int).length ≤ 9 by rw [List.length_map]; omega) (by decide)) (fun j x zs H7 hx ⟨fs, e1, e2, e3, s7, g7, q7⟩ => ?_) (fun zs H7 ⟨fs, e1, e2, e3, s7, g7, q7⟩ => ?_)
        · rw [List.getElem?_map] at hx
          obtain ⟨n, hn, rfl⟩ := Option.map_eq_some_iff.mp hx
          have n7 := s7 _ _ (sx _ _ n5)
          have i0 := Int.emod_nonneg (n / 5) (show ((1 + ts.length + ts.length : Nat) : Int) ≠ 0 by omega)
          have i1 := Int.emod_lt_of_pos (n / 5) (show (0 : Int) < ((1 + ts.length + ts.length : Nat) : Int) by omega)
          obtain ⟨y, hy, my⟩ := at_named ts 0 _ i0 i1
          refine ⟨_, rfl, _, rfl, n, 5, rfl, rfl, ⟨by decide, by decide⟩, _, rfl, p5, _, rfl, .inl (SqL.of n7), _, _, rfl, rfl, (by show (0 : Int) < _; rw [nl]; omega), p5, _, _, oV y, rfl, rfl, SqL.of n7, (by rw [nl]; exact hy), g7, fs ++ [y], ?_, ?_, ?_, ?_, upd_same, ?_⟩
          · rw [e1, List.map_append]; rfl
          · rw [List.length_append, e2]; rfl
          · intro n' hn'
            rcases List.mem_append.mp hn' with h | h
            · exact e3 n' h
            · exact my n' (List.mem_singleton.mp h).symm
          · exact fun c u g => by rw [upd_ne (ne_of_none g hE1)]; exact s7 c u g
          · rw [upd_ne (ne_of_none upd_same hE')]; exact q7
        · rw [List.length_map] at e2
          have g67 := s7 _ _ g6
          refine ⟨_, rfl, _, rfl, by show 2 ≤ sizeLine; decide, fun v hv => ⟨p6, kvl ad ks, Same.upd hv _ _ g67, fun o => ?_⟩⟩
          have nv : v ≠ p6 := fun z => by rw [z, g67] at hv; cases hv
          have up : ∀ {c : Addr} {xs : List V}, H7 c = some (.lst xs) → upd (upd H7 v (.tup [V.ref E', V.ref p6])) p6 (.frz o (.dK (kvl ad ks))) c = some (.lst xs) := fun g => by
            rw [upd_ne (np6 g67 g)]
            exact Same.upd hv _ _ g
          have hp0 : H p6 = none := (s1'.trans s5).free hp6
          refine k v E' p6 o ad fs ks _ (fun c u g => ?_) ?_ ⟨up (by rw [g7, e1]), upd_same, fun p hp => up (s7 _ _ (gl p hp).1)⟩ ⟨?_, ?_, ?_, ?_, ?_, ?_, ?_, fun p hp => ttop _ (by rw [← gk]; exact List.mem_map_of_mem hp)⟩
          · rw [upd_ne (ne_of_none g hp0)]
            exact Same.upd hv _ _ (s7 _ _ (sx _ _ (s5 _ _ (s1' _ _ g))))
          · rw [upd_ne nv, upd_same]
          · rw [gk]; exact tnd
          · exact fun p hp => tpos _ (by rw [← gk]; exact List.mem_map_of_mem hp)
          · have := congrArg List.length gk
            rw [List.length_map] at this
            omega
          · omega
          · exact fun p hp => (gl p hp).2.1
          · rw [gk]; exact e3
          · rw [gk]; exact fun p hp => (gl p hp).2.2
theorem ps_dead {X : Cx} {st : Stmt} : PS X st (fun _ _ _ => False) := fun _ _ _ _ _ _ h => h.elim
abbrev keys (ks : Fs) : List Int := ks.map (·.1)
theorem rd_vw {H : Hp} {r d : Addr} {o : Obj} {ad : Int → Addr} {rs : List (Option Int)} {ks : Fs} (v : Vw H r d o ad rs ks) : Rd H d (.dK (kvl ad ks)) := .inr ⟨o, v.hd⟩
theorem dget_f {H : Hp} {d : Addr} {o : Obj} {ad : Int → Addr} {ks : Fs} (h : H d = some (.frz o (.dK (kvl ad ks)))) (t : Int) : DGet H d (.int t) (if t ∈ keys ks then some (V.ref (ad t)) else none) := .inl ⟨_, Sum.inl t, .inr ⟨o, h⟩, rfl, by rw [val_kvl]⟩
theorem dget_in {H : Hp} {d : Addr} {o : Obj} {ad : Int → Addr} {ks : Fs} (h : H d = some (.frz o (.dK (kvl ad ks)))) {t : Int} (ht : t ∈ keys ks) : DGet H d (.int t) (some (V.ref (ad t))) := by
  have := dget_f h t
  rwa [if_pos ht] at this
/-- look_at_told -/
def spLTold : Sp := fun vs H Q _ => ∃ (l d : Addr) (o : Obj) (ad : Int → Addr) (fs : List (Option Int)) (ks : Fs), vs = [.ref l, .ref d] ∧ H l = some (.lst (fs.map oV)) ∧ H d = some (.frz o (.dK (kvl ad ks))) ∧ (∀ n, some n ∈ fs → n ∈ keys ks) ∧ Q .non H
theorem scLT : FnScope ["told", "fields", "t"] ["told", "fields"] (defScope sLTold) := ⟨rfl, rfl, rfl, by decide +kernel, rfl, by decide +kernel, by decide +kernel⟩
theorem ok_ltold {f : Addr} {fd : FuncData} (F : Fun K "look_at_told" "look_at_told" sLTold f fd) : FnOk P w K mg base (CXE P w) 1 f fd ["told", "fields"] spLTold := by
  refine F.okE scLT (fun vs H Q E h => ?_) (fun cdv A outer s H vs Q E hr h => ?_)
  · obtain ⟨l, d, o, ad, fs, ks, rfl, _⟩ := h
    rfl
  · obtain ⟨l, d, o, ad, fs, ks, rfl, hl, hd, hin, k⟩ := h
    have hu := hu_of hr
    refine ⟨_, PSs.nox (pss_one (ps_for PassesOwn.never rfl (pi_list (pv 0)) (pg_name (i := 2) scLT.nd rfl (Or.inl rfl))
      (pss_one (ps_if (PW.pt (pw_and (pt_cmpR op_notN (pv 2) pe_non (nomark _)) (pw_and1 (pt_cmp (pc_dnotin hu (pv 2) (pv 1)) (by with_unfolding_all rfl))))) (pss_one ps_dead) pss_nil)))), ?_⟩
    refine ⟨_, rfl, l, rfl, ⟨_, SqL.of hl⟩, for_list (K := K) (a := l) (xs := fs.map oV) (fun i σ H2 => H2 = H ∧ ∃ v2, σ = [some (.ref l), some (.ref d), v2]) ⟨rfl, none, rfl⟩ (fun i σ H2 _ ⟨e, _⟩ => by rw [e]; exact SqL.of hl) ?_ ?_⟩
    · rintro i x σ H2 hx ⟨rfl, v2, rfl⟩
      rw [List.getElem?_map] at hx
      obtain ⟨y, hy, rfl⟩ := Option.map_eq_some_iff.mp hx
      cases y with
      | none => exact ⟨_, rfl, rfl, _, rfl, iteF (iteF ⟨rfl, _, rfl⟩)⟩
      | some n =>
        have hn : n ∈ keys ks := hin n (List.mem_of_getElem? hy)
        exact ⟨_, rfl, rfl, _, rfl, iteT ⟨_, rfl, _, rfl, d, _, rfl, dget_in hd hn, _, rfl, iteF ⟨rfl, _, rfl⟩⟩⟩
    · rintro σ H2 ⟨rfl, v2, rfl⟩
      exact k
/-- look_at_view -/
def spLook (K : PySem.W.Frag) : Sp := fun vs H Q _ => ∃ (v r d : Addr) (o : Obj) (ad : Int → Addr) (rs : List (Option Int)) (ks : Fs), vs = [.ref v] ∧ SqT K H v [.ref r, .ref d] ∧ Vw H r d o ad rs ks ∧ Rt rs ks ∧ Q .non H
theorem scLV : FnScope ["view", "fields", "t"] ["view"] (defScope sLook) := ⟨rfl, rfl, rfl, by decide +kernel, rfl, by decide +kernel, by decide +kernel⟩
theorem key_at {ad : Int → Addr} {ks : Fs} {i : Nat} {p : Key × V} (h : (kvl ad ks)[i]? = some p) : ∃ q ∈ ks, ks[i]? = some q ∧ p = (Sum.inl q.1, V.ref (ad q.1)) := by
  unfold kvl at h
  rw [List.getElem?_map] at h
  obtain ⟨q, hq, rfl⟩ := Option.map_eq_some_iff.mp h
  exact ⟨q, List.mem_of_getElem? hq, hq, rfl⟩
theorem ok_look {f fT : Addr} {fd fdT : FuncData} (F : Fun K "look_at_view" "look_at_view" sLook f fd) (GT : FnOk P w K mg base (CXE P w) 1 fT fdT ["told", "fields"] spLTold) (mT : mg "look_at_told" = some (.ref fT)) (kT : PySem.W.keepIn K (.ref fT) = true) (bT : Binds K fdT ["told", "fields"] []) :
    FnOk P w K mg base (CXE P w) 2 f fd ["view"] (spLook K) := by
  refine F.okE scLV (fun vs H Q E h => ?_) (fun cdv A outer s H vs Q E hr h => ?_)
  · obtain ⟨v, r, d, o, ad, rs, ks, rfl, _⟩ := h
    rfl
  · obtain ⟨v, r, d, o, ad, rs, ks, rfl, ht, hv, rt, k⟩ := h
    have hu := hu_of hr
    refine ⟨_, PSs.nox (pss_cons (ps_set (i := 1) scLV.nd rfl (Or.inl rfl) (pe_ix ix_tup (pv 0) pe_int (fun _ _ => rfl)))
      (pss_cons (ps_expr (xe_call GT hr rfl mT kT bT .nil passN (pa_cons (pe_ix ix_tup (pv 0) pe_int (fun _ _ => rfl)) (pa_cons (pv 1) pa_nil))))
      (pss_one (ps_for PassesOwn.never rfl (pi_dict (pv 1)) (pg_name (i := 2) scLV.nd rfl (Or.inl rfl))
        (pss_cons (ps_if (pt_cmpR op_lt (pv 2) pe_int (nomark _)) (pss_one ps_dead) pss_nil)
        (pss_one (ps_expr (xe_call GT hr rfl mT kT bT .nil passN (pa_cons (pe_dget hu (pv 1) (pv 2) (fun _ _ => rfl)) (pa_cons (pv 1) pa_nil)))))))))), ?_⟩
    refine ⟨_, rfl, v, _, 1, .ref d, rfl, rfl, ht, rfl, ?_⟩
    refine ⟨_, rfl, v, _, 0, .ref r, rfl, rfl, ht, rfl, _, rfl, r, d, o, ad, rs, ks, rfl, hv.hr, hv.hd, rt.ri, ?_⟩
    refine ⟨_, rfl, d, o, _, rfl, hv.hd, for_dict (d := d) (o := o) (kvs := kvl ad ks) (fun i σ H2 => H2 = H ∧ ∃ v2, σ = [some (.ref v), some (.ref d), v2]) ⟨rfl, none, rfl⟩ (fun i σ H2 _ ⟨e, _⟩ => by rw [e]; exact hv.hd) ?_ ?_⟩
    · rintro i p σ H2 hx ⟨rfl, v2, rfl⟩
      obtain ⟨q, hq, _, rfl⟩ := key_at hx
      have h0 := rt.pos q hq
      refine ⟨_, rfl, _, 0, rfl, rfl, _, rfl, ite2 (fun h => ?_) (fun _ => ?_)⟩
      · have h1 : q.1 < 0 := by simpa using h
        omega
      · exact ⟨_, rfl, _, rfl, d, _, rfl, dget_in hv.hd (List.mem_map_of_mem hq), _, rfl, ad q.1, d, o, ad, q.2, ks, rfl, hv.hl q hq, hv.hd, rt.fi q hq, rfl, _, rfl⟩
    · rintro σ H2 ⟨rfl, v2, rfl⟩
      exact k
def fsOf (ks : Fs) (t : Int) : List (Option Int) := match ks.find? (fun p => decide (p.1 = t)) with
  | some p => p.2
  | none => []
theorem fsOf_mem : ∀ {ks : Fs}, (keys ks).Nodup → ∀ {p : Int × List (Option Int)}, p ∈ ks → fsOf ks p.1 = p.2
  | [], _, _, h => nomatch h
  | q :: r, nd, p, h => by
    obtain ⟨n1, n2⟩ := List.nodup_cons.mp (show (q.1 :: keys r).Nodup from nd)
    unfold fsOf
    rcases List.mem_cons.mp h with e | h
    · subst e
      rw [List.find?_cons_of_pos (by simp)]
    · have ne : ¬ q.1 = p.1 := fun z => n1 (by rw [z]; exact List.mem_map_of_mem h)
      rw [List.find?_cons_of_neg (by simpa using ne)]
      exact fsOf_mem n2 h
theorem fs_at {H : Hp} {r d : Addr} {o : Obj} {ad : Int → Addr} {rs : List (Option Int)} {ks : Fs} (v : Vw H r d o ad rs ks) (rt : Rt rs ks) {t : Int} (ht : t ∈ keys ks) : H (ad t) = some (.lst ((fsOf ks t).map oV)) ∧ (fsOf ks t).length ≤ 6 ∧ ∀ n, some n ∈ fsOf ks t → n ∈ keys ks := by
  obtain ⟨p, hp, rfl⟩ := List.mem_map.mp ht
  rw [fsOf_mem rt.nd hp]
  exact ⟨v.hl p hp, rt.fl p hp, rt.fi p hp⟩
theorem sqT_same {H H' : Hp} {a : Addr} {xs : List V} (h : SqT K H a xs) (s : Same H H') : SqT K H' a xs := Or.imp (fun r => Or.elim r (fun e => .inl (s _ _ e)) fun ⟨o, e⟩ => .inr ⟨o, s _ _ e⟩) id h
/-- _law_copy -/
def spCopy (K : PySem.W.Frag) : Sp := fun vs H Q _ => ∃ (v r d : Addr) (o : Obj) (ad : Int → Addr) (rs : List (Option Int)) (ks : Fs), vs = [.ref v] ∧ SqT K H v [.ref r, .ref d] ∧ Vw H r d o ad rs ks ∧ Rt rs ks ∧
  ∀ (v' r' d' : Addr) (o' : Obj) (ad' : Int → Addr) (H' : Hp), Same H H' → H' v' = some (.tup [.ref r', .ref d']) → Vw H' r' d' o' ad' rs ks → Q (.ref v') H'
theorem scY : FnScope ["view", "fields", "thing"] ["view"] (defScope sCopy) := ⟨rfl, rfl, rfl, by decide +kernel, rfl, by decide +kernel, by decide +kernel⟩
theorem ok_copy {f : Addr} {fd : FuncData} (F : Fun K "_law_copy" "_law_copy" sCopy f fd) (zl : mg "list" = none) : FnOk P w K mg base (CXE P w) 1 f fd ["view"] (spCopy K) := by
  refine F.okE scY (fun vs H Q E h => ?_) (fun cdv A outer s H vs Q E hr h => ?_)
  · obtain ⟨v, r, d, o, ad, rs, ks, rfl, _⟩ := h
    rfl
  · obtain ⟨v, r, d, o, ad, rs, ks, rfl, ht, hv, rt, k⟩ := h
    have hu := hu_of hr
    refine ⟨_, PSs.nox (pss_cons (ps_set (i := 1) scY.nd rfl (Or.inl rfl) pe_dnewK)
      (pss_cons (ps_for PassesOwn.never rfl (pi_dict (pe_ix ix_tup (pv 0) pe_int (fun _ _ => rfl))) (pg_name (i := 2) scY.nd rfl (Or.inl rfl))
        (pss_one (ps_dput hu (pv 1) (pv 2) (pe_callTy call_list_of rfl zl PyProof.Rows.Boot.«list» (pa_cons (pe_dget hu (pe_ix ix_tup (pv 0) pe_int (fun _ _ => rfl)) (pv 2) (fun _ _ => rfl)) pa_nil)) rfl)))
      (pss_one (ps_ret (pe_frz (pe_tup (pa_cons (pe_callTy call_list_of rfl zl PyProof.Rows.Boot.«list» (pa_cons (pe_ix ix_tup (pv 0) pe_int (fun _ _ => rfl)) pa_nil)) (pa_cons (pv 1) pa_nil)))))))), ?_⟩
    refine fun p6 hp6 => ?_
    have np6 : ∀ {Hx : Hp} {kvs : List (Key × V)} {c : Addr} {xs : List V}, Hx p6 = some (.dK kvs) → Hx c = some (.lst xs) → c ≠ p6 := fun g1 g2 => ne_of g2 g1 (by intro z; cases z)
    have s6 : Same H (upd H p6 (.dK [])) := Same.upd hp6
    refine ⟨_, rfl, v, _, 1, .ref d, rfl, rfl, sqT_same ht s6, rfl, d, o, _, rfl, s6 _ _ hv.hd, for_dict (d := d) (o := o) (kvs := kvl ad ks) (fun i σ H2 => ∃ (v2 : Option V) (ad' : Int → Addr), σ = [some (.ref v), some (.ref p6), v2] ∧ Same H H2 ∧ H2 p6 = some (.dK (kvl ad' (ks.take i))) ∧ ∀ p ∈ ks.take i, H2 (ad' p.1) = some (.lst (p.2.map oV)))
      ⟨none, fun _ => 0, rfl, s6, upd_same, (fun p hp => nomatch hp)⟩ (fun i σ H2 _ ⟨_, _, _, s2, _⟩ => s2 _ _ hv.hd) ?_ ?_⟩
    · rintro i p σ H2 hx ⟨v2, ad', rfl, s2, g6, gl⟩
      obtain ⟨q, hq, hqi, rfl⟩ := key_at hx
      obtain ⟨hlt, eq⟩ := List.getElem?_eq_some_iff.mp hqi
      have tk : ks.take (i + 1) = ks.take i ++ [q] := by rw [List.take_succ_eq_append_getElem hlt, eq]
      have v2' := hv.same s2
      have hin : q.1 ∈ keys ks := List.mem_map_of_mem hq
      refine ⟨_, rfl, v, _, 1, .ref d, rfl, rfl, sqT_same ht s2, rfl, _, rfl, d, _, rfl, dget_in v2'.hd hin, ad q.1, _, rfl, .inl (SqL.of (v2'.hl q hq)), fun l hl => ?_⟩
      have nk : q.1 ∉ keys (ks.take i) := fun g => by
        have h1 : (keys (ks.take i) ++ [q.1]).Nodup := by
          have e9 : keys (ks.take (i + 1)) = keys (ks.take i) ++ [q.1] := by
            show (ks.take (i + 1)).map (·.1) = _
            rw [tk, List.map_append]; rfl
          rw [← e9]
          exact ((List.take_sublist _ _).map _).nodup rt.nd
        exact (List.nodup_append.mp h1).2.2 _ g _ (List.mem_singleton.mpr rfl) rfl
      have g63 := Same.upd (o := .lst (q.2.map oV)) hl _ _ g6
      have kl : (kvl ad' (ks.take i)).length < sizeLine := by
        unfold kvl
        have := rt.kl
        rw [List.length_map, List.length_take]
        exact Nat.lt_of_le_of_lt (show min i ks.length ≤ 11 by omega) (by decide)
      refine ⟨_, rfl, _, rfl, p6, _, rfl, DPut.k (k := Sum.inl q.1) g63 kl, ?_⟩
      rw [putK_new _ (by rw [val_kvl, if_neg nk])]
      have nl : l ≠ p6 := fun z => by rw [z, g6] at hl; cases hl
      have cg : kvl ad' (ks.take i) ++ [(Sum.inl q.1, V.ref l)] = kvl (fun k => if k = q.1 then l else ad' k) (ks.take (i + 1)) := by
        rw [tk]
        unfold kvl
        rw [List.map_append]
        congr 1
        · refine List.map_congr_left fun p hp => ?_
          have e9 : (if p.1 = q.1 then l else ad' p.1) = ad' p.1 := if_neg fun z => nk (by rw [← z]; exact List.mem_map_of_mem hp)
          show _ = (Sum.inl p.1, V.ref (if p.1 = q.1 then l else ad' p.1))
          rw [e9]
        · simp
      refine ⟨some (.int q.1), fun k => if k = q.1 then l else ad' k, rfl, fun c u g => ?_, ?_, ?_⟩
      · rw [upd_ne (ne_of_none g hp6)]
        exact Same.upd hl _ _ (s2 _ _ g)
      · rw [upd_same, cg]
      · intro p hp
        rw [tk] at hp
        rcases List.mem_append.mp hp with h | h
        · show upd (upd H2 l _) p6 _ (if p.1 = q.1 then l else ad' p.1) = _
          have g1 := gl p h
          rw [if_neg fun z => nk (by rw [← z]; exact List.mem_map_of_mem h), upd_ne (np6 g6 g1)]
          exact Same.upd hl _ _ g1
        · rw [List.mem_singleton.mp h]
          show upd (upd H2 l _) p6 _ (if q.1 = q.1 then l else _) = _
          rw [if_pos rfl, upd_ne nl, upd_same]
    · rintro σ H2 ⟨v2, ad', rfl, s2, g6, gl⟩
      have el : (kvl ad ks).length = ks.length := by unfold kvl; rw [List.length_map]
      rw [el, List.take_of_length_le (Nat.le_refl _)] at g6 gl
      have v2' := hv.same s2
      refine ⟨_, rfl, v, _, 0, .ref r, rfl, rfl, sqT_same ht s2, rfl, r, _, rfl, .inl (SqL.of v2'.hr), fun l hl => ⟨_, rfl, by show 2 ≤ sizeLine; decide, fun t htt => ?_⟩⟩
      have g64 := Same.upd (o := .lst (rs.map oV)) hl _ _ g6
      refine ⟨p6, kvl ad' ks, Same.upd htt _ _ g64, fun o' => ?_⟩
      have nv : t ≠ p6 := fun z => by rw [z, g64] at htt; cases htt
      have up : ∀ {c : Addr} {xs : List V}, upd H2 l (.lst (rs.map oV)) c = some (.lst xs) → upd (upd (upd H2 l (.lst (rs.map oV))) t (.tup [V.ref l, V.ref p6])) p6 (.frz o' (.dK (kvl ad' ks))) c = some (.lst xs) := fun g => by
        rw [upd_ne (np6 g64 g)]
        exact Same.upd htt _ _ g
      refine k t l p6 o' ad' _ (fun c u g => ?_) ?_ ⟨up upd_same, upd_same, fun p hp => up (Same.upd hl _ _ (gl p hp))⟩
      · rw [upd_ne (ne_of_none g hp6)]
        exact Same.upd htt _ _ (Same.upd hl _ _ (s2 _ _ g))
      · rw [upd_ne nv, upd_same]
def miss (ks : List Int) (ts : List Int) : List Int := ks.filter fun k => !decide (k ∈ ts)
theorem miss_less {ks ts cs : List Int} {c : Int} (hc : c ∈ cs) (hk : c ∈ ks) (hn : c ∉ ts) : (miss ks (ts ++ cs)).length + 1 ≤ (miss ks ts).length := by
  have e : miss ks (ts ++ cs) = (miss ks ts).filter fun k => !decide (k ∈ cs) := by
    unfold miss
    rw [List.filter_filter]
    refine List.filter_congr fun k _ => ?_
    by_cases h1 : k ∈ ts <;> by_cases h2 : k ∈ cs <;> simp [h1, h2]
  rw [e]
  exact List.length_filter_lt_length_iff_exists.mpr ⟨c, List.mem_filter.mpr ⟨hk, by simpa using hn⟩, by simpa using hc⟩
def right? : Option Expr → Option Expr
  | some (.BinOp _ _ b _) => some b
  | _ => none
theorem inV_i {t : Int} {zs : List Int} : inV (.int t) (zs.map V.int) = decide (t ∈ zs) := by
  rw [Bool.eq_iff_iff, decide_eq_true_eq]
  unfold inV
  rw [List.any_map, List.any_eq_true]
  constructor
  · rintro ⟨z, hz, e⟩
    have : z = t := by simpa [eqV] using e
    rw [← this]
    exact hz
  · intro h
    exact ⟨t, h, by simp [eqV]⟩
theorem mem_roots {rs : List (Option Int)} {n : Int} : n ∈ rs.filterMap id ↔ some n ∈ rs := by simp
/-- a statement, then what is known behind it -/
def tCut (J : St → Hp → Prop) (t u : TS) : TS := fun D σ H => t { D with nx := J } σ H ∧ ∀ σ' H', J σ' H' → u D σ' H'
theorem pss_cut {X : Cx} {st : Stmt} {rest : List Stmt} {t u : TS} (J : St → Hp → Prop) (h1 : PS X st t) (h2 : PSs X rest u) : PSs X (st :: rest) (tCut J t u) := by
  intro pins s σ H D I h
  refine wpAny_execs_cons (thn (h1 pins s σ H { D with nx := J } I h.1) fun f s1 q => ?_)
  cases f with
  | next =>
    obtain ⟨σ', H', I', q⟩ := q
    exact h2 pins s1 σ' H' D I' (h.2 σ' H' q)
  | ret v => exact q
  | brk => exact q
  | cont => exact q
theorem small2 {a b : List Int} {n : Nat} (h : a.length + b.length ≤ n) (hn : n ≤ sizeLine) : (a.map V.int).length + (b.map V.int).length ≤ sizeLine := by
  rw [List.length_map, List.length_map]
  omega
theorem oV_flat (x : Option Int) : flatV (oV x) = true := by cases x <;> rfl
theorem deep_list {H : Hp} {a b : Addr} {fs : List (Option Int)} (ha : H a = some (.lst (fs.map oV))) (hb : H b = some (.lst (fs.map oV))) : Deep K H 1 (.ref a) (.ref b) :=
  .lst (SqL.of ha) (SqL.of hb) rfl fun j h1 h2 => .flat (by rw [List.getElem_map]; exact oV_flat _)
theorem kvl_keys (ad : Int → Addr) (ks : Fs) : (kvl ad ks).map (·.1) = (keys ks).map Sum.inl := by
  unfold kvl keys
  rw [List.map_map, List.map_map]
  rfl
theorem kvl_int {ad : Int → Addr} {ks : Fs} : ∀ p ∈ kvl ad ks, ∃ i, p.1 = Sum.inl i := fun p hp => by
  obtain ⟨q, _, rfl⟩ := List.mem_map.mp hp
  exact ⟨_, rfl⟩
theorem kvl_eq {H : Hp} {r d r' d' : Addr} {o o' : Obj} {ad ad' : Int → Addr} {rs : List (Option Int)} {ks : Fs} (v : Vw H r d o ad rs ks) (v' : Vw H r' d' o' ad' rs ks) : ∀ p ∈ kvl ad' ks, ∃ y, valV (kvl ad ks) p.1 = some y ∧ Deep K H 1 p.2 y := fun p hp => by
  obtain ⟨q, hq, rfl⟩ := List.mem_map.mp hp
  exact ⟨.ref (ad q.1), by rw [val_kvl, if_pos (List.mem_map_of_mem hq)], deep_list (v'.hl q hq) (v.hl q hq)⟩
end
end K20
end
section
set_option Elab.async false
set_option linter.all false
set_option maxRecDepth 100000
set_option maxHeartbeats 4000000
set_option exponentiation.threshold 4000
namespace K20
open PySem L2 LX
section
variable {P : Program} {w : World} {K : PySem.W.Frag} {mg : Str → Option Value} {base : Heap}
/-! ### what is reached -/
inductive Rch (ks : Fs) (ns : List Int) : Int → Prop
  | base {n : Int} : n ∈ ns → Rch ks ns n
  | step {t n : Int} : Rch ks ns t → some n ∈ fsOf ks t → Rch ks ns n
def Shut (ks : Fs) (ts : List Int) : Prop := ∀ t ∈ ts, ∀ n, some n ∈ fsOf ks t → n ∈ ts
theorem rch_all {ks : Fs} {ns ts : List Int} (h0 : ∀ n ∈ ns, n ∈ ts) (hs : Shut ks ts) : ∀ {k : Int}, Rch ks ns k → k ∈ ts := fun {k} h => by
  induction h with
  | base h => exact h0 _ h
  | step _ hn ih => exact hs _ ih _ hn
theorem rch_keys {rs : List (Option Int)} {ks : Fs} (rt : Rt rs ks) {ns : List Int} (h : ∀ n ∈ ns, n ∈ keys ks) : ∀ {k : Int}, Rch ks ns k → k ∈ keys ks := fun {k} r => by
  induction r with
  | base h' => exact h _ h'
  | step _ hn ih =>
    obtain ⟨p, hp, ep⟩ := List.mem_map.mp ih
    rw [← ep, fsOf_mem rt.nd hp] at hn
    exact rt.fi p hp _ hn
theorem rch_mono {ks : Fs} {ns ms : List Int} (h : ∀ n ∈ ns, n ∈ ms) : ∀ {k : Int}, Rch ks ns k → Rch ks ms k := fun {k} r => by
  induction r with
  | base h' => exact .base (h _ h')
  | step _ hn ih => exact .step ih hn
/-- _law_grown -/
def spGrown : Sp := fun vs H Q _ => ∃ (r d th : Addr) (o : Obj) (ad : Int → Addr) (rs : List (Option Int)) (ks : Fs) (ns : List Int), vs = [.ref d, .ref th] ∧ Vw H r d o ad rs ks ∧ Rt rs ks ∧ H th = some (.lst (ns.map V.int)) ∧ ns.length ≤ 20 ∧ (∀ n ∈ ns, n ∈ keys ks) ∧
  ∀ (l : Addr) (ms : List Int) (H' : Hp), Same H H' → H l = none → H' l = some (.lst (ms.map V.int)) → ms.length ≤ 11 → ms.Pairwise (· < ·) → (∀ k, k ∈ ms ↔ Rch ks ns k) → Q (.ref l) H'
abbrev NG : List Str := ["fields", "things", "told", "turn", "thing"]
theorem scG : FnScope NG ["fields", "things"] (defScope sGrown) := ⟨rfl, rfl, rfl, by decide +kernel, rfl, by decide +kernel, by decide +kernel⟩
abbrev scpG : Scope := scopeOf (right? (cmp? (inFor (inFor ((defBody sGrown).getD 1 (.Pass ⟨0, 0, 0, 0⟩)) 0) 0)))
theorem cG : CompP (defScope sGrown) scpG "other" ["told"] NG [2] := by decide +kernel
/-- what a turn of the closure keeps -/
structure Gr (ks : Fs) (ns ts : List Int) : Prop where
  inn : ∀ t ∈ ts, t ∈ keys ks
  len : ts.length + 6 * (miss (keys ks) ts).length ≤ 86
  sub : ∀ n ∈ ns, n ∈ ts
  rch : ∀ t ∈ ts, Rch ks ns t
theorem ok_grown {f : Addr} {fd : FuncData} (F : Fun K "_law_grown" "_law_grown" sGrown f fd) (zl : mg "list" = none) (zr : mg "range" = none) (zn : mg "len" = none) (zs : mg "sorted" = none) (ze : mg "set" = none) : FnOk P w K mg base (CXE P w) 1 f fd ["fields", "things"] spGrown := by
  refine F.okE scG (fun vs H Q E h => ?_) (fun cdv A outer s H vs Q E hr h => ?_)
  · obtain ⟨r, d, th, o, ad, rs, ks, ns, rfl, _⟩ := h
    rfl
  · obtain ⟨r, d, th, o, ad, rs, ks, ns, rfl, hv, rt, hth, hz, hn, k⟩ := h
    have hu := hu_of hr
    have co : CompOk (cxE P w K mg base NG "_law_grown" (defScope sGrown) f cdv A outer s H E).nox scpG [("told", s.heap.objs.size + 1)] "other" [2] ["other", "told"] :=
      comp_ok rfl rfl rfl cG rfl rfl (by intro q hq; rw [List.mem_singleton.mp hq]; rfl)
    refine ⟨_, PSs.nox (pss_cons (ps_set (i := 2) scG.nd rfl (Or.inr rfl) (pe_callTy call_list_of rfl zl PyProof.Rows.Boot.«list» (pa_cons (pv 1) pa_nil)))
      (pss_cons (ps_for PassesOwn.never rfl (pi_range1 rfl zr (pa_cons (pe_op op_add (pe_callB call_lenR rfl zn PyProof.Rows.Boot.«len» (pa_cons (pv 0) pa_nil)) pe_int) pa_nil)) (pg_name (i := 3) scG.nd rfl (Or.inl rfl))
        (pss_one (ps_for PassesOwn.never rfl (pi_list (pe_callTy call_list_of rfl zl PyProof.Rows.Boot.«list» (pa_cons (pv 2) pa_nil))) (pg_name (i := 4) scG.nd rfl (Or.inl rfl))
          (pss_one (ps_set (i := 2) scG.nd rfl (Or.inr rfl) (pe_op op_cat (pv 2) (pe_compU co rfl (pi_list (pe_dget hu (pv 0) (pv 4) (fun _ _ => rfl)))
            (fun C fp s₀ H₀ => PW.pt (pw_and (pt_cmpR op_notN (pv 0) pe_non (nomark _)) (pw_and1 (pt_cmpR (r := rIn K true) op_notIn_seq (pv 0) (pv 1) (by with_unfolding_all rfl))))) (fun C fp s₀ H₀ => pv 0))))))))
      (pss_one (ps_ret (pe_callB (call_sortedS rfl) rfl zs PyProof.Rows.Boot.«sorted» (pa_cons (pe_callTy (call_set rfl) rfl ze PyProof.Rows.Boot.«set» (pa_cons (pv 2) pa_nil)) pa_nil)))))), ?_⟩
    refine ⟨_, rfl, th, _, rfl, .inl (SqL.of hth), fun p0 hp0 => ?_⟩
    have s0 : Same H (upd H p0 (.lst (ns.map V.int))) := Same.upd hp0
    have kl := rt.kl
    have el : (kvl ad ks).length = ks.length := by unfold kvl; rw [List.length_map]
    have kk : (keys ks).length = ks.length := List.length_map _
    have ml : ∀ ts : List Int, (miss (keys ks) ts).length ≤ ks.length := fun ts => Nat.le_trans (List.length_filter_le _ _) (by omega)
    have G0 : Gr ks ns ns := ⟨hn, by have := ml ns; omega, fun n h => h, fun t h => .base h⟩
    have en : ((((kvl ad ks).length : Int) + 1).toNat) = ks.length + 1 := by rw [el]; omega
    refine ⟨_, rfl, d, _, rfl, rd_vw (hv.same s0), _, 1, rfl, rfl, _, rfl, by rw [el]; omega, by rw [el]; omega, ?_⟩
    refine for_range (lo := 0) (fun i σ H2 => ∃ (p : Addr) (ts : List Int) (v3 v4 : Option V), σ = [some (.ref d), some (.ref th), some (.ref p), v3, v4] ∧ Same H H2 ∧ H2 p = some (.lst (ts.map V.int)) ∧ Gr ks ns ts ∧ (Shut ks ts ∨ (miss (keys ks) ts).length + i ≤ ks.length))
      ⟨p0, ns, none, none, rfl, s0, upd_same, G0, .inr (by have := ml ns; omega)⟩ ?_ ?_
    · rintro i σ H2 hi ⟨p, ts, v3, v4, rfl, s2, z2, gr, hm⟩
      refine ⟨_, rfl, p, _, rfl, .inl (SqL.of z2), fun q hq => ?_⟩
      have s3 : Same H (upd H2 q (.lst (ts.map V.int))) := s2.trans (Same.upd hq)
      refine ⟨q, rfl, ⟨_, SqL.of upd_same⟩, for_list (K := K) (a := q) (xs := ts.map V.int) (fun j σ H4 => ∃ (p : Addr) (us : List Int) (v4 : Option V), σ = [some (.ref d), some (.ref th), some (.ref p), some (.int (0 + (i : Int))), v4] ∧ Same H H4 ∧ H4 p = some (.lst (us.map V.int)) ∧ Gr ks ns us ∧ H4 q = some (.lst (ts.map V.int)) ∧
          (∀ t ∈ ts, t ∈ us) ∧ (∀ t ∈ ts.take j, ∀ n, some n ∈ fsOf ks t → n ∈ us) ∧ (us = ts ∨ (¬ Shut ks ts ∧ (miss (keys ks) us).length + 1 ≤ (miss (keys ks) ts).length)))
        ⟨p, ts, _, rfl, s3, Same.upd hq _ _ z2, gr, upd_same, (fun t h => h), (fun t h => nomatch h), .inl rfl⟩ (fun j σ H4 _ ⟨_, _, _, _, _, _, _, e, _⟩ => SqL.of e) ?_ ?_⟩
      · rintro j x σ H4 hx ⟨p, us, v4, rfl, s4, z4, gu, q4, hsub, hdone, hway⟩
        have hlt : j < ts.length := by have := (List.getElem?_eq_some_iff.mp hx).1; rwa [List.length_map] at this
        have tk : ts.take (j + 1) = ts.take j ++ [ts[j]] := List.take_succ_eq_append_getElem hlt
        have hxe : x = .int ts[j] := by
          rw [List.getElem?_map, List.getElem?_eq_getElem hlt] at hx
          exact (Option.some.inj hx).symm
        subst hxe
        obtain ⟨t, et⟩ : ∃ t, ts[j] = t := ⟨_, rfl⟩
        have htm : t ∈ ts := by rw [← et]; exact List.getElem_mem hlt
        rw [et] at tk ⊢
        have hin : t ∈ keys ks := gr.inn t htm
        have v4' := hv.same s4
        obtain ⟨f1, f2, f3⟩ := fs_at v4' rt hin
        refine ⟨_, rfl, _, rfl, _, rfl, d, _, rfl, dget_in v4'.hd hin, ad t, rfl, ⟨_, SqL.of f1⟩, fun D hD => ?_⟩
        refine compT_list (K := K) (a := ad t) (xs := (fsOf ks t).map oV) (fun m ys H5 => ∃ cs : List Int, ys = cs.map V.int ∧ cs.length ≤ m ∧ (∀ c ∈ cs, some c ∈ fsOf ks t ∧ c ∉ us) ∧ (∀ n, some n ∈ (fsOf ks t).take m → n ∈ us ∨ n ∈ cs) ∧ Same H4 H5 ∧ H5 D = some (.lst ys)) ⟨[], rfl, Nat.le_refl _, (fun c hc => nomatch hc), (fun c hc => nomatch hc), Same.upd hD, upd_same⟩ (fun m ys H5 _ ⟨cs, e, l, _, _, _, z⟩ => ⟨z, by rw [e, List.length_map]; exact l⟩)
          (fun m ys H5 _ ⟨_, _, _, _, _, s5, _⟩ => SqL.of (s5 _ _ f1)) (Nat.le_trans (by rw [List.length_map]; exact f2) (by decide)) (fun m x ys H5 hx ⟨cs, e, l, hc, hall, s5, z⟩ => ?_) (fun ys H5 ⟨cs, e, l, hc, hall, s5, z⟩ => ?_)
        · have hlm : m < (fsOf ks t).length := by have := (List.getElem?_eq_some_iff.mp hx).1; rwa [List.length_map] at this
          have tm : (fsOf ks t).take (m + 1) = (fsOf ks t).take m ++ [(fsOf ks t)[m]] := List.take_succ_eq_append_getElem hlm
          have hxe : x = oV (fsOf ks t)[m] := by
            rw [List.getElem?_map, List.getElem?_eq_getElem hlm] at hx
            exact (Option.some.inj hx).symm
          subst hxe
          have hmm : (fsOf ks t)[m] ∈ fsOf ks t := List.getElem_mem hlm
          rw [tm]
          cases hy : (fsOf ks t)[m] with
          | none =>
            refine ⟨_, rfl, rfl, _, rfl, iteF (iteF ⟨cs, e, by omega, hc, fun n hn' => ?_, s5, z⟩)⟩
            rcases List.mem_append.mp hn' with g | g
            · exact hall n g
            · exact nomatch (List.mem_singleton.mp g)
          | some n =>
            rw [hy] at hmm
            refine ⟨_, rfl, rfl, _, rfl, iteT ⟨_, rfl, _, rfl, p, us.map V.int, rfl, .inl (SqL.of (s5 _ _ z4)), rfl, flat_ints _, _, rfl, ite2 (fun h => ?_) (fun h => ?_)⟩⟩
            · have h9 : (!inV (.int n) (us.map V.int)) = true := h
              rw [inV_i] at h9
              have nu : n ∉ us := by simpa using h9
              refine ⟨_, rfl, z, cs ++ [n], by rw [e, List.map_append]; rfl, by rw [List.length_append, List.length_singleton]; omega, fun c hcc => ?_, fun n' hn' => ?_, fun c u g => by rw [upd_ne (ne_of_none g hD)]; exact s5 c u g, upd_same⟩
              · rcases List.mem_append.mp hcc with g | g
                · exact hc c g
                · rw [List.mem_singleton.mp g]; exact ⟨hmm, nu⟩
              · rcases List.mem_append.mp hn' with g | g
                · exact (hall n' g).imp id fun h => List.mem_append_left _ h
                · injection (List.mem_singleton.mp g) with g
                  exact .inr (List.mem_append_right _ (by rw [g]; exact List.mem_singleton.mpr rfl))
            · have h9 : ¬ (!inV (.int n) (us.map V.int)) = true := h
              rw [inV_i] at h9
              have nu : n ∈ us := by simpa using h9
              refine ⟨cs, e, by omega, hc, fun n' hn' => ?_, s5, z⟩
              rcases List.mem_append.mp hn' with g | g
              · exact hall n' g
              · injection (List.mem_singleton.mp g) with g
                exact .inl (by rw [g]; exact nu)
        · rw [List.length_map] at l
          rw [List.length_map, List.take_of_length_le (Nat.le_refl _)] at hall
          subst e
          have lc : cs.length ≤ 6 := Nat.le_trans l f2
          have gl := gu.len
          refine ⟨p, D, us.map V.int, cs.map V.int, rfl, rfl, s5 _ _ z4, z, Nat.le_trans (show (us.map V.int).length + (cs.map V.int).length ≤ 92 by rw [List.length_map, List.length_map]; omega) (by decide), fun p' hp' => ?_⟩
          have Gn : Gr ks ns (us ++ cs) := by
            refine ⟨fun t' h => ?_, ?_, fun n h => List.mem_append_left _ (gu.sub n h), fun t' h => ?_⟩
            · rcases List.mem_append.mp h with g | g
              · exact gu.inn t' g
              · exact f3 t' (hc t' g).1
            · cases cs with
              | nil => rw [List.append_nil]; exact gl
              | cons c r =>
                have := miss_less (ks := keys ks) (ts := us) (cs := c :: r) (List.mem_cons_self ..) (f3 c (hc c (List.mem_cons_self ..)).1) (hc c (List.mem_cons_self ..)).2
                rw [List.length_append]
                omega
            · rcases List.mem_append.mp h with g | g
              · exact gu.rch t' g
              · exact .step (gu.rch t (hsub t htm)) (hc t' g).1
          refine ⟨p', us ++ cs, _, rfl, (s4.trans s5).trans (Same.upd hp'), by rw [upd_same, List.map_append], Gn, Same.upd hp' _ _ (s5 _ _ q4), fun t' h => List.mem_append_left _ (hsub t' h), fun t' h n hn' => ?_, ?_⟩
          · rw [tk] at h
            rcases List.mem_append.mp h with g | g
            · exact List.mem_append_left _ (hdone t' g n hn')
            · rw [List.mem_singleton.mp g] at hn'
              exact (hall n hn').elim (List.mem_append_left _) (List.mem_append_right _)
          · cases cs with
            | nil => rw [List.append_nil]; exact hway
            | cons c r =>
              have hc1 := hc c (List.mem_cons_self ..)
              have ml2 := miss_less (ks := keys ks) (ts := us) (cs := c :: r) (List.mem_cons_self ..) (f3 c hc1.1) hc1.2
              refine .inr ⟨?_, ?_⟩
              · rcases hway with e | ⟨h, _⟩
                · intro hs
                  rw [e] at hc1
                  exact hc1.2 (hs t htm c hc1.1)
                · exact h
              · rcases hway with e | ⟨_, h⟩
                · rw [← e]; exact ml2
                · omega
      · rintro σ H4 ⟨p, us, v4, rfl, s4, z4, gu, _, hsub, hdone, hway⟩
        rw [List.length_map, List.take_of_length_le (Nat.le_refl _)] at hdone
        refine ⟨p, us, _, v4, rfl, s4, z4, gu, ?_⟩
        rcases hway with e | ⟨h1, h2⟩
        · subst e
          exact .inl hdone
        · have := hm.resolve_left h1
          exact .inr (by omega)
    · rintro σ H2 ⟨p, ts, v3, v4, rfl, s2, z2, gr, hm⟩
      have sh : Shut ks ts := hm.resolve_right (by omega)
      have gl := gr.len
      have dl : (dd ts).length < 64 := Nat.lt_of_le_of_lt (dd_le (ms := keys ks) gr.inn) (by omega)
      refine ⟨_, rfl, p, ts, rfl, SqL.of z2, by omega, fun q1 hq1 => ⟨q1, ts, rfl, upd_same, dl, fun q2 ms hq2 pm mm => ?_⟩⟩
      have s3 := s2.trans (Same.upd (o := SetO P w q1 ts) hq1)
      refine k q2 ms _ (s3.trans (Same.upd hq2)) (s3.free hq2) upd_same ?_ pm fun k => ⟨fun h => gr.rch k ((mm k).mp h), fun h => (mm k).mpr (rch_all gr.sub sh h)⟩
      have nd : ms.Nodup := pm.imp fun h => Int.ne_of_lt h
      have := nodup_len nd fun k hk => gr.inn k ((mm k).mp hk)
      omega
end
end K20
end
section
set_option Elab.async false
set_option linter.all false
set_option maxRecDepth 100000
set_option maxHeartbeats 4000000
set_option exponentiation.threshold 4000
namespace K20
open PySem L2 LX
section
variable {P : Program} {w : World} {K : PySem.W.Frag} {mg : Str → Option Value} {base : Heap}
/-! ### last_steps -/
structure Mt (H : Hp) (st : Addr) (kvs : List (Key × V)) (ms : List Int) : Prop where
  hs : H st = some (.dK kvs)
  hk : kvs.map (·.1) = ms.map Sum.inl
  nd : ms.Nodup
theorem val_some {kvs : List (Key × V)} {ms : List Int} (h : kvs.map (·.1) = ms.map Sum.inl) (n : Int) : (valV kvs (Sum.inl n)).isSome = decide (n ∈ ms) := by
  rw [← valV_any, Bool.eq_iff_iff, List.any_eq_true, decide_eq_true_eq]
  constructor
  · rintro ⟨kv, h1, h2⟩
    have h3 : kv.1 = Sum.inl n := by simpa using h2
    have h4 : (Sum.inl n : Key) ∈ ms.map Sum.inl := by rw [← h, ← h3]; exact List.mem_map_of_mem h1
    obtain ⟨m, hm, e⟩ := List.mem_map.mp h4
    injection e with e
    rw [← e]
    exact hm
  · intro hn
    have h4 : (Sum.inl n : Key) ∈ kvs.map (·.1) := by rw [h]; exact List.mem_map_of_mem hn
    obtain ⟨kv, h1, h2⟩ := List.mem_map.mp h4
    exact ⟨kv, h1, by simpa using h2⟩
theorem Mt.put {H : Hp} {st : Addr} {kvs : List (Key × V)} {ms : List Int} (m : Mt H st kvs ms) {n : Int} (hn : n ∉ ms) (v : V) (hl : ms.length ≤ 1000) : DPut H st (.int n) v (upd H st (.dK (kvs ++ [(Sum.inl n, v)]))) ∧ Mt (upd H st (.dK (kvs ++ [(Sum.inl n, v)]))) st (kvs ++ [(Sum.inl n, v)]) (ms ++ [n]) := by
  have e : valV kvs (Sum.inl n) = none := by
    have := val_some m.hk n
    rw [decide_eq_false hn] at this
    simpa using this
  have lk : kvs.length = ms.length := by
    have := congrArg List.length m.hk
    simpa using this
  refine ⟨?_, upd_same, ?_, ?_⟩
  · rw [← putK_new v e]
    exact DPut.k (k := Sum.inl n) m.hs (Nat.lt_of_le_of_lt (show kvs.length ≤ 1000 by omega) (by decide))
  · rw [List.map_append, m.hk, List.map_append]
    rfl
  · rw [List.nodup_append]
    refine ⟨m.nd, by simp, fun a ha b hb => ?_⟩
    rw [List.mem_singleton.mp hb]
    exact fun z => hn (by rw [← z]; exact ha)
theorem Mt.same {H H' : Hp} {st : Addr} {kvs : List (Key × V)} {ms : List Int} (m : Mt H st kvs ms) (s : Same H H') : Mt H' st kvs ms := ⟨s _ _ m.hs, m.hk, m.nd⟩
def spSteps (K : PySem.W.Frag) : Sp := fun vs H Q _ => ∃ (v r d : Addr) (o : Obj) (ad : Int → Addr) (rs : List (Option Int)) (ks : Fs), vs = [.ref v] ∧ SqT K H v [.ref r, .ref d] ∧ Vw H r d o ad rs ks ∧ Rt rs ks ∧
  ∀ (st : Addr) (kvs : List (Key × V)) (ms : List Int) (H' : Hp), Same H H' → H st = none → Mt H' st kvs ms → ms.length ≤ 11 → (∀ k, k ∈ ms ↔ Rch ks (rs.filterMap id) k) → Q (.ref st) H'
abbrev NS : List Str := ["view", "steps", "place", "thing", "met", "done"]
theorem scT : FnScope NS ["view"] (defScope sSteps) := ⟨rfl, rfl, rfl, by decide +kernel, rfl, by decide +kernel, by decide +kernel⟩
/-- what the while keeps -/
def WS (H : Hp) (v st mt : Addr) (ks : Fs) (ns : List Int) (m : Nat) (σ : St) (H4 : Hp) : Prop := ∃ (dn : Nat) (v2 v3 : Option V) (kvs : List (Key × V)) (ms : List Int), m = 12 - dn ∧ σ = [some (.ref v), some (.ref st), v2, v3, some (.ref mt), some (.int (dn : Int))] ∧ Same H H4 ∧ Mt H4 st kvs ms ∧ H4 mt = some (.lst (ms.map V.int)) ∧
  (∀ t ∈ ms, Rch ks ns t) ∧ (∀ n ∈ ns, n ∈ ms) ∧ (∀ t ∈ ms.take dn, ∀ n, some n ∈ fsOf ks t → n ∈ ms) ∧ dn ≤ ms.length
theorem ok_steps {f : Addr} {fd : FuncData} (F : Fun K "last_steps" "last_steps" sSteps f fd) (zl : mg "list" = none) (ze : mg "enumerate" = none) (zn : mg "len" = none) : FnOk P w K mg base (CXE P w) 1 f fd ["view"] (spSteps K) := by
  refine F.okE scT (fun vs H Q E h => ?_) (fun cdv A outer s H vs Q E hr h => ?_)
  · obtain ⟨v, r, d, o, ad, rs, ks, rfl, _⟩ := h
    rfl
  · obtain ⟨v, r, d, o, ad, rs, ks, rfl, ht, hv, rt, k⟩ := h
    have hu := hu_of hr
    refine ⟨_, PSs.nox (pss_cons (ps_set (i := 1) scT.nd rfl (Or.inl rfl) pe_dnewK)
      (pss_cons (ps_for PassesOwn.never rfl (pi_enum rfl ze (pa_cons (pe_ix ix_tup (pv 0) pe_int (fun _ _ => rfl)) pa_nil)) (pg_tup rfl (pgs_cons (pg_name (i := 2) scT.nd rfl (Or.inl rfl)) (pgs_cons (pg_name (i := 3) scT.nd rfl (Or.inl rfl)) pgs_nil)))
        (pss_one (ps_if (PW.pt (pw_and (pt_cmpR op_notN (pv 3) pe_non (nomark _)) (pw_and1 (pt_cmp (pc_dnotin hu (pv 3) (pv 1)) (by with_unfolding_all rfl))))) (pss_one (ps_dput hu (pv 1) (pv 3) (pe_tup (pa_cons pe_non (pa_cons (pv 2) pa_nil))) rfl)) pss_nil)))
      (pss_cons (ps_set (i := 4) scT.nd rfl (Or.inl rfl) (pe_callTy (call_listR rfl) rfl zl PyProof.Rows.Boot.«list» (pa_cons (pv 1) pa_nil)))
      (pss_cons (ps_set (i := 5) scT.nd rfl (Or.inl rfl) pe_int)
      (pss_cons (ps_while PassesOwn.never (pt_cmpR op_lt (pv 5) (pe_callB call_len_seq rfl zn PyProof.Rows.Boot.«len» (pa_cons (pv 4) pa_nil)) (nomark _))
        (pss_cons (ps_for PassesOwn.never rfl (pi_enum rfl ze (pa_cons (pe_dget hu (pe_ix ix_tup (pv 0) pe_int (fun _ _ => rfl)) (pe_ix ix_list (pv 4) (pv 5) (fun _ _ => rfl)) (fun _ _ => rfl)) pa_nil)) (pg_tup rfl (pgs_cons (pg_name (i := 2) scT.nd rfl (Or.inl rfl)) (pgs_cons (pg_name (i := 3) scT.nd rfl (Or.inl rfl)) pgs_nil)))
          (pss_one (ps_if (PW.pt (pw_and (pt_cmpR op_notN (pv 3) pe_non (nomark _)) (pw_and1 (pt_cmp (pc_dnotin hu (pv 3) (pv 1)) (by with_unfolding_all rfl)))))
            (pss_cons (ps_dput hu (pv 1) (pv 3) (pe_tup (pa_cons (pe_ix ix_list (pv 4) (pv 5) (fun _ _ => rfl)) (pa_cons (pv 2) pa_nil))) rfl)
            (pss_one (ps_expr (pe_bm PySem.F.plainAttrs_list PySem.F.slot_list_append PySem.F.type_list_append mt_append (pv 4) (pa_cons (pv 3) pa_nil))))) pss_nil)))
        (pss_one (ps_aug (i := 5) scT.nd rfl (Or.inl rfl) pe_int ip_add))))
      (pss_one (ps_ret (pv 1)))))))), ?_⟩
    refine fun st hst => ?_
    have s0 : Same H (upd H st (.dK [])) := Same.upd hst
    have hr0 := s0 _ _ hv.hr
    have mem_len : ∀ {ms : List Int}, ms.Nodup → (∀ m ∈ ms, m ∈ keys ks) → ms.length ≤ 11 := fun nd h => by
      have := nodup_len nd h
      have := rt.kl
      have kk : (keys ks).length = ks.length := List.length_map _
      omega
    refine ⟨_, rfl, v, _, 0, .ref r, rfl, rfl, sqT_same ht s0, rfl, r, rfl, ⟨_, SqL.of hr0⟩, for_enum (K := K) (a := r) (xs := rs.map oV) (fun i σ H2 => ∃ (v2 v3 : Option V) (kvs : List (Key × V)) (ms : List Int), σ = [some (.ref v), some (.ref st), v2, v3, none, none] ∧ Same H H2 ∧ Mt H2 st kvs ms ∧ (∀ m ∈ ms, some m ∈ rs) ∧ ∀ n, some n ∈ rs.take i → n ∈ ms)
      ⟨none, none, [], [], rfl, s0, ⟨upd_same, rfl, List.nodup_nil⟩, (fun m h => nomatch h), (fun n h => nomatch h)⟩ (fun i σ H2 _ ⟨_, _, _, _, _, s2, _⟩ => SqL.of (s2 _ _ hv.hr)) ?_ ?_⟩
    · rintro i x σ H2 t hx ⟨v2, v3, kvs, ms, rfl, s2, M, hsub, hall⟩ htt
      have hlt : i < rs.length := by have := (List.getElem?_eq_some_iff.mp hx).1; rwa [List.length_map] at this
      have tk : rs.take (i + 1) = rs.take i ++ [rs[i]] := List.take_succ_eq_append_getElem hlt
      have hxe : x = oV rs[i] := by
        rw [List.getElem?_map, List.getElem?_eq_getElem hlt] at hx
        exact (Option.some.inj hx).symm
      subst hxe
      have s3 : Same H2 (upd H2 t (.tup [.int (i : Int), oV rs[i]])) := Same.upd htt
      have M3 := M.same s3
      have ml := mem_len M.nd fun m h => rt.ri m (hsub m h)
      refine ⟨t, _, rfl, SqT.of upd_same, rfl, _, _, rfl, _, _, rfl, rfl, ?_⟩
      rw [tk]
      have hmm : rs[i] ∈ rs := List.getElem_mem hlt
      cases hc : rs[i] with
      | none =>
        rw [hc] at s3 M3
        refine ⟨_, rfl, rfl, _, rfl, iteF (iteF ⟨_, _, kvs, ms, rfl, s2.trans s3, M3, hsub, fun n hn => ?_⟩)⟩
        rcases List.mem_append.mp hn with g | g
        · exact hall n g
        · exact nomatch (List.mem_singleton.mp g)
      | some n =>
        rw [hc] at s3 M3 hmm
        refine ⟨_, rfl, rfl, _, rfl, iteT ⟨_, rfl, _, rfl, st, _, rfl, DGet.k (k := Sum.inl n) M3.hs, _, rfl, ?_⟩⟩
        rw [val_some M3.hk]
        by_cases hin : n ∈ ms
        · rw [decide_eq_true hin]
          refine iteF ⟨_, _, kvs, ms, rfl, s2.trans s3, M3, hsub, fun n' hn => ?_⟩
          rcases List.mem_append.mp hn with g | g
          · exact hall n' g
          · injection (List.mem_singleton.mp g) with g
            rw [g]; exact hin
        · rw [decide_eq_false hin]
          refine iteT ⟨_, rfl, by show 2 ≤ sizeLine; decide, fun u hu' => ?_⟩
          have s4 := Same.upd (o := .tup [V.non, V.int (i : Int)]) hu'
          obtain ⟨pd, M5⟩ := (M3.same s4).put hin (.ref u) (by omega)
          refine ⟨_, rfl, _, rfl, st, _, rfl, pd, _, _, _, ms ++ [n], rfl, fun c u' g => ?_, M5, fun m h => ?_, fun n' hn => ?_⟩
          · rw [upd_ne (ne_of_none g hst)]
            exact s4 _ _ (s3 _ _ (s2 c u' g))
          · rcases List.mem_append.mp h with g | g
            · exact hsub m g
            · rw [List.mem_singleton.mp g]; exact hmm
          · rcases List.mem_append.mp hn with g | g
            · exact List.mem_append_left _ (hall n' g)
            · injection (List.mem_singleton.mp g) with g
              exact List.mem_append_right _ (by rw [g]; exact List.mem_singleton.mpr rfl)
    · rintro σ H2 ⟨v2, v3, kvs, ms, rfl, s2, M, hsub, hall⟩
      rw [List.length_map, List.take_of_length_le (Nat.le_refl _)] at hall
      refine ⟨_, rfl, st, kvs, ms, rfl, .inl M.hs, M.hk, fun mt hmt => ?_⟩
      have s3 := Same.upd (o := .lst (ms.map V.int)) hmt
      have hmt0 : H mt = none := s2.free hmt
      have rin : ∀ n ∈ rs.filterMap id, n ∈ keys ks := fun n hn => rt.ri n (mem_roots.mp hn)
      refine ⟨WS H v st mt ks (rs.filterMap id), ⟨12, 0, v2, v3, kvs, ms, rfl, rfl, s2.trans s3, M.same s3, upd_same, fun t h => .base (mem_roots.mpr (hsub t h)), fun n h => hall n (mem_roots.mp h), (fun t h => nomatch h), Nat.zero_le _⟩, ?_⟩
      clear M hsub hall s3 s2
      rintro m σ H4 ⟨dn, v2, v3, kvs, ms, rfl, rfl, s4, M, zm, hr4, hsub, hdone, hdl⟩
      have min : ∀ t ∈ ms, t ∈ keys ks := fun t h => rch_keys rt rin (hr4 t h)
      have ml := mem_len M.nd min
      refine ⟨_, rfl, _, rfl, mt, _, rfl, .inl (SqL.of zm), _, _, rfl, rfl, _, rfl, ite2 (fun h => ?_) (fun h => ?_)⟩
      · have hlt : dn < ms.length := by
          have h1 : (dn : Int) < ((ms.map V.int).length : Int) := by simpa using h
          rw [List.length_map] at h1
          omega
        refine ⟨fun σ' H' => ∃ m', m' < 12 - dn ∧ WS H v st mt ks (rs.filterMap id) m' σ' H', fun _ _ h => h, ?_⟩
        have tk : ms.take (dn + 1) = ms.take dn ++ [ms[dn]] := List.take_succ_eq_append_getElem hlt
        obtain ⟨t, et⟩ : ∃ t, ms[dn] = t := ⟨_, rfl⟩
        have htm : t ∈ ms := by rw [← et]; exact List.getElem_mem hlt
        have hin : t ∈ keys ks := min t htm
        have hat : ∀ ex : List Int, atI ((ms ++ ex).map V.int) (dn : Int) = some (.int t) := fun ex => atI_nat (by rw [List.getElem?_map, List.getElem?_append_left hlt, List.getElem?_eq_getElem hlt, et]; rfl)
        have v4 := hv.same s4
        obtain ⟨f1, f2, f3⟩ := fs_at v4 rt hin
        refine ⟨_, rfl, v, _, 1, .ref d, rfl, rfl, sqT_same ht s4, rfl, _, rfl, _, rfl, mt, _, _, .int t, rfl, rfl, SqL.of zm, (by have := hat []; rwa [List.append_nil] at this), d, _, rfl, dget_in v4.hd hin, ad t, rfl, ⟨_, SqL.of f1⟩,
          for_enum (K := K) (a := ad t) (xs := (fsOf ks t).map oV) (fun j σ H6 => ∃ (v2 v3 : Option V) (kvs : List (Key × V)) (ex : List Int), σ = [some (.ref v), some (.ref st), v2, v3, some (.ref mt), some (.int (dn : Int))] ∧ Same H H6 ∧ Mt H6 st kvs (ms ++ ex) ∧ H6 mt = some (.lst ((ms ++ ex).map V.int)) ∧ (∀ c ∈ ex, some c ∈ fsOf ks t) ∧ ∀ n, some n ∈ (fsOf ks t).take j → n ∈ ms ++ ex)
          ⟨v2, v3, kvs, [], rfl, s4, by rw [List.append_nil]; exact M, by rw [List.append_nil]; exact zm, (fun c h => nomatch h), (fun n h => nomatch h)⟩ (fun j σ H6 _ ⟨_, _, _, _, _, s6, _⟩ => SqL.of (fs_at (hv.same s6) rt hin).1) ?_ ?_⟩
        · rintro j x σ H6 u hx ⟨v2, v3, kvs, ex, rfl, s6, M6, zm6, hex, hall⟩ hut
          have hlj : j < (fsOf ks t).length := by have := (List.getElem?_eq_some_iff.mp hx).1; rwa [List.length_map] at this
          have tj : (fsOf ks t).take (j + 1) = (fsOf ks t).take j ++ [(fsOf ks t)[j]] := List.take_succ_eq_append_getElem hlj
          have hxe : x = oV (fsOf ks t)[j] := by
            rw [List.getElem?_map, List.getElem?_eq_getElem hlj] at hx
            exact (Option.some.inj hx).symm
          subst hxe
          have hmm : (fsOf ks t)[j] ∈ fsOf ks t := List.getElem_mem hlj
          have in6 : ∀ c ∈ ms ++ ex, c ∈ keys ks := fun c h => (List.mem_append.mp h).elim (min c) fun g => f3 c (hex c g)
          have ml6 := mem_len M6.nd in6
          refine ⟨u, _, rfl, SqT.of upd_same, rfl, _, _, rfl, _, _, rfl, rfl, ?_⟩
          rw [tj]
          cases hc : (fsOf ks t)[j] with
          | none =>
            have s7 := Same.upd (o := .tup [.int (j : Int), oV none]) hut
            refine ⟨_, rfl, rfl, _, rfl, iteF (iteF ⟨_, _, kvs, ex, rfl, s6.trans s7, M6.same s7, s7 _ _ zm6, hex, fun n hn => ?_⟩)⟩
            rcases List.mem_append.mp hn with g | g
            · exact hall n g
            · exact nomatch (List.mem_singleton.mp g)
          | some n =>
            rw [hc] at hmm
            have s7 := Same.upd (o := .tup [.int (j : Int), oV (some n)]) hut
            have M7 := M6.same s7
            refine ⟨_, rfl, rfl, _, rfl, iteT ⟨_, rfl, _, rfl, st, _, rfl, DGet.k (k := Sum.inl n) M7.hs, _, rfl, ?_⟩⟩
            rw [val_some M7.hk]
            by_cases hn6 : n ∈ ms ++ ex
            · rw [decide_eq_true hn6]
              refine iteF ⟨_, _, kvs, ex, rfl, s6.trans s7, M7, s7 _ _ zm6, hex, fun n' hn => ?_⟩
              rcases List.mem_append.mp hn with g | g
              · exact hall n' g
              · injection (List.mem_singleton.mp g) with g
                rw [g]; exact hn6
            · rw [decide_eq_false hn6]
              refine iteT ⟨_, rfl, _, rfl, mt, _, _, .int t, rfl, rfl, SqL.of (s7 _ _ zm6), hat ex, _, rfl, by show 2 ≤ sizeLine; decide, fun u2 hu2 => ?_⟩
              have s8 := Same.upd (o := .tup [V.int t, V.int (j : Int)]) hu2
              obtain ⟨pd, M9⟩ := (M7.same s8).put hn6 (.ref u2) (by omega)
              have zm8 := s8 _ _ (s7 _ _ zm6)
              have nms : mt ≠ st := ne_of zm8 (M7.same s8).hs (by intro z; cases z)
              have zm9 := (upd_ne (o := .dK (kvs ++ [(Sum.inl n, V.ref u2)])) nms).trans zm8
              refine ⟨_, rfl, _, rfl, st, _, rfl, pd, ?_⟩
              refine ⟨_, rfl, .inl ⟨rfl, _, SqL.of zm9⟩, _, rfl, mt, _, _, rfl, rfl, zm9, Nat.lt_of_le_of_lt (show ((ms ++ ex).map V.int).length ≤ 11 by rw [List.length_map]; exact ml6) (by decide), ?_⟩
              refine ⟨_, _, kvs ++ [(Sum.inl n, V.ref u2)], ex ++ [n], rfl, fun c u' g => ?_, ?_, ?_, fun c h => ?_, fun n' hn => ?_⟩
              · rw [upd_ne (ne_of_none g hmt0), upd_ne (ne_of_none g hst)]
                exact s8 _ _ (s7 _ _ (s6 c u' g))
              · rw [← List.append_assoc]
                exact ⟨(upd_ne (Ne.symm nms)).trans M9.hs, M9.hk, M9.nd⟩
              · rw [upd_same, ← List.append_assoc, List.map_append (l₁ := ms ++ ex)]
                rfl
              · rcases List.mem_append.mp h with g | g
                · exact hex c g
                · rw [List.mem_singleton.mp g]; exact hmm
              · rw [← List.append_assoc]
                rcases List.mem_append.mp hn with g | g
                · exact List.mem_append_left _ (hall n' g)
                · injection (List.mem_singleton.mp g) with g
                  exact List.mem_append_right _ (by rw [g]; exact List.mem_singleton.mpr rfl)
        · rintro σ H6 ⟨v2, v3, kvs, ex, rfl, s6, M6, zm6, hex, hall⟩
          rw [List.length_map, List.take_of_length_le (Nat.le_refl _)] at hall
          have fin : ∃ m', m' < 12 - dn ∧ WS H v st mt ks (rs.filterMap id) m' [some (.ref v), some (.ref st), v2, v3, some (.ref mt), some (.int ((dn : Int) + 1))] H6 := by
            refine ⟨12 - (dn + 1), by omega, dn + 1, v2, v3, kvs, ms ++ ex, rfl, rfl, s6, M6, zm6, fun c h => ?_, fun n h => List.mem_append_left _ (hsub n h), fun c h n hn => ?_, by rw [List.length_append]; omega⟩
            · rcases List.mem_append.mp h with g | g
              · exact hr4 c g
              · exact .step (hr4 t htm) (hex c g)
            · rw [List.take_append_of_le_length (by omega), tk, et] at h
              rcases List.mem_append.mp h with g | g
              · exact List.mem_append_left _ (hdone c g n hn)
              · rw [List.mem_singleton.mp g] at hn
                exact hall n hn
          exact ⟨_, rfl, _, 1, rfl, rfl, fin⟩
      · have hge : ms.length ≤ dn := by
          have h1 : ¬ (dn : Int) < ((ms.map V.int).length : Int) := by simpa using h
          rw [List.length_map] at h1
          omega
        rw [List.take_of_length_le hge] at hdone
        exact ⟨_, rfl, k st kvs ms H4 s4 hst M ml fun c => ⟨fun h => hr4 c h, fun h => rch_all hsub hdone h⟩⟩
end
end K20
end
section
set_option Elab.async false
set_option linter.all false
set_option maxRecDepth 100000
set_option maxHeartbeats 4000000
set_option exponentiation.threshold 4000
namespace K20
open PySem L2 LX
section
variable {P : Program} {w : World} {K : PySem.W.Frag} {mg : Str → Option Value} {base : Heap}
theorem rise_of {ms ns : List Int} (p : ns.Perm ms) (hn : ms.Nodup) (h : ns.Pairwise (· ≤ ·)) : ns.Pairwise (· < ·) :=
  (h.and (p.nodup_iff.mpr hn)).imp fun ⟨h1, h2⟩ => Int.lt_iff_le_and_ne.mpr ⟨h1, h2⟩
/-- look_at_thing -/
def spThing (K : PySem.W.Frag) : Sp := fun vs H Q _ => ∃ (v r d : Addr) (t : Int) (o : Obj) (ad : Int → Addr) (ks : Fs), vs = [.ref v, .int t] ∧ SqT K H v [.ref r, .ref d] ∧ H d = some (.frz o (.dK (kvl ad ks))) ∧ t ∈ keys ks ∧ Q .non H
theorem scTh : FnScope ["view", "thing"] ["view", "thing"] (defScope sLThing) := ⟨rfl, rfl, rfl, by decide +kernel, rfl, by decide +kernel, by decide +kernel⟩
theorem ok_thing {f : Addr} {fd : FuncData} (F : Fun K "look_at_thing" "look_at_thing" sLThing f fd) : FnOk P w K mg base (CXE P w) 1 f fd ["view", "thing"] (spThing K) := by
  refine F.okE scTh (fun vs H Q E h => ?_) (fun cdv A outer s H vs Q E hr h => ?_)
  · obtain ⟨v, r, d, t, o, ad, ks, rfl, _⟩ := h
    rfl
  · obtain ⟨v, r, d, t, o, ad, ks, rfl, ht, hd, hin, k⟩ := h
    have hu := hu_of hr
    refine ⟨_, PSs.nox (pss_one (ps_if (pt_cmp (pc_dnotin hu (pv 1) (pe_ix ix_tup (pv 0) pe_int (fun _ _ => rfl))) (by with_unfolding_all rfl)) (pss_one ps_dead) pss_nil)), ?_⟩
    exact ⟨_, rfl, _, rfl, v, _, 1, .ref d, rfl, rfl, ht, rfl, d, _, rfl, dget_in hd hin, _, rfl, iteF k⟩
/-- _law_whole -/
def spWhole : Sp := fun vs H Q _ => ∃ n : Int, vs = [.int n] ∧ Q (.bl true) H
theorem ok_whole {f : Addr} {fd : FuncData} (F : Fun K "_law_whole" "_law_whole" sWhole f fd) (zi : mg "isinstance" = none) (z1 : mg "int" = none) (z2 : mg "bool" = none) : FnOk P w K mg base (CXE P w) 1 f fd ["found"] spWhole := by
  refine F.okE (N := ["found"]) ⟨rfl, rfl, rfl, by decide +kernel, rfl, by decide +kernel, by decide +kernel⟩ (fun vs H Q E h => ?_) (fun cdv A outer s H vs Q E hr h => ?_)
  · obtain ⟨n, rfl, _⟩ := h
    rfl
  · obtain ⟨n, rfl, k⟩ := h
    refine ⟨_, pss_one (ps_ret (pe_and (pe_callB call_isiT rfl zi PyProof.Rows.Boot.«isinstance» (pa_cons (pv 0) (pa_cons (pe_ty rfl z1 PyProof.Rows.Boot.«int») pa_nil)))
      (pe_one (pe_not (pe_callB call_isiT rfl zi PyProof.Rows.Boot.«isinstance» (pa_cons (pv 0) (pa_cons (pe_ty rfl z2 PyProof.Rows.Boot.«bool») pa_nil))))))), ?_⟩
    refine isi_readT (x := .int n) (t := .type "int") (b := true) rfl (.of (.int n)) rfl ⟨_, rfl, iteT ?_⟩
    exact isi_readT (x := .int n) (t := .type "int") (b := false) rfl (.of (.int n)) (by kernel_rfl) ⟨_, rfl, k⟩
/-- _law_list -/
def spList : Sp := fun vs H Q _ => ∃ (a b : Addr) (ns : List Int), vs = [.ref a, .ref b] ∧ H a = some (.lst (ns.map V.int)) ∧ H b = some (.lst (ns.map V.int)) ∧ ns.length ≤ 1000 ∧ Q (.bl true) H
theorem scLi : FnScope ["found", "due", "k"] ["found", "due"] (defScope sList) := ⟨rfl, rfl, rfl, by decide +kernel, rfl, by decide +kernel, by decide +kernel⟩
theorem ok_list {f fW : Addr} {fd fdW : FuncData} (F : Fun K "_law_list" "_law_list" sList f fd) (zi : mg "isinstance" = none) (zl : mg "list" = none) (zn : mg "len" = none) (zr : mg "range" = none) (GW : FnOk P w K mg base (CXE P w) 1 fW fdW ["found"] spWhole) (mW : mg "_law_whole" = some (.ref fW)) (kW : PySem.W.keepIn K (.ref fW) = true) (bW : Binds K fdW ["found"] []) :
    FnOk P w K mg base (CXE P w) 2 f fd ["found", "due"] spList := by
  refine F.okE scLi (fun vs H Q E h => ?_) (fun cdv A outer s H vs Q E hr h => ?_)
  · obtain ⟨a, b, ns, rfl, _⟩ := h
    rfl
  · obtain ⟨a, b, ns, rfl, ha, hb, hz, k⟩ := h
    refine ⟨_, PSs.nox (pss_cons (ps_if (PW.pt (pw_or (pt_not (pt_val (pe_callB call_isiT rfl zi PyProof.Rows.Boot.«isinstance» (pa_cons (pv 0) (pa_cons (pe_ty rfl zl PyProof.Rows.Boot.«list») pa_nil)))))
        (pw_or1 (pt_cmpR op_ne (pe_callB call_len_seq rfl zn PyProof.Rows.Boot.«len» (pa_cons (pv 0) pa_nil)) (pe_callB call_len_seq rfl zn PyProof.Rows.Boot.«len» (pa_cons (pv 1) pa_nil)) (nomark _))))) (pss_one ps_dead) pss_nil)
      (pss_cons (ps_for PassesOwn.never rfl (pi_range1 rfl zr (pa_cons (pe_callB call_len_seq rfl zn PyProof.Rows.Boot.«len» (pa_cons (pv 1) pa_nil)) pa_nil)) (pg_name (i := 2) scLi.nd rfl (Or.inl rfl))
        (pss_one (ps_if (PW.pt (pw_or (pt_not (pt_val (xe_call GW hr rfl mW kW bW .nil passN (pa_cons (pe_ix ix_list (pv 0) (pv 2) (fun _ _ => rfl)) pa_nil)))) (pw_or1 (pt_cmpR op_ne (pe_ix ix_list (pv 0) (pv 2) (fun _ _ => rfl)) (pe_ix ix_list (pv 1) (pv 2) (fun _ _ => rfl)) (nomark _))))) (pss_one ps_dead) pss_nil)))
      (pss_one (ps_ret pe_bl)))), ?_⟩
    refine ⟨_, rfl, .ref a, .ty "list", .type "list", true, rfl, .of (.lst ha), ⟨_, rfl⟩, rfl, _, rfl, iteF ⟨_, rfl, a, _, rfl, .inl (SqL.of ha), _, rfl, b, _, rfl, .inl (SqL.of hb), rfl, _, rfl, ite2 (fun h => absurd h (by simp)) (fun _ => ?_)⟩⟩
    refine ⟨_, rfl, b, _, rfl, .inl (SqL.of hb), _, rfl, by omega, by rw [List.length_map]; omega, for_range (lo := 0) (fun i σ H2 => H2 = H ∧ ∃ v2, σ = [some (.ref a), some (.ref b), v2]) ⟨rfl, none, rfl⟩ ?_ ?_⟩
    · rintro i σ H2 hi ⟨rfl, v2, rfl⟩
      have hlt : i < ns.length := by rw [List.length_map] at hi; omega
      have hat : atI (ns.map V.int) (0 + (i : Int)) = some (.int ns[i]) := by
        rw [Int.zero_add]
        exact atI_nat (by rw [List.getElem?_map, List.getElem?_eq_getElem hlt]; rfl)
      exact ⟨_, rfl, _, rfl, a, _, _, .int ns[i], rfl, rfl, SqL.of ha, hat, ns[i], rfl, _, rfl, iteF ⟨_, rfl, _, rfl, a, _, _, .int ns[i], rfl, rfl, SqL.of ha, hat, _, rfl, _, rfl, b, _, _, .int ns[i], rfl, rfl, SqL.of hb, hat, rfl, _, rfl, ite2 (fun h => absurd h (by simp)) (fun _ => ⟨rfl, _, rfl⟩)⟩⟩
    · rintro σ H2 ⟨rfl, v2, rfl⟩
      exact k
/-- _law_copy: what is copied can still be changed -/
def spCopyU (K : PySem.W.Frag) : Sp := fun vs H Q _ => ∃ (v r d : Addr) (o : Obj) (ad : Int → Addr) (rs : List (Option Int)) (ks : Fs), vs = [.ref v] ∧ SqT K H v [.ref r, .ref d] ∧ Vw H r d o ad rs ks ∧ Rt rs ks ∧
  ∀ (v' r' d' : Addr) (ad' : Int → Addr) (H' : Hp), Same H H' → H' v' = some (.tup [.ref r', .ref d']) → H d' = none → H' d' = some (.dK (kvl ad' ks)) → (∀ p ∈ ks, H' (ad' p.1) = some (.lst (p.2.map oV))) → Q (.ref v') H'
theorem ok_copyU {f : Addr} {fd : FuncData} (F : Fun K "_law_copy" "_law_copy" sCopy f fd) (zl : mg "list" = none) : FnOk P w K mg base (CXE P w) 1 f fd ["view"] (spCopyU K) := by
  refine F.okE scY (fun vs H Q E h => ?_) (fun cdv A outer s H vs Q E hr h => ?_)
  · obtain ⟨v, r, d, o, ad, rs, ks, rfl, _⟩ := h
    rfl
  · obtain ⟨v, r, d, o, ad, rs, ks, rfl, ht, hv, rt, k⟩ := h
    have hu := hu_of hr
    refine ⟨_, PSs.nox (pss_cons (ps_set (i := 1) scY.nd rfl (Or.inl rfl) pe_dnewK)
      (pss_cons (ps_for PassesOwn.never rfl (pi_dict (pe_ix ix_tup (pv 0) pe_int (fun _ _ => rfl))) (pg_name (i := 2) scY.nd rfl (Or.inl rfl))
        (pss_one (ps_dput hu (pv 1) (pv 2) (pe_callTy call_list_of rfl zl PyProof.Rows.Boot.«list» (pa_cons (pe_dget hu (pe_ix ix_tup (pv 0) pe_int (fun _ _ => rfl)) (pv 2) (fun _ _ => rfl)) pa_nil)) rfl)))
      (pss_one (ps_ret (pe_tup (pa_cons (pe_callTy call_list_of rfl zl PyProof.Rows.Boot.«list» (pa_cons (pe_ix ix_tup (pv 0) pe_int (fun _ _ => rfl)) pa_nil)) (pa_cons (pv 1) pa_nil))))))), ?_⟩
    refine fun p6 hp6 => ?_
    have np6 : ∀ {Hx : Hp} {kvs : List (Key × V)} {c : Addr} {xs : List V}, Hx p6 = some (.dK kvs) → Hx c = some (.lst xs) → c ≠ p6 := fun g1 g2 => ne_of g2 g1 (by intro z; cases z)
    have s6 : Same H (upd H p6 (.dK [])) := Same.upd hp6
    refine ⟨_, rfl, v, _, 1, .ref d, rfl, rfl, sqT_same ht s6, rfl, d, o, _, rfl, s6 _ _ hv.hd, for_dict (d := d) (o := o) (kvs := kvl ad ks) (fun i σ H2 => ∃ (v2 : Option V) (ad' : Int → Addr), σ = [some (.ref v), some (.ref p6), v2] ∧ Same H H2 ∧ H2 p6 = some (.dK (kvl ad' (ks.take i))) ∧ ∀ p ∈ ks.take i, H2 (ad' p.1) = some (.lst (p.2.map oV)))
      ⟨none, fun _ => 0, rfl, s6, upd_same, (fun p hp => nomatch hp)⟩ (fun i σ H2 _ ⟨_, _, _, s2, _⟩ => s2 _ _ hv.hd) ?_ ?_⟩
    · rintro i p σ H2 hx ⟨v2, ad', rfl, s2, g6, gl⟩
      obtain ⟨q, hq, hqi, rfl⟩ := key_at hx
      obtain ⟨hlt, eq⟩ := List.getElem?_eq_some_iff.mp hqi
      have tk : ks.take (i + 1) = ks.take i ++ [q] := by rw [List.take_succ_eq_append_getElem hlt, eq]
      have v2' := hv.same s2
      have hin : q.1 ∈ keys ks := List.mem_map_of_mem hq
      refine ⟨_, rfl, v, _, 1, .ref d, rfl, rfl, sqT_same ht s2, rfl, _, rfl, d, _, rfl, dget_in v2'.hd hin, ad q.1, _, rfl, .inl (SqL.of (v2'.hl q hq)), fun l hl => ?_⟩
      have nk : q.1 ∉ keys (ks.take i) := fun g => by
        have h1 : (keys (ks.take i) ++ [q.1]).Nodup := by
          have e9 : keys (ks.take (i + 1)) = keys (ks.take i) ++ [q.1] := by
            show (ks.take (i + 1)).map (·.1) = _
            rw [tk, List.map_append]; rfl
          rw [← e9]
          exact ((List.take_sublist _ _).map _).nodup rt.nd
        exact (List.nodup_append.mp h1).2.2 _ g _ (List.mem_singleton.mpr rfl) rfl
      have g63 := Same.upd (o := .lst (q.2.map oV)) hl _ _ g6
      have kl : (kvl ad' (ks.take i)).length < sizeLine := by
        unfold kvl
        have := rt.kl
        rw [List.length_map, List.length_take]
        exact Nat.lt_of_le_of_lt (show min i ks.length ≤ 11 by omega) (by decide)
      refine ⟨_, rfl, _, rfl, p6, _, rfl, DPut.k (k := Sum.inl q.1) g63 kl, ?_⟩
      rw [putK_new _ (by rw [val_kvl, if_neg nk])]
      have nl : l ≠ p6 := fun z => by rw [z, g6] at hl; cases hl
      have cg : kvl ad' (ks.take i) ++ [(Sum.inl q.1, V.ref l)] = kvl (fun k => if k = q.1 then l else ad' k) (ks.take (i + 1)) := by
        rw [tk]
        unfold kvl
        rw [List.map_append]
        congr 1
        · refine List.map_congr_left fun p hp => ?_
          have e9 : (if p.1 = q.1 then l else ad' p.1) = ad' p.1 := if_neg fun z => nk (by rw [← z]; exact List.mem_map_of_mem hp)
          show _ = (Sum.inl p.1, V.ref (if p.1 = q.1 then l else ad' p.1))
          rw [e9]
        · simp
      refine ⟨some (.int q.1), fun k => if k = q.1 then l else ad' k, rfl, fun c u g => ?_, ?_, ?_⟩
      · rw [upd_ne (ne_of_none g hp6)]
        exact Same.upd hl _ _ (s2 _ _ g)
      · rw [upd_same, cg]
      · intro p hp
        rw [tk] at hp
        rcases List.mem_append.mp hp with h | h
        · show upd (upd H2 l _) p6 _ (if p.1 = q.1 then l else ad' p.1) = _
          have g1 := gl p h
          rw [if_neg fun z => nk (by rw [← z]; exact List.mem_map_of_mem h), upd_ne (np6 g6 g1)]
          exact Same.upd hl _ _ g1
        · rw [List.mem_singleton.mp h]
          show upd (upd H2 l _) p6 _ (if q.1 = q.1 then l else _) = _
          rw [if_pos rfl, upd_ne nl, upd_same]
    · rintro σ H2 ⟨v2, ad', rfl, s2, g6, gl⟩
      have el : (kvl ad ks).length = ks.length := by unfold kvl; rw [List.length_map]
      rw [el, List.take_of_length_le (Nat.le_refl _)] at g6 gl
      have v2' := hv.same s2
      refine ⟨_, rfl, v, _, 0, .ref r, rfl, rfl, sqT_same ht s2, rfl, r, _, rfl, .inl (SqL.of v2'.hr), fun l hl => ⟨_, rfl, by show 2 ≤ sizeLine; decide, fun t htt => ?_⟩⟩
      have g64 := Same.upd (o := .lst (rs.map oV)) hl _ _ g6
      refine k t l p6 ad' _ (fun c u g => ?_) upd_same hp6 (Same.upd htt _ _ g64) (fun p hp => Same.upd htt _ _ (Same.upd hl _ _ (gl p hp)))
      exact Same.upd htt _ _ (Same.upd hl _ _ (s2 _ _ g))

/-! ### a thing's fields emptied -/
def cutK (ks : Fs) (x : Int) (g : List (Option Int)) : Fs := ks.map fun p => if p.1 = x then (p.1, g) else p
theorem cut_key (x : Int) (g : List (Option Int)) (p : Int × List (Option Int)) : (if p.1 = x then (p.1, g) else p).1 = p.1 := by split <;> rfl
theorem keys_cut (ks : Fs) (x : Int) (g : List (Option Int)) : keys (cutK ks x g) = keys ks := by
  unfold keys cutK
  rw [List.map_map]
  exact List.map_congr_left fun p _ => cut_key x g p
theorem fsOf_cut {ks : Fs} (nd : (keys ks).Nodup) {x : Int} {g : List (Option Int)} {t : Int} (ht : t ∈ keys ks) : fsOf (cutK ks x g) t = if t = x then g else fsOf ks t := by
  obtain ⟨p, hp, rfl⟩ := List.mem_map.mp ht
  have h1 : (if p.1 = x then (p.1, g) else p) ∈ cutK ks x g := List.mem_map.mpr ⟨p, hp, rfl⟩
  have h2 := fsOf_mem (by rw [keys_cut]; exact nd) h1
  rw [cut_key] at h2
  rw [h2, fsOf_mem nd hp]
  split <;> rfl
theorem rt_cut {rs : List (Option Int)} {ks : Fs} (rt : Rt rs ks) {x : Int} {g : List (Option Int)} (hg : ∀ n, some n ∉ g) (hl : g.length ≤ 6) : Rt rs (cutK ks x g) := by
  have mm : ∀ p ∈ cutK ks x g, ∃ q ∈ ks, p = if q.1 = x then (q.1, g) else q := fun p hp => by
    obtain ⟨q, hq, e⟩ := List.mem_map.mp hp
    exact ⟨q, hq, e.symm⟩
  refine ⟨by show (keys (cutK ks x g)).Nodup; rw [keys_cut]; exact rt.nd, fun p hp => ?_, by unfold cutK; rw [List.length_map]; exact rt.kl, rt.rl, fun p hp => ?_, fun n hn => by show n ∈ keys (cutK ks x g); rw [keys_cut]; exact rt.ri n hn, fun p hp n hn => ?_, fun p hp => ?_⟩
  · obtain ⟨q, hq, rfl⟩ := mm p hp
    rw [cut_key]
    exact rt.pos q hq
  · obtain ⟨q, hq, rfl⟩ := mm p hp
    split
    · exact hl
    · exact rt.fl q hq
  · show n ∈ keys (cutK ks x g)
    rw [keys_cut]
    obtain ⟨q, hq, rfl⟩ := mm p hp
    by_cases e : q.1 = x
    · rw [if_pos e] at hn
      exact absurd hn (hg n)
    · rw [if_neg e] at hn
      exact rt.fi q hq n hn
  · obtain ⟨q, hq, rfl⟩ := mm p hp
    rw [cut_key]
    exact rt.top q hq
theorem put_cut {ad : Int → Addr} {ks : Fs} {x : Int} (hx : x ∈ keys ks) (g : List (Option Int)) (e : Addr) : putK (kvl ad ks) (Sum.inl x) (V.ref e) = kvl (fun k => if k = x then e else ad k) (cutK ks x g) := by
  have h1 : ((kvl ad ks).any fun kv => decide (kv.1 = Sum.inl x)) = true := by
    rw [valV_any, val_kvl, if_pos hx]
    rfl
  unfold putK
  rw [if_pos h1]
  unfold kvl cutK
  rw [List.map_map, List.map_map]
  refine List.map_congr_left fun p _ => ?_
  show (if (Sum.inl p.1 : Key) = Sum.inl x then (Sum.inl p.1, V.ref e) else (Sum.inl p.1, V.ref (ad p.1))) = (Sum.inl (if p.1 = x then (p.1, g) else p).1, V.ref (if (if p.1 = x then (p.1, g) else p).1 = x then e else ad (if p.1 = x then (p.1, g) else p).1))
  rw [cut_key]
  by_cases h : p.1 = x
  · rw [if_pos (by rw [h]), if_pos h]
  · rw [if_neg (fun z => h (by injection z)), if_neg h]
/-- what is reached without x's fields -/
inductive RchX (ks : Fs) (x : Int) (ns : List Int) : Int → Prop
  | base {n : Int} : n ∈ ns → RchX ks x ns n
  | step {t n : Int} : RchX ks x ns t → t ≠ x → some n ∈ fsOf ks t → RchX ks x ns n
theorem rchX_rch {ks : Fs} {x : Int} {ns : List Int} : ∀ {k : Int}, RchX ks x ns k → Rch ks ns k := fun {k} h => by
  induction h with
  | base h => exact .base h
  | step _ _ hn ih => exact .step ih hn
theorem rch_cut {rs : List (Option Int)} {ks : Fs} (rt : Rt rs ks) {x : Int} {g : List (Option Int)} (hg : ∀ n, some n ∉ g) {ns : List Int} (hn : ∀ n ∈ ns, n ∈ keys ks) (k : Int) : Rch (cutK ks x g) ns k ↔ RchX ks x ns k := by
  constructor
  · intro h
    induction h with
    | base h => exact .base h
    | @step t n _ hm ih =>
      have hk := rch_keys rt hn (rchX_rch ih)
      rw [fsOf_cut rt.nd hk] at hm
      by_cases e : t = x
      · rw [if_pos e] at hm
        exact absurd hm (hg n)
      · rw [if_neg e] at hm
        exact .step ih e hm
  · intro h
    induction h with
    | base h => exact .base h
    | @step t n hx ne hm ih =>
      have hk := rch_keys rt hn (rchX_rch hx)
      refine .step ih ?_
      rw [fsOf_cut rt.nd hk, if_neg ne]
      exact hm
theorem rch_or {ks : Fs} {x : Int} {ns : List Int} : ∀ {k : Int}, Rch ks ns k → RchX ks x ns k ∨ RchX ks x ns x := fun {k} h => by
  induction h with
  | base h => exact .inl (.base h)
  | @step t n _ hm ih =>
    rcases ih with ih | ih
    · by_cases e : t = x
      · exact .inr (by rw [← e]; rw [← e] at ih; exact ih)
      · exact .inl (.step ih e hm)
    · exact .inr ih
/-- only_by -/
def spOnly (K : PySem.W.Frag) : Sp := fun vs H Q _ => ∃ (v r d : Addr) (x : Int) (o : Obj) (ad : Int → Addr) (rs : List (Option Int)) (ks : Fs), vs = [.ref v, .int x] ∧ SqT K H v [.ref r, .ref d] ∧ Vw H r d o ad rs ks ∧ Rt rs ks ∧ x ∈ keys ks ∧
  ∀ (l : Addr) (ms : List Int) (H' : Hp), Same H H' → H l = none → H' l = some (.lst (ms.map V.int)) → ms.length ≤ 11 → ms.Pairwise (· < ·) → (∀ k, k ∈ ms ↔ Rch ks (rs.filterMap id) k ∧ ¬ RchX ks x (rs.filterMap id) k) → Q (.ref l) H'
abbrev NO : List Str := ["view", "thing", "bare", "without"]
theorem scO : FnScope NO ["view", "thing"] (defScope sOnly) := ⟨rfl, rfl, rfl, by decide +kernel, rfl, by decide +kernel, by decide +kernel⟩
def arg0? : Option Expr → Option Expr
  | some (.Call _ (a :: _) _ _) => some a
  | _ => none
abbrev scpO : Scope := scopeOf (arg0? (ret? ((defBody sOnly).getD 5 (.Pass ⟨0, 0, 0, 0⟩))))
theorem cO : CompP (defScope sOnly) scpO "t" ["without"] NO [3] := by decide +kernel
theorem ok_only {f fL fS fT : Addr} {fd fdL fdS fdT : FuncData} (F : Fun K "only_by" "only_by" sOnly f fd) (zs : mg "sorted" = none) (zd : mg "dict" = none) (GL : FnOk P w K mg base (CXE P w) 2 fL fdL ["view"] (spLook K)) (mL : mg "look_at_view" = some (.ref fL)) (kL : PySem.W.keepIn K (.ref fL) = true) (bL : Binds K fdL ["view"] [])
    (GS : FnOk P w K mg base (CXE P w) 1 fS fdS ["view"] (spSteps K)) (mS : mg "last_steps" = some (.ref fS)) (kS : PySem.W.keepIn K (.ref fS) = true) (bS : Binds K fdS ["view"] [])
    (GT : FnOk P w K mg base (CXE P w) 1 fT fdT ["view", "thing"] (spThing K)) (mT : mg "look_at_thing" = some (.ref fT)) (kT : PySem.W.keepIn K (.ref fT) = true) (bT : Binds K fdT ["view", "thing"] []) : FnOk P w K mg base (CXE P w) 3 f fd ["view", "thing"] (spOnly K) := by
  refine F.okE scO (fun vs H Q E h => ?_) (fun cdv A outer s H vs Q E hr h => ?_)
  · obtain ⟨v, r, d, x, o, ad, rs, ks, rfl, _⟩ := h
    rfl
  · obtain ⟨v, r, d, x, o, ad, rs, ks, rfl, ht, hv, rt, hx, k⟩ := h
    have hu := hu_of hr
    have r1 := hr.mono (show 1 ≤ 2 by decide)
    have co : CompOk (cxE P w K mg base NO "only_by" (defScope sOnly) f cdv A outer s H E).nox scpO [("without", s.heap.objs.size + 1)] "t" [3] ["t", "without"] :=
      comp_ok rfl rfl rfl cO rfl rfl (by intro q hq; rw [List.mem_singleton.mp hq]; rfl)
    refine ⟨_, PSs.nox (pss_cons (ps_expr (xe_call GL hr rfl mL kL bL .nil passN (pa_cons (pv 0) pa_nil)))
      (pss_cons (ps_expr (xe_call GT r1 rfl mT kT bT .nil passN (pa_cons (pv 0) (pa_cons (pv 1) pa_nil))))
      (pss_cons (ps_set (i := 2) scO.nd rfl (Or.inl rfl) (pe_callTy call_dictR rfl zd PyProof.Rows.Boot.«dict» (pa_cons (pe_ix ix_tup (pv 0) pe_int (fun _ _ => rfl)) pa_nil)))
      (pss_cons (ps_dput hu (pv 2) (pv 1) (pe_lst pa_nil) rfl)
      (pss_cons (ps_set (i := 3) scO.nd rfl (Or.inr rfl) (xe_call GS r1 rfl mS kS bS .nil passN (pa_cons (pe_frz (pe_tup (pa_cons (pe_ix ix_tup (pv 0) pe_int (fun _ _ => rfl)) (pa_cons (pv 2) pa_nil)))) pa_nil)))
      (pss_one (ps_ret (pe_callB call_sortedL rfl zs PyProof.Rows.Boot.«sorted» (pa_cons (pe_compU co rfl (pi_dict (pe_frz (xe_call GS r1 rfl mS kS bS .nil passN (pa_cons (pv 0) pa_nil)))) (fun C fp s₀ H₀ => pt_cmp (pc_dnotin hu (pv 0) (pv 1)) (by with_unfolding_all rfl)) (fun C fp s₀ H₀ => pv 0)) pa_nil))))))))), ?_⟩
    refine ⟨_, rfl, v, r, d, o, ad, rs, ks, rfl, ht, hv, rt, ?_⟩
    refine ⟨_, rfl, _, rfl, v, r, d, x, o, ad, ks, rfl, ht, hv.hd, hx, ?_⟩
    refine ⟨_, rfl, v, _, 1, .ref d, rfl, rfl, ht, rfl, d, _, rfl, rd_vw hv, fun b hb => ?_⟩
    have s1 := Same.upd (o := .dK (kvl ad ks)) hb
    have kl : (kvl ad ks).length < sizeLine := by
      unfold kvl
      have := rt.kl
      rw [List.length_map]
      exact Nat.lt_of_le_of_lt this (by decide)
    refine ⟨Nat.zero_le _, fun e he => ?_⟩
    have s2 := s1.trans (Same.upd (o := .lst []) he)
    have nb : e ≠ b := fun z => by rw [z, upd_same] at he; cases he
    refine ⟨_, rfl, _, rfl, b, _, rfl, DPut.k (k := Sum.inl x) (Same.upd he _ _ upd_same) kl, ?_⟩
    rw [put_cut hx [] e]
    obtain ⟨H3, e3⟩ : ∃ H3, upd (upd (upd H b (.dK (kvl ad ks))) e (.lst [])) b (.dK (kvl (fun k => if k = x then e else ad k) (cutK ks x []))) = H3 := ⟨_, rfl⟩
    have s3 : Same H H3 := fun c u g => by rw [← e3, upd_ne (ne_of_none g hb)]; exact s2 c u g
    have zb : H3 b = some (.dK (kvl (fun k => if k = x then e else ad k) (cutK ks x []))) := by rw [← e3]; exact upd_same
    have ze : H3 e = some (.lst []) := by rw [← e3, upd_ne nb]; exact upd_same
    rw [e3]
    refine ⟨_, rfl, v, _, 0, .ref r, rfl, rfl, sqT_same ht s3, rfl, _, rfl, by show 2 ≤ sizeLine; decide, fun t htt => ⟨b, _, Same.upd htt _ _ zb, fun o2 => ?_⟩⟩
    obtain ⟨H4, e4⟩ : ∃ H4, upd (upd H3 t (.tup [V.ref r, V.ref b])) b (.frz o2 (.dK (kvl (fun k => if k = x then e else ad k) (cutK ks x [])))) = H4 := ⟨_, rfl⟩
    have nt : t ≠ b := fun z => by rw [z, zb] at htt; cases htt
    have s4 : Same H H4 := fun c u g => by rw [← e4, upd_ne (ne_of_none g hb)]; exact Same.upd htt _ _ (s3 c u g)
    have l4 : ∀ {c : Addr} {xs : List V}, H3 c = some (.lst xs) → H4 c = some (.lst xs) := fun {c xs} g => by
      rw [← e4, upd_ne (ne_of g zb (by intro z; cases z))]
      exact Same.upd htt _ _ g
    have zt : H4 t = some (.tup [V.ref r, V.ref b]) := by rw [← e4, upd_ne nt]; exact upd_same
    have zb4 : H4 b = some (.frz o2 (.dK (kvl (fun k => if k = x then e else ad k) (cutK ks x [])))) := by rw [← e4]; exact upd_same
    rw [e4]
    have g0 : ∀ n : Int, some n ∉ ([] : List (Option Int)) := fun n h => nomatch h
    have rk : ∀ n ∈ rs.filterMap id, n ∈ keys ks := fun n hn => rt.ri n (mem_roots.mp hn)
    have vc : Vw H4 r b o2 (fun k => if k = x then e else ad k) rs (cutK ks x []) := by
      refine ⟨s4 _ _ hv.hr, zb4, fun p hp => ?_⟩
      obtain ⟨q, hq, rfl⟩ := List.mem_map.mp hp
      show H4 (if (if q.1 = x then (q.1, ([] : List (Option Int))) else q).1 = x then e else ad (if q.1 = x then (q.1, ([] : List (Option Int))) else q).1) = _
      rw [cut_key]
      by_cases h : q.1 = x
      · rw [if_pos h, if_pos h]
        exact l4 ze
      · rw [if_neg h, if_neg h]
        exact s4 _ _ (hv.hl q hq)
    refine ⟨t, r, b, o2, _, rs, cutK ks x [], rfl, SqT.of zt, vc, rt_cut rt g0 (Nat.zero_le _), fun wo kw mw H5 s5 hwo M5 ml5 hm5 => ?_⟩
    have s5' := s4.trans s5
    refine ⟨_, rfl, v, r, d, o, ad, rs, ks, rfl, sqT_same ht s5', hv.same s5', rt, fun st kvs ms H6 s6 hst M6 ml6 hm6 => ⟨st, kvs, M6.hs, fun o3 => ⟨st, o3, kvs, rfl, upd_same, fun D hD => ?_⟩⟩⟩
    have M56 := M5.same s6
    have nws : wo ≠ st := fun z => by rw [← z, M5.hs] at hst; cases hst
    have hst0 : H st = none := s5'.free hst
    obtain ⟨H7, e7⟩ : ∃ H7, upd H6 st (.frz o3 (.dK kvs)) = H7 := ⟨_, rfl⟩
    have s7 : Same H H7 := fun c u g => by rw [← e7, upd_ne (ne_of_none g hst0)]; exact s6 _ _ (s5' c u g)
    have z7 : H7 st = some (.frz o3 (.dK kvs)) := by rw [← e7]; exact upd_same
    have w7 : H7 wo = some (.dK kw) := by rw [← e7, upd_ne nws]; exact M56.hs
    rw [e7] at hD ⊢
    have lk : kvs.length = ms.length := by
      have := congrArg List.length M6.hk
      simpa using this
    refine compT_dict (d := st) (o := o3) (kvs := kvs) (fun i ys H8 => ys = ((ms.take i).filter fun c => !decide (c ∈ mw)).map V.int ∧ Same H7 H8 ∧ H8 D = some (.lst ys)) ⟨rfl, Same.upd hD, upd_same⟩ (fun i ys H8 hi ⟨e, _, z⟩ => ⟨z, ?_⟩) (fun i ys H8 _ ⟨_, s8, _⟩ => s8 _ _ z7) (Nat.le_trans (show kvs.length ≤ 11 by omega) (by decide)) (fun i p ys H8 hp ⟨e, s8, z⟩ => ?_) (fun ys H8 ⟨e, s8, z⟩ => ?_)
    · rw [e, List.length_map]
      exact Nat.le_trans (List.length_filter_le _ _) (by rw [List.length_take]; omega)
    · have hlt : i < ms.length := by have := (List.getElem?_eq_some_iff.mp hp).1; omega
      have tk : ms.take (i + 1) = ms.take i ++ [ms[i]] := List.take_succ_eq_append_getElem hlt
      have ep : p.1 = Sum.inl ms[i] := by
        have h1 : (kvs.map (·.1))[i]? = some p.1 := by rw [List.getElem?_map, hp]; rfl
        rw [M6.hk, List.getElem?_map, List.getElem?_eq_getElem hlt] at h1
        exact (Option.some.inj h1).symm
      rw [ep]
      have w8 := s8 _ _ w7
      refine ⟨_, rfl, _, rfl, wo, _, rfl, DGet.k (k := Sum.inl ms[i]) w8, _, rfl, ?_⟩
      rw [val_some M5.hk]
      by_cases hin : ms[i] ∈ mw
      · rw [decide_eq_true hin]
        refine iteF ⟨?_, s8, z⟩
        rw [tk, List.filter_append, e, List.filter_cons_of_neg (by simpa using hin)]
        simp
      · rw [decide_eq_false hin]
        refine iteT ⟨_, rfl, z, ?_, fun c u g => by rw [upd_ne (ne_of_none g hD)]; exact s8 c u g, upd_same⟩
        rw [tk, List.filter_append, e, List.filter_cons_of_pos (by simpa using hin), List.map_append]
        rfl
    · rw [lk, List.take_of_length_le (Nat.le_refl _)] at e
      have fl : (ms.filter fun c => !decide (c ∈ mw)).length ≤ 11 := Nat.le_trans (List.length_filter_le _ _) ml6
      refine ⟨D, ms.filter fun c => !decide (c ∈ mw), rfl, by rw [← e]; exact SqL.of z, by omega, fun l out hl po pw => ?_⟩
      have s8' := s7.trans s8
      refine k l out _ (s8'.trans (Same.upd hl)) (s8'.free hl) upd_same (by rw [po.length_eq]; exact fl) (rise_of po (M6.nd.filter _) pw) fun c => ?_
      rw [po.mem_iff, List.mem_filter, hm6 c]
      have := (hm5 c).trans (rch_cut rt g0 rk c)
      rw [← this]
      simp
end
end K20
end
section
set_option Elab.async false
set_option linter.all false
set_option maxRecDepth 100000
set_option maxHeartbeats 4000000
set_option exponentiation.threshold 4000
namespace K20
open PySem L2 LX
section
variable {P : Program} {w : World} {K : PySem.W.Frag} {mg : Str → Option Value} {base : Heap}
abbrev NW : List Str := ["script", "view", "lent", "every", "thing", "emptied", "left", "due", "turn", "found"]
theorem scL : FnScope NW ["script"] (defScope sLaw) := ⟨rfl, rfl, rfl, by decide +kernel, rfl, by decide +kernel, by decide +kernel⟩
abbrev scpX : Scope := scopeOf (cmp? (inFor ((defBody sLaw).getD 3 (.Pass ⟨0, 0, 0, 0⟩)) 1))
abbrev scpY : Scope := scopeOf (cmp? (inFor ((defBody sLaw).getD 3 (.Pass ⟨0, 0, 0, 0⟩)) 3))
theorem cX : CompP (defScope sLaw) scpX "place" [] NW [] := by decide +kernel
theorem cY : CompP (defScope sLaw) scpY "other" ["thing", "left"] NW [4, 6] := by decide +kernel
def spLaw (K : PySem.W.Frag) : Sp := fun vs H Q _ => ∃ (a : Addr) (ns : List Int), vs = [.ref a] ∧ SqL K H a (ns.map V.int) ∧ ns.length ≤ 63 ∧ ∀ H', Q (.bl true) H'
def pick (mL : List Int) (x : Int) (c : Int) : Bool := !decide (c ∈ mL) && !decide (c = x)
theorem ok_law {f fV fR fG fY fO fL : Addr} {fd fdV fdR fdG fdY fdO fdL : FuncData} (F : Fun K "law" "law" sLaw f fd) (zr : mg "range" = none)
    (GV : FnOk P w K mg base (CXE P w) 3 fV fdV ["script"] (spView K)) (mV : mg "_law_view" = some (.ref fV)) (kV : PySem.W.keepIn K (.ref fV) = true) (bV : Binds K fdV ["script"] [])
    (GR : FnOk P w K mg base (CXE P w) 1 fR fdR ["view"] (spRoots K)) (mR : mg "_law_roots" = some (.ref fR)) (kR : PySem.W.keepIn K (.ref fR) = true) (bR : Binds K fdR ["view"] [])
    (GG : FnOk P w K mg base (CXE P w) 1 fG fdG ["fields", "things"] spGrown) (mG : mg "_law_grown" = some (.ref fG)) (kG : PySem.W.keepIn K (.ref fG) = true) (bG : Binds K fdG ["fields", "things"] [])
    (GY : FnOk P w K mg base (CXE P w) 1 fY fdY ["view"] (spCopy K)) (mY : mg "_law_copy" = some (.ref fY)) (kY : PySem.W.keepIn K (.ref fY) = true) (bY : Binds K fdY ["view"] [])
    (GU : FnOk P w K mg base (CXE P w) 1 fY fdY ["view"] (spCopyU K))
    (GO : FnOk P w K mg base (CXE P w) 3 fO fdO ["view", "thing"] (spOnly K)) (mO : mg "only_by" = some (.ref fO)) (kO : PySem.W.keepIn K (.ref fO) = true) (bO : Binds K fdO ["view", "thing"] [])
    (GL : FnOk P w K mg base (CXE P w) 2 fL fdL ["found", "due"] spList) (mL : mg "_law_list" = some (.ref fL)) (kL : PySem.W.keepIn K (.ref fL) = true) (bL : Binds K fdL ["found", "due"] []) :
    FnOk P w K mg base (CXE P w) 4 f fd ["script"] (spLaw K) := by
  refine F.okE scL (fun vs H Q E h => ?_) (fun cdv A outer s H vs Q E hr h => ?_)
  · obtain ⟨a, ns, rfl, _⟩ := h
    rfl
  · obtain ⟨a, ns, rfl, hS, hz, k⟩ := h
    have hu := hu_of hr
    have hu0 := Nat.lt_of_succ_lt hu
    have hu3 : (cxE P w K mg base NW "law" (defScope sLaw) f cdv A outer s H E).nox.A.units + 1 + 2 < cLine := Nat.lt_of_le_of_lt (Nat.add_le_add_left (by decide : 3 ≤ 64) _) hr.units
    have r1 := hr.mono (show 1 ≤ 3 by decide)
    have r2 := hr.mono (show 2 ≤ 3 by decide)
    have co1 : CompOk (cxE P w K mg base NW "law" (defScope sLaw) f cdv A outer s H E).nox scpX [] "place" [] ["place"] :=
      comp_ok rfl rfl rfl cX rfl rfl (by intro q hq; cases hq)
    have co2 : CompOk (cxE P w K mg base NW "law" (defScope sLaw) f cdv A outer s H E).nox scpY [("thing", s.heap.objs.size + 1), ("left", s.heap.objs.size + 2)] "other" [4, 6] ["other", "thing", "left"] :=
      comp_ok rfl rfl rfl cY rfl rfl (by
        intro q hq
        rcases List.mem_cons.mp hq with e | e
        · rw [e]; rfl
        · rw [List.mem_singleton.mp e]; rfl)
    refine ⟨_, PSs.nox (pss_cons (ps_set (i := 1) scL.nd rfl (Or.inl rfl) (xe_call GV hr rfl mV kV bV .nil passN (pa_cons (pv 0) pa_nil)))
      (pss_cons (ps_set (i := 2) scL.nd rfl (Or.inl rfl) (xe_call GY r1 rfl mY kY bY .nil passN (pa_cons (pv 1) pa_nil)))
      (pss_cons (ps_set (i := 3) scL.nd rfl (Or.inl rfl) (xe_call GG r1 rfl mG kG bG .nil passN (pa_cons (pe_ix ix_tup (pv 1) pe_int (fun _ _ => rfl)) (pa_cons (xe_call GR r1 rfl mR kR bR .nil passN (pa_cons (pv 1) pa_nil)) pa_nil))))
      (pss_cons (ps_for PassesOwn.never rfl (pi_dict (pe_ix ix_tup (pv 1) pe_int (fun _ _ => rfl))) (pg_name (i := 4) scL.nd rfl (Or.inr rfl))
      (pss_cons (ps_set (i := 5) scL.nd rfl (Or.inl rfl) (xe_call GU r1 rfl mY kY bY .nil passN (pa_cons (pv 1) pa_nil)))
      (pss_cons (ps_dput hu (pe_ix ix_tup (pv 5) pe_int (fun _ _ => rfl)) (pv 4) (pe_comp co1 rfl (pi_list (pe_dget hu (pe_ix ix_tup (pv 1) pe_int (fun _ _ => rfl)) (pv 4) (fun _ _ => rfl))) (fun C fp s₀ H₀ => pe_non)) rfl)
      (pss_cons (ps_set (i := 6) scL.nd rfl (Or.inr rfl) (xe_call GG r1 rfl mG kG bG .nil passN (pa_cons (pe_frz (pe_ix ix_tup (pv 5) pe_int (fun _ _ => rfl))) (pa_cons (xe_call GR r1 rfl mR kR bR .nil passN (pa_cons (pv 1) pa_nil)) pa_nil))))
      (pss_cons (ps_compU (i := 7) scL.nd rfl rfl co2 rfl (pi_list (pv 3)) (fun C fp s₀ H₀ => PW.pt (pw_and (pt_cmpR (r := rIn K true) op_notIn_seq (pv 0) (pv 2) (by with_unfolding_all rfl)) (pw_and1 (pt_cmpR op_ne (pv 0) (pv 1) (nomark _))))) (fun C fp s₀ H₀ => pv 0))
      (pss_cons (ps_if (PW.pt (pw_and (pt_cmpR op_notIn_seq (pv 4) (pv 3) (by with_unfolding_all rfl)) (pw_and1 (pt_cmpR (op_neI hu0) (pv 7) (pe_lst pa_nil) (nomark _))))) (pss_one ps_dead) pss_nil)
      (pss_one (ps_for PassesOwn.never rfl (pi_range1 rfl zr (pa_cons pe_int pa_nil)) (pg_name (i := 8) scL.nd rfl (Or.inl rfl))
      (pss_cons (ps_set (i := 9) scL.nd rfl (Or.inl rfl) (xe_call GO hr rfl mO kO bO .nil passN (pa_cons (pv 2) (pa_cons (pv 4) pa_nil))))
      (pss_cons (ps_if (pt_not (pt_val (xe_call GL r2 rfl mL kL bL .nil passN (pa_cons (pv 9) (pa_cons (pv 7) pa_nil))))) (pss_one ps_dead) pss_nil)
      (pss_one (ps_expr (pe_bm PySem.F.plainAttrs_list PySem.F.slot_list_append PySem.F.type_list_append mt_append (pv 9) (pa_cons (pv 4) pa_nil))))))))))))))
      (pss_one (ps_ret (pe_cmpR (op_eqVw (n := 1) hu3) (pv 2) (pv 1) (nomark _)))))))), ?_⟩
    refine ⟨_, rfl, a, ns, rfl, hS, by omega, fun v r d o ad rs ks H1 s1 ht1 hv rt => ?_⟩
    have rk : ∀ n ∈ rs.filterMap id, n ∈ keys ks := fun n hn => rt.ri n (mem_roots.mp hn)
    have rl20 : (rs.filterMap id).length ≤ 20 := Nat.le_trans (List.length_filterMap_le _ _) rt.rl
    refine ⟨_, rfl, v, r, d, o, ad, rs, ks, rfl, SqT.of ht1, hv, rt, fun v' r' d' o' ad' H2 s2 ht2 hv2 => ?_⟩
    refine ⟨_, rfl, v, _, 1, .ref d, rfl, rfl, SqT.of (s2 _ _ ht1), rfl, _, rfl, v, r, .ref d, rs, rfl, SqT.of (s2 _ _ ht1), (hv.same s2).hr, Nat.le_trans rt.rl (by decide), fun q2 H3 s3 hq2 z3 => ?_⟩
    refine ⟨r, d, q2, o, ad, rs, ks, _, rfl, hv.same (s2.trans s3), rt, z3, rl20, rk, fun g0 m0 H4 s4 hg0 z4 l0 p0 mm0 => ?_⟩
    have s24 := s3.trans s4
    have vv := hv.same (s2.trans s24)
    have tv := (s2.trans s24) _ _ ht1
    have vl := hv2.same s24
    have tl := s24 _ _ ht2
    refine ⟨_, rfl, v, _, 1, .ref d, rfl, rfl, SqT.of tv, rfl, d, o, _, rfl, vv.hd, for_dict (d := d) (o := o) (kvs := kvl ad ks) (fun i σ Hx => (∃ v4 v5 v6 v7 v8 v9, σ = [some (.ref a), some (.ref v), some (.ref v'), some (.ref g0), v4, v5, v6, v7, v8, v9]) ∧ Same H4 Hx)
      ⟨⟨none, none, none, none, none, none, rfl⟩, Same.refl _⟩ (fun i σ Hx _ ⟨_, sx⟩ => sx _ _ vv.hd) ?_ ?_⟩
    · rintro i pr σ Hx hpr ⟨⟨v4, v5, v6, v7, v8, v9, rfl⟩, sx⟩
      obtain ⟨q, hq, _, rfl⟩ := key_at hpr
      obtain ⟨x, ex⟩ : ∃ x, q.1 = x := ⟨_, rfl⟩
      have hx : x ∈ keys ks := by rw [← ex]; exact List.mem_map_of_mem hq
      show gName 4 (.int q.1) _ _ _
      rw [ex]
      refine ⟨_, rfl, v, r, d, o, ad, rs, ks, rfl, SqT.of (sx _ _ tv), vv.same sx, rt, fun e r2 d2 ad2 H5 s5 zt5 hd5 zd5 zl5 => ?_⟩
      have s5' := sx.trans s5
      have v5 := vv.same s5'
      have hd4 : H4 d2 = none := sx.free hd5
      obtain ⟨f1, f2, f3⟩ := fs_at v5 rt hx
      refine ⟨_, rfl, v, _, 1, .ref d, rfl, rfl, SqT.of (s5' _ _ tv), rfl, _, rfl, d, _, rfl, dget_in v5.hd hx, ad x, rfl, ⟨_, SqL.of f1⟩, fun D hD => ?_⟩
      refine comp_list (K := K) (a := ad x) (xs := (fsOf ks x).map oV) (fun j zs H6 => zs = (List.replicate j none).map oV ∧ Same H5 H6 ∧ H6 D = some (.lst zs)) ⟨rfl, Same.upd hD, upd_same⟩ (fun j zs H6 _ ⟨e, _, z⟩ => ⟨z, by rw [e, List.length_map, List.length_replicate]⟩) (fun j zs H6 _ ⟨_, s6, _⟩ => SqL.of (s6 _ _ f1)) (Nat.le_trans (by rw [List.length_map]; exact f2) (by decide))
        (fun j y zs H6 _ ⟨e, s6, z⟩ => ?_) (fun zs H6 ⟨e, s6, z⟩ => ?_)
      · refine ⟨z, ?_, fun c u g => by rw [upd_ne (ne_of_none g hD)]; exact s6 c u g, upd_same⟩
        rw [e, List.replicate_succ', List.map_append]
        rfl
      · rw [List.length_map] at e
        obtain ⟨gN, egN⟩ : ∃ gN : List (Option Int), List.replicate (fsOf ks x).length none = gN := ⟨_, rfl⟩
        have gno : ∀ n : Int, some n ∉ gN := fun n h => by
          rw [← egN] at h
          exact nomatch (List.mem_replicate.mp h).2
        have gl6 : gN.length ≤ 6 := by rw [← egN, List.length_replicate]; exact f2
        rw [egN] at e
        subst e
        have zd6 := s6 _ _ zd5
        have kl : (kvl ad2 ks).length < sizeLine := by
          unfold kvl
          have := rt.kl
          rw [List.length_map]
          exact Nat.lt_of_le_of_lt this (by decide)
        refine ⟨_, rfl, e, _, 1, .ref d2, rfl, rfl, SqT.of (s6 _ _ zt5), rfl, _, rfl, d2, _, rfl, DPut.k (k := Sum.inl x) zd6 kl, ?_⟩
        rw [put_cut hx gN D]
        obtain ⟨ad3, ea3⟩ : ∃ ad3 : Int → Addr, (fun k => if k = x then D else ad2 k) = ad3 := ⟨_, rfl⟩
        rw [ea3]
        obtain ⟨H7, e7⟩ : ∃ H7, upd H6 d2 (.dK (kvl ad3 (cutK ks x gN))) = H7 := ⟨_, rfl⟩
        have s7 : Same H4 H7 := fun c u g => by rw [← e7, upd_ne (ne_of_none g hd4)]; exact s6 _ _ (s5' c u g)
        have zd7 : H7 d2 = some (.dK (kvl ad3 (cutK ks x gN))) := by rw [← e7]; exact upd_same
        have l7 : ∀ {c : Addr} {xs : List V}, H6 c = some (.lst xs) → H7 c = some (.lst xs) := fun {c xs} g => by rw [← e7, upd_ne (ne_of g zd6 (by intro z; cases z))]; exact g
        have zt7 : H7 e = some (.tup [.ref r2, .ref d2]) := by
          have h := s6 _ _ zt5
          rw [← e7, upd_ne (ne_of h zd6 (by intro z; cases z))]
          exact h
        have ll7 : ∀ p ∈ cutK ks x gN, H7 (ad3 p.1) = some (.lst (p.2.map oV)) := fun p hp => by
          obtain ⟨q', hq', rfl⟩ := List.mem_map.mp hp
          rw [← ea3]
          show H7 (if (if q'.1 = x then (q'.1, gN) else q').1 = x then D else ad2 (if q'.1 = x then (q'.1, gN) else q').1) = _
          rw [cut_key]
          by_cases h : q'.1 = x
          · rw [if_pos h, if_pos h]
            exact l7 z
          · rw [if_neg h, if_neg h]
            exact l7 (s6 _ _ (zl5 q' hq'))
        rw [e7]
        refine ⟨_, rfl, e, _, 1, .ref d2, rfl, rfl, SqT.of zt7, rfl, d2, _, zd7, fun o2 => ?_⟩
        obtain ⟨H8, e8⟩ : ∃ H8, upd H7 d2 (.frz o2 (.dK (kvl ad3 (cutK ks x gN)))) = H8 := ⟨_, rfl⟩
        have s8 : Same H4 H8 := fun c u g => by rw [← e8, upd_ne (ne_of_none g hd4)]; exact s7 c u g
        have zd8 : H8 d2 = some (.frz o2 (.dK (kvl ad3 (cutK ks x gN)))) := by rw [← e8]; exact upd_same
        have v8 := vv.same s8
        have vc : Vw H8 r d2 o2 ad3 rs (cutK ks x gN) := ⟨v8.hr, zd8, fun p hp => by
          have h := ll7 p hp
          rw [← e8, upd_ne (ne_of h zd7 (by intro z; cases z))]
          exact h⟩
        rw [e8]
        refine ⟨_, rfl, v, r, .ref d, rs, rfl, SqT.of (s8 _ _ tv), v8.hr, Nat.le_trans rt.rl (by decide), fun q9 H9 s9 hq9 z9 => ?_⟩
        refine ⟨r, d2, q9, o2, ad3, rs, cutK ks x gN, _, rfl, vc.same s9, rt_cut rt gno gl6, z9, rl20, (by rw [keys_cut]; exact rk), fun lf mL' H10 s10 hlf z10 ll pL mmL => ?_⟩
        have s10' := (s8.trans s9).trans s10
        have mX : ∀ c, c ∈ mL' ↔ RchX ks x (rs.filterMap id) c := fun c => (mmL c).trans (rch_cut rt gno rk c)
        refine ⟨_, rfl, g0, rfl, ⟨_, SqL.of (s10' _ _ z4)⟩, fun D2 hD2 => ?_⟩
        refine compT_list (K := K) (a := g0) (xs := m0.map V.int) (fun i ys H11 => ys = ((m0.take i).filter (pick mL' x)).map V.int ∧ Same H10 H11 ∧ H11 D2 = some (.lst ys)) ⟨rfl, Same.upd hD2, upd_same⟩ (fun i ys H11 _ ⟨e, _, z⟩ => ⟨z, ?_⟩) (fun i ys H11 _ ⟨_, s11, _⟩ => SqL.of (s11 _ _ (s10' _ _ z4)))
          (Nat.le_trans (show (m0.map V.int).length ≤ 11 by rw [List.length_map]; exact l0) (by decide)) (fun i y ys H11 hy ⟨e, s11, z⟩ => ?_) (fun ys H11 ⟨e, s11, z⟩ => ?_)
        · rw [e, List.length_map]
          exact Nat.le_trans (List.length_filter_le _ _) (by rw [List.length_take]; omega)
        · have hlt : i < m0.length := by have := (List.getElem?_eq_some_iff.mp hy).1; rwa [List.length_map] at this
          have tk : m0.take (i + 1) = m0.take i ++ [m0[i]] := List.take_succ_eq_append_getElem hlt
          have hxe : y = .int m0[i] := by
            rw [List.getElem?_map, List.getElem?_eq_getElem hlt] at hy
            exact (Option.some.inj hy).symm
          subst hxe
          have no : pick mL' x m0[i] = false → ys = ((m0.take (i + 1)).filter (pick mL' x)).map V.int := fun h => by
            rw [tk, List.filter_append, e, List.filter_cons_of_neg (by rw [h]; decide)]
            simp
          refine ⟨_, rfl, _, rfl, lf, mL'.map V.int, rfl, .inl (SqL.of (s11 _ _ z10)), rfl, flat_ints _, _, rfl, ite2 (fun h => ?_) (fun h => ?_)⟩
          · have h9 : (!inV (.int m0[i]) (mL'.map V.int)) = true := h
            rw [inV_i] at h9
            refine ⟨_, rfl, _, rfl, rfl, _, rfl, ite2 (fun h => ?_) (fun h => ?_)⟩
            · have h8 : ¬ m0[i] = x := by simpa using h
              have pk : pick mL' x m0[i] = true := by unfold pick; rw [h9, decide_eq_false h8]; rfl
              refine ⟨_, rfl, z, ?_, fun c u g => by rw [upd_ne (ne_of_none g hD2)]; exact s11 c u g, upd_same⟩
              rw [tk, List.filter_append, e, List.filter_cons_of_pos pk, List.map_append]
              rfl
            · have h8 : m0[i] = x := by simpa using h
              exact ⟨no (by unfold pick; rw [decide_eq_true h8, Bool.not_true, Bool.and_false]), s11, z⟩
          · have h9 : ¬ (!inV (.int m0[i]) (mL'.map V.int)) = true := h
            rw [inV_i] at h9
            have h8 : m0[i] ∈ mL' := by simpa using h9
            exact iteF ⟨no (by unfold pick; rw [decide_eq_true h8, Bool.not_true, Bool.false_and]), s11, z⟩
        · rw [List.length_map, List.take_of_length_le (Nat.le_refl _)] at e
          obtain ⟨du, edu⟩ : ∃ du, m0.filter (pick mL' x) = du := ⟨_, rfl⟩
          rw [edu] at e
          subst e
          have dp : du.Pairwise (· < ·) := by rw [← edu]; exact p0.filter _
          have dl : du.length ≤ 11 := by rw [← edu]; exact Nat.le_trans (List.length_filter_le _ _) l0
          have dm : ∀ c, c ∈ du ↔ Rch ks (rs.filterMap id) c ∧ ¬ RchX ks x (rs.filterMap id) c := fun c => by
            rw [← edu, List.mem_filter, mm0 c, ← mX c]
            unfold pick
            constructor
            · rintro ⟨h1, h2⟩
              simp at h2
              exact ⟨h1, h2.1⟩
            · rintro ⟨h1, h2⟩
              refine ⟨h1, ?_⟩
              have h3 : c ≠ x := fun z => h2 (by
                rw [mX c]
                rw [z] at h1 ⊢
                exact (rch_or h1).elim id id)
              simp [h2, h3]
          have s11' := s10'.trans s11
          refine ⟨_, rfl, _, rfl, g0, m0.map V.int, rfl, .inl (SqL.of (s11' _ _ z4)), rfl, flat_ints _, _, rfl, ?_⟩
          refine (fun (cont : ∀ Hy : Hp, Same H4 Hy → Hy D2 = some (.lst (du.map V.int)) → (_ : Hp → Prop) Hy) => ite2 (fun h => ?A) (fun h => iteF (cont H11 s11' z))) (fun Hy sy zy => ?B)
          case A =>
            have h9 : (!inV (.int x) (m0.map V.int)) = true := h
            rw [inV_i] at h9
            have xn : x ∉ m0 := by simpa using h9
            have d0 : du = [] := by
              rw [List.eq_nil_iff_forall_not_mem]
              intro c hc
              obtain ⟨h1, h2⟩ := (dm c).mp hc
              rcases rch_or (x := x) h1 with h | h
              · exact h2 h
              · exact xn ((mm0 x).mpr (rchX_rch h))
            refine ⟨_, rfl, Nat.zero_le _, fun q0 hq0 => ⟨D2, q0, du, [], rfl, rfl, SqL.of (Same.upd hq0 _ _ z), SqL.of upd_same, _, rfl, ?_⟩⟩
            rw [decide_eq_true d0]
            exact iteF (cont _ (s11'.trans (Same.upd hq0)) (Same.upd hq0 _ _ z))
          case B =>
            refine ⟨2, rfl, by decide, by decide, for_range (lo := 0) (n := 2) (fun i σ H12 => (∃ v8 v9, σ = [some (.ref a), some (.ref v), some (.ref v'), some (.ref g0), some (.int x), some (.ref e), some (.ref lf), some (.ref D2), v8, v9]) ∧ Same H4 H12 ∧ H12 D2 = some (.lst (du.map V.int))) ⟨⟨_, _, rfl⟩, sy, zy⟩ ?_ ?_⟩
            · rintro i σ H12 hi ⟨⟨v8, v9, rfl⟩, s12, z12⟩
              refine ⟨_, rfl, _, rfl, v', r', d', x, o', ad', rs, ks, rfl, SqT.of (s12 _ _ tl), vl.same s12, rt, hx, fun l out H13 s13 hl z13 ml pm hmm => ?_⟩
              have eo : out = du := rise_one pm dp fun c => (hmm c).trans (dm c).symm
              subst eo
              refine ⟨_, rfl, _, rfl, l, D2, out, rfl, z13, s13 _ _ z12, by omega, _, rfl, iteF ?_⟩
              have hl4 : H4 l = none := s12.free hl
              have nd : D2 ≠ l := fun z => by rw [← z, z12] at hl; cases hl
              exact ⟨_, rfl, .inl ⟨rfl, _, SqL.of z13⟩, _, rfl, l, _, _, rfl, rfl, z13, Nat.lt_of_le_of_lt (show (out.map V.int).length ≤ 11 by rw [List.length_map]; exact ml) (by decide), ⟨_, _, rfl⟩, fun c u q => by rw [upd_ne (ne_of_none q hl4)]; exact s13 _ _ (s12 c u q), by rw [upd_ne nd]; exact s13 _ _ z12⟩
            · rintro σ H12 ⟨⟨v8, v9, rfl⟩, s12, z12⟩
              exact ⟨⟨_, _, _, _, _, _, rfl⟩, s12⟩
    · rintro σ Hx ⟨⟨v4, v5, v6, v7, v8, v9, rfl⟩, sx⟩
      have va := vv.same sx
      have vb := vl.same sx
      exact ⟨_, rfl, _, rfl, v', v, r', d', r, d, kvl ad' ks, kvl ad ks, rfl, rfl, SqT.of (sx _ _ tl), SqT.of (sx _ _ tv), deep_list vb.hr va.hr, rd_vw vb, rd_vw va, by unfold kvl; rw [List.length_map, List.length_map], kvl_int, kvl_int, kvl_eq va vb, k _⟩
end
end K20
end
section
set_option Elab.async false
set_option linter.all false
set_option maxRecDepth 100000
set_option maxHeartbeats 4000000
set_option exponentiation.threshold 4000
namespace K20
open PySem L2 LX
theorem all_mk {l : PySem.W.OpenLaw} {w : World} {K : PySem.W.Frag} {h : Heap} {mg : Str → Option Value} {fa f1 f3 f4 f5 f6 f7 f8 f9 f10 f11 f12 f13 f14 f15 f16 : Addr} (X : K.In h) (G : h.Ns mainGlobals mg) (hfa : mg "law" = some (.ref fa))
    {od1 an1 od3 an3 od4 an4 od5 an5 od6 an6 od7 an7 od8 an8 od9 an9 od10 an10 od11 an11 od12 an12 od13 an13 od14 an14 od15 an15 od16 an16 : Option Addr} {sl1 sl3 sl4 sl5 sl6 sl7 sl8 sl9 sl10 sl11 sl12 sl13 sl14 sl15 sl16 : Array (Option Value)} {oc1 kV1 dc1 pm1 cd1 ct1 oc3 kV3 dc3 pm3 cd3 ct3 oc4 kV4 dc4 pm4 cd4 ct4 oc5 kV5 dc5 pm5 cd5 ct5 oc6 kV6 dc6 pm6 cd6 ct6 oc7 kV7 dc7 pm7 cd7 ct7 oc8 kV8 dc8 pm8 cd8 ct8 oc9 kV9 dc9 pm9 cd9 ct9 oc10 kV10 dc10 pm10 cd10 ct10 oc11 kV11 dc11 pm11 cd11 ct11 oc12 kV12 dc12 pm12 cd12 ct12 oc13 kV13 dc13 pm13 cd13 ct13 oc14 kV14 dc14 pm14 cd14 ct14 oc15 kV15 dc15 pm15 cd15 ct15 oc16 kV16 dc16 pm16 cd16 ct16 : Value}
    (a1 : PySem.W.nsIn K mainGlobals "only_by" = some (some (.ref f1)))
    (l1 : K.lookup f1 = some ⟨oc1, od1, .func (PySem.W.fnOf "only_by" "only_by" (defArgs sOnly) (defBody sOnly) (defScope sOnly) .none kV1 dc1 pm1 an1 cd1 ct1), sl1⟩)
    (c1 : PySem.W.codeIn K cd1 "only_by" = true)
    (k1 : PySem.W.keepIn K (.ref f1) = true)
    (a3 : PySem.W.nsIn K mainGlobals "look_at_view" = some (some (.ref f3)))
    (l3 : K.lookup f3 = some ⟨oc3, od3, .func (PySem.W.fnOf "look_at_view" "look_at_view" (defArgs sLook) (defBody sLook) (defScope sLook) .none kV3 dc3 pm3 an3 cd3 ct3), sl3⟩)
    (c3 : PySem.W.codeIn K cd3 "look_at_view" = true)
    (k3 : PySem.W.keepIn K (.ref f3) = true)
    (a4 : PySem.W.nsIn K mainGlobals "look_at_told" = some (some (.ref f4)))
    (l4 : K.lookup f4 = some ⟨oc4, od4, .func (PySem.W.fnOf "look_at_told" "look_at_told" (defArgs sLTold) (defBody sLTold) (defScope sLTold) .none kV4 dc4 pm4 an4 cd4 ct4), sl4⟩)
    (c4 : PySem.W.codeIn K cd4 "look_at_told" = true)
    (k4 : PySem.W.keepIn K (.ref f4) = true)
    (a5 : PySem.W.nsIn K mainGlobals "look_at_thing" = some (some (.ref f5)))
    (l5 : K.lookup f5 = some ⟨oc5, od5, .func (PySem.W.fnOf "look_at_thing" "look_at_thing" (defArgs sLThing) (defBody sLThing) (defScope sLThing) .none kV5 dc5 pm5 an5 cd5 ct5), sl5⟩)
    (c5 : PySem.W.codeIn K cd5 "look_at_thing" = true)
    (k5 : PySem.W.keepIn K (.ref f5) = true)
    (a6 : PySem.W.nsIn K mainGlobals "last_steps" = some (some (.ref f6)))
    (l6 : K.lookup f6 = some ⟨oc6, od6, .func (PySem.W.fnOf "last_steps" "last_steps" (defArgs sSteps) (defBody sSteps) (defScope sSteps) .none kV6 dc6 pm6 an6 cd6 ct6), sl6⟩)
    (c6 : PySem.W.codeIn K cd6 "last_steps" = true)
    (k6 : PySem.W.keepIn K (.ref f6) = true)
    (a7 : PySem.W.nsIn K mainGlobals "_law_cell" = some (some (.ref f7)))
    (l7 : K.lookup f7 = some ⟨oc7, od7, .func (PySem.W.fnOf "_law_cell" "_law_cell" (defArgs sCell) (defBody sCell) (defScope sCell) .none kV7 dc7 pm7 an7 cd7 ct7), sl7⟩)
    (c7 : PySem.W.codeIn K cd7 "_law_cell" = true)
    (k7 : PySem.W.keepIn K (.ref f7) = true)
    (a8 : PySem.W.nsIn K mainGlobals "_law_whole" = some (some (.ref f8)))
    (l8 : K.lookup f8 = some ⟨oc8, od8, .func (PySem.W.fnOf "_law_whole" "_law_whole" (defArgs sWhole) (defBody sWhole) (defScope sWhole) .none kV8 dc8 pm8 an8 cd8 ct8), sl8⟩)
    (c8 : PySem.W.codeIn K cd8 "_law_whole" = true)
    (k8 : PySem.W.keepIn K (.ref f8) = true)
    (a9 : PySem.W.nsIn K mainGlobals "_law_digits" = some (some (.ref f9)))
    (l9 : K.lookup f9 = some ⟨oc9, od9, .func (PySem.W.fnOf "_law_digits" "_law_digits" (defArgs sDigits) (defBody sDigits) (defScope sDigits) .none kV9 dc9 pm9 an9 cd9 ct9), sl9⟩)
    (c9 : PySem.W.codeIn K cd9 "_law_digits" = true)
    (k9 : PySem.W.keepIn K (.ref f9) = true)
    (a10 : PySem.W.nsIn K mainGlobals "_law_stream" = some (some (.ref f10)))
    (l10 : K.lookup f10 = some ⟨oc10, od10, .func (PySem.W.fnOf "_law_stream" "_law_stream" (defArgs sStream) (defBody sStream) (defScope sStream) .none kV10 dc10 pm10 an10 cd10 ct10), sl10⟩)
    (c10 : PySem.W.codeIn K cd10 "_law_stream" = true)
    (k10 : PySem.W.keepIn K (.ref f10) = true)
    (a11 : PySem.W.nsIn K mainGlobals "_law_view" = some (some (.ref f11)))
    (l11 : K.lookup f11 = some ⟨oc11, od11, .func (PySem.W.fnOf "_law_view" "_law_view" (defArgs sView) (defBody sView) (defScope sView) .none kV11 dc11 pm11 an11 cd11 ct11), sl11⟩)
    (c11 : PySem.W.codeIn K cd11 "_law_view" = true)
    (k11 : PySem.W.keepIn K (.ref f11) = true)
    (a12 : PySem.W.nsIn K mainGlobals "_law_copy" = some (some (.ref f12)))
    (l12 : K.lookup f12 = some ⟨oc12, od12, .func (PySem.W.fnOf "_law_copy" "_law_copy" (defArgs sCopy) (defBody sCopy) (defScope sCopy) .none kV12 dc12 pm12 an12 cd12 ct12), sl12⟩)
    (c12 : PySem.W.codeIn K cd12 "_law_copy" = true)
    (k12 : PySem.W.keepIn K (.ref f12) = true)
    (a13 : PySem.W.nsIn K mainGlobals "_law_grown" = some (some (.ref f13)))
    (l13 : K.lookup f13 = some ⟨oc13, od13, .func (PySem.W.fnOf "_law_grown" "_law_grown" (defArgs sGrown) (defBody sGrown) (defScope sGrown) .none kV13 dc13 pm13 an13 cd13 ct13), sl13⟩)
    (c13 : PySem.W.codeIn K cd13 "_law_grown" = true)
    (k13 : PySem.W.keepIn K (.ref f13) = true)
    (a14 : PySem.W.nsIn K mainGlobals "_law_roots" = some (some (.ref f14)))
    (l14 : K.lookup f14 = some ⟨oc14, od14, .func (PySem.W.fnOf "_law_roots" "_law_roots" (defArgs sRoots) (defBody sRoots) (defScope sRoots) .none kV14 dc14 pm14 an14 cd14 ct14), sl14⟩)
    (c14 : PySem.W.codeIn K cd14 "_law_roots" = true)
    (k14 : PySem.W.keepIn K (.ref f14) = true)
    (a15 : PySem.W.nsIn K mainGlobals "_law_list" = some (some (.ref f15)))
    (l15 : K.lookup f15 = some ⟨oc15, od15, .func (PySem.W.fnOf "_law_list" "_law_list" (defArgs sList) (defBody sList) (defScope sList) .none kV15 dc15 pm15 an15 cd15 ct15), sl15⟩)
    (c15 : PySem.W.codeIn K cd15 "_law_list" = true)
    (k15 : PySem.W.keepIn K (.ref f15) = true)
    (a16 : PySem.W.nsIn K mainGlobals "law" = some (some (.ref f16)))
    (l16 : K.lookup f16 = some ⟨oc16, od16, .func (PySem.W.fnOf "law" "law" (defArgs sLaw) (defBody sLaw) (defScope sLaw) .none kV16 dc16 pm16 an16 cd16 ct16), sl16⟩)
    (c16 : PySem.W.codeIn K cd16 "law" = true)
    (k16 : PySem.W.keepIn K (.ref f16) = true)
    (z_isinstance : PySem.W.nsIn K mainGlobals "isinstance" = some none)
    (z_bool : PySem.W.nsIn K mainGlobals "bool" = some none)
    (z_int : PySem.W.nsIn K mainGlobals "int" = some none)
    (z_list : PySem.W.nsIn K mainGlobals "list" = some none)
    (z_len : PySem.W.nsIn K mainGlobals "len" = some none)
    (z_range : PySem.W.nsIn K mainGlobals "range" = some none)
    (z_sorted : PySem.W.nsIn K mainGlobals "sorted" = some none)
    (z_set : PySem.W.nsIn K mainGlobals "set" = some none)
    (z_enumerate : PySem.W.nsIn K mainGlobals "enumerate" = some none)
    (z_dict : PySem.W.nsIn K mainGlobals "dict" = some none) :
    ∃ fd : FuncData, (∀ (s : Shared) (v : Value), BindsTo s fd ⟨[v], []⟩ [("script", v)]) ∧ ∀ base : Heap, K.In base → base.Ns mainGlobals mg → FnOk l.prog w K mg base (CXE l.prog w) 4 fa fd ["script"] (spLaw K) := by
  have e := hfa.symm.trans (PySem.W.mg_of X G a16)
  cases e
  have m := fun {n : Str} {v : Value} (q : PySem.W.nsIn K mainGlobals n = some (some v)) => PySem.W.mg_of X G q
  have z := fun {n : Str} (q : PySem.W.nsIn K mainGlobals n = some none) => PySem.W.mg_none_of X G q
  have F1 := fun_mk (st := sOnly) l1 c1 k1
  have F3 := fun_mk (st := sLook) l3 c3 k3
  have F4 := fun_mk (st := sLTold) l4 c4 k4
  have F5 := fun_mk (st := sLThing) l5 c5 k5
  have F6 := fun_mk (st := sSteps) l6 c6 k6
  have F7 := fun_mk (st := sCell) l7 c7 k7
  have F8 := fun_mk (st := sWhole) l8 c8 k8
  have F9 := fun_mk (st := sDigits) l9 c9 k9
  have F10 := fun_mk (st := sStream) l10 c10 k10
  have F11 := fun_mk (st := sView) l11 c11 k11
  have F12 := fun_mk (st := sCopy) l12 c12 k12
  have F13 := fun_mk (st := sGrown) l13 c13 k13
  have F14 := fun_mk (st := sRoots) l14 c14 k14
  have F15 := fun_mk (st := sList) l15 c15 k15
  have F16 := fun_mk (st := sLaw) l16 c16 k16
  have b1 := F1.binds (ps := ["view", "thing"]) fun _ _ _ _ _ _ us hl => match us, hl with | [_, _], _ => rfl
  have b3 := F3.binds (ps := ["view"]) fun _ _ _ _ _ _ us hl => match us, hl with | [_], _ => rfl
  have b4 := F4.binds (ps := ["told", "fields"]) fun _ _ _ _ _ _ us hl => match us, hl with | [_, _], _ => rfl
  have b5 := F5.binds (ps := ["view", "thing"]) fun _ _ _ _ _ _ us hl => match us, hl with | [_, _], _ => rfl
  have b6 := F6.binds (ps := ["view"]) fun _ _ _ _ _ _ us hl => match us, hl with | [_], _ => rfl
  have b7 := F7.binds (ps := ["script", "k"]) fun _ _ _ _ _ _ us hl => match us, hl with | [_, _], _ => rfl
  have b8 := F8.binds (ps := ["found"]) fun _ _ _ _ _ _ us hl => match us, hl with | [_], _ => rfl
  have b9 := F9.binds (ps := ["cell"]) fun _ _ _ _ _ _ us hl => match us, hl with | [_], _ => rfl
  have b10 := F10.binds (ps := ["script", "many"]) fun _ _ _ _ _ _ us hl => match us, hl with | [_, _], _ => rfl
  have b11 := F11.binds (ps := ["script"]) fun _ _ _ _ _ _ us hl => match us, hl with | [_], _ => rfl
  have b12 := F12.binds (ps := ["view"]) fun _ _ _ _ _ _ us hl => match us, hl with | [_], _ => rfl
  have b13 := F13.binds (ps := ["fields", "things"]) fun _ _ _ _ _ _ us hl => match us, hl with | [_, _], _ => rfl
  have b14 := F14.binds (ps := ["view"]) fun _ _ _ _ _ _ us hl => match us, hl with | [_], _ => rfl
  have b15 := F15.binds (ps := ["found", "due"]) fun _ _ _ _ _ _ us hl => match us, hl with | [_, _], _ => rfl
  refine ⟨PySem.W.fnOf "law" "law" (defArgs sLaw) (defBody sLaw) (defScope sLaw) .none kV16 dc16 pm16 an16 cd16 ct16, fun s v => .of_eq rfl, fun base _ _ => ?_⟩
  have G4 := ok_ltold (P := l.prog) (w := w) (mg := mg) (base := base) F4
  have G3 := ok_look (P := l.prog) (w := w) (mg := mg) (base := base) F3 G4 (m a4) k4 b4
  have G5 := ok_thing (P := l.prog) (w := w) (mg := mg) (base := base) F5
  have G6 := ok_steps (P := l.prog) (w := w) (mg := mg) (base := base) F6 (z z_list) (z z_enumerate) (z z_len)
  have G7 := ok_cell (P := l.prog) (w := w) (mg := mg) (base := base) F7 (z z_len)
  have G8 := ok_whole (P := l.prog) (w := w) (mg := mg) (base := base) F8 (z z_isinstance) (z z_int) (z z_bool)
  have G9 := ok_digits (P := l.prog) (w := w) (mg := mg) (base := base) F9 (z z_range)
  have G10 := ok_stream (P := l.prog) (w := w) (mg := mg) (base := base) F10 (z z_range) (z z_enumerate) G9 (m a9) k9 b9
  have G11 := ok_view (P := l.prog) (w := w) (mg := mg) (base := base) F11 (z z_range) (z z_len) G7 (m a7) k7 b7 G10 (m a10) k10 b10
  have G12 := ok_copy (P := l.prog) (w := w) (mg := mg) (base := base) F12 (z z_list)
  have G13 := ok_grown (P := l.prog) (w := w) (mg := mg) (base := base) F13 (z z_list) (z z_range) (z z_len) (z z_sorted) (z z_set)
  have G14 := ok_roots (P := l.prog) (w := w) (mg := mg) (base := base) F14
  have G15 := ok_list (P := l.prog) (w := w) (mg := mg) (base := base) F15 (z z_isinstance) (z z_list) (z z_len) (z z_range) G8 (m a8) k8 b8
  have G12' := ok_copyU (P := l.prog) (w := w) (mg := mg) (base := base) F12 (z z_list)
  have G1 := ok_only (P := l.prog) (w := w) (mg := mg) (base := base) F1 (z z_sorted) (z z_dict) G3 (m a3) k3 b3 G6 (m a6) k6 b6 G5 (m a5) k5 b5
  exact ok_law F16 (z z_range) G11 (m a11) k11 b11 G14 (m a14) k14 b14 G13 (m a13) k13 b13 G12 (m a12) k12 b12 G12' G1 (m a1) k1 b1 G15 (m a15) k15 b15
theorem walk {l : PySem.W.OpenLaw} {q : Program} {loose : List Str} {XP : (Str → Option Value) → Heap → Prop} {YP : World → Heap → Prop} {d : DefRec} {K : Params → PySem.W.Frag} (hn : l.most = some 63) (hdf : d.params.defaults = [])
    (hY : ∀ (w : World) (h : Heap), YP w h → (K w.params).In h)
    (F : ∀ (w : World) (mg : Str → Option Value) (fa : Addr) (h : Heap), (K w.params).In h → h.Ns mainGlobals mg → mg d.name = some (.ref fa) →
      ∃ fd : FuncData, (∀ (s : Shared) (u : Value), BindsTo s fd ⟨[u], []⟩ [("script", u)]) ∧ ∀ base : Heap, (K w.params).In base → base.Ns mainGlobals mg → FnOk l.prog w (K w.params) mg base (CXE l.prog w) 4 fa fd ["script"] (spLaw (K w.params))) :
    PySem.W.WalkO q loose XP YP l.row.toRowW d [] (fun f vs => PySem.call f vs) :=
  L2.walk_of (n := 63) (k := 4) (x := "script") (CX := fun w => CXE l.prog w) (sp := fun w => spLaw (K w.params)) hn (by decide) hdf ⟨rfl, by decide, by decide⟩ hY F (fun _ _ a ns hl _ hS => ⟨a, ns, rfl, hS, hl, fun _ => rfl⟩) fun _ _ _ _ _ z => noneE z
end K20
open PySem PySem.W PyProof.Rows
set_option maxRecDepth 100000 in
set_option maxHeartbeats 0 in
theorem PySem.Challenge.cw_stillheap_k20_held_only_by_holds : PySem.Challenge.rw_stillheap_k20_held_only_by.Holds := by
  w_on; o_law; k_head; (case hw => w_witness2)
  k_fill
  refine K20.walk (l := PySem.Challenge.rw_stillheap_k20_held_only_by) rfl rfl (fun w h Y => PySem.W.kIn_of Y) ?F
  case F =>
    intro w mg fa h KX G hmg
    refine' K20.all_mk KX G hmg ?a1 ?l1 ?c1 ?k1 ?a3 ?l3 ?c3 ?k3 ?a4 ?l4 ?c4 ?k4 ?a5 ?l5 ?c5 ?k5 ?a6 ?l6 ?c6 ?k6 ?a7 ?l7 ?c7 ?k7 ?a8 ?l8 ?c8 ?k8 ?a9 ?l9 ?c9 ?k9 ?a10 ?l10 ?c10 ?k10 ?a11 ?l11 ?c11 ?k11 ?a12 ?l12 ?c12 ?k12 ?a13 ?l13 ?c13 ?k13 ?a14 ?l14 ?c14 ?k14 ?a15 ?l15 ?c15 ?k15 ?a16 ?l16 ?c16 ?k16 ?z_isinstance ?z_bool ?z_int ?z_list ?z_len ?z_range ?z_sorted ?z_set ?z_enumerate ?z_dict
    (case a1 => k_is)
    (case l1 => k_is)
    (case c1 => k_is)
    (case k1 => k_is)
    (case a3 => k_is)
    (case l3 => k_is)
    (case c3 => k_is)
    (case k3 => k_is)
    (case a4 => k_is)
    (case l4 => k_is)
    (case c4 => k_is)
    (case k4 => k_is)
    (case a5 => k_is)
    (case l5 => k_is)
    (case c5 => k_is)
    (case k5 => k_is)
    (case a6 => k_is)
    (case l6 => k_is)
    (case c6 => k_is)
    (case k6 => k_is)
    (case a7 => k_is)
    (case l7 => k_is)
    (case c7 => k_is)
    (case k7 => k_is)
    (case a8 => k_is)
    (case l8 => k_is)
    (case c8 => k_is)
    (case k8 => k_is)
    (case a9 => k_is)
    (case l9 => k_is)
    (case c9 => k_is)
    (case k9 => k_is)
    (case a10 => k_is)
    (case l10 => k_is)
    (case c10 => k_is)
    (case k10 => k_is)
    (case a11 => k_is)
    (case l11 => k_is)
    (case c11 => k_is)
    (case k11 => k_is)
    (case a12 => k_is)
    (case l12 => k_is)
    (case c12 => k_is)
    (case k12 => k_is)
    (case a13 => k_is)
    (case l13 => k_is)
    (case c13 => k_is)
    (case k13 => k_is)
    (case a14 => k_is)
    (case l14 => k_is)
    (case c14 => k_is)
    (case k14 => k_is)
    (case a15 => k_is)
    (case l15 => k_is)
    (case c15 => k_is)
    (case k15 => k_is)
    (case a16 => k_is)
    (case l16 => k_is)
    (case c16 => k_is)
    (case k16 => k_is)
    (case z_isinstance => k_is)
    (case z_bool => k_is)
    (case z_int => k_is)
    (case z_list => k_is)
    (case z_len => k_is)
    (case z_range => k_is)
    (case z_sorted => k_is)
    (case z_set => k_is)
    (case z_enumerate => k_is)
    (case z_dict => k_is)
#print axioms PySem.Challenge.cw_stillheap_k20_held_only_by_holds
end
