import PyProof.Rows.All
import Wide.All
import OpenK.AllK
import Wide.FinOn
import PyProof.EqAt
import PyProof.EqKinds
import PyProof.TupleCall
import OpenK.KCls
import PyProof.ExcClass2
import PyProof.ExcBaseAll.ValueError
import PyProof.ExcArgs
import PyProof.Rows.Exc
import KE.KIsAll
import PyProof.StationsW
import PyProof.EnumFor
import PyProof.EnumStmt
import PyProof.EnumMake
import PyProof.NeKinds
import PyProof.Rows.SumAny
import KE.KDictSum
import PyProof.Rows.SortWalk
import PyProof.Rows.Range3
import PyProof.Rows.SetFrom
import KE.KEqDict
import PyProof.Rows.DictUnroll
import KE.KRevSl
import PyProof.AutoListH
import PyProof.AttrMiss
import KE.KRevIter
import PyProof.ZipIter
import PyProof.TupleIter
import PyProof.SliceStr2
import PyProof.StrWalks
import PyProof.Conv_int_bool
import PyProof.CallStr
import PyProof.TupleOfSeq
import OpenK.KTop
import KE.IntBitsLaws
import PyProof.StrCalls
import PyProof.StrCalls6
import KE.KIntText
import PyProof.StrLawsTight
import PyProof.StrLawsChain
import PyProof.Rows.ReprOcc
import PySem.Challenge.RW_stillheap_k75_no_logs_texts
section
set_option Elab.async false
set_option linter.all false
set_option maxRecDepth 100000
/-! THE HAND LAYER, for ints, bools, texts, own classes, LISTS and tuples (index, slices, in, append, pop ..), calls, loops. Paste it whole ahead of your own text; what your proof does not reach may be deleted. -/
namespace L2
open PySem PySem.Spec PyProof.Rows

/-- a key: an int or a str -/
abbrev Key := Sum Int Str
def keyIs : Key → Value → Bool
  | .inl k, v => Value.isInt k v
  | .inr x, v => Value.isStrOf x v
def keyH (w : World) : Key → Int
  | .inl k => hashInt k
  | .inr x => hashStr w x
theorem keyIs_shape : ∀ {k : Key} {v : Value}, keyIs k v = true → (∃ i t, k = Sum.inl i ∧ v = Value.int i t) ∨ (∃ x t, k = Sum.inr x ∧ v = Value.str x t)
  | .inl i, v, h => by
    obtain ⟨t, e⟩ := Value.isInt_shape (k := i) (v := v) h
    exact .inl ⟨i, t, rfl, e⟩
  | .inr x, v, h => by
    obtain ⟨t, e⟩ := Value.isStrOf_shape (x := x) (v := v) h
    exact .inr ⟨x, t, rfl, e⟩
theorem key_ll (a b : Int) : decide ((Sum.inl a : Key) = Sum.inl b) = (a == b) := by
  by_cases e : a = b
  · subst e; simp
  · have h : ¬ (Sum.inl a : Key) = Sum.inl b := fun q => e (Sum.inl.inj q)
    rw [decide_eq_false h]
    exact (beq_eq_false_iff_ne.mpr e).symm
theorem key_rr (a b : Str) : decide ((Sum.inr a : Key) = Sum.inr b) = decide (a = b) := by
  by_cases e : a = b
  · subst e; simp
  · have h : ¬ (Sum.inr a : Key) = Sum.inr b := fun q => e (Sum.inr.inj q)
    rw [decide_eq_false h, decide_eq_false e]
theorem key_lr (a : Int) (b : Str) : decide ((Sum.inl a : Key) = Sum.inr b) = false := decide_eq_false (fun q => nomatch q)
theorem key_rl (a : Str) (b : Int) : decide ((Sum.inr a : Key) = Sum.inl b) = false := decide_eq_false (fun q => nomatch q)

def mixKind (prog : Program) (w : World) : PySem.KeyKind prog w Key where
  is := keyIs
  hash := keyH w
  inj := fun v a b ha hb => by
    rcases keyIs_shape ha with ⟨i, t, rfl, rfl⟩ | ⟨x, t, rfl, rfl⟩
    · rcases keyIs_shape hb with ⟨j, u, rfl, e⟩ | ⟨y, u, rfl, e⟩
      · injection e with e1 _; rw [e1]
      · exact nomatch e
    · rcases keyIs_shape hb with ⟨j, u, rfl, e⟩ | ⟨y, u, rfl, e⟩
      · exact nomatch e
      · injection e with e1 _; rw [e1]
  byValue := fun k v h => by
    rcases keyIs_shape h with ⟨i, t, rfl, rfl⟩ | ⟨x, t, rfl, rfl⟩ <;> rfl
  pyHash := fun hv h => by
    rcases keyIs_shape hv with ⟨i, t, rfl, rfl⟩ | ⟨x, t, rfl, rfl⟩
    · exact wpAny_pyHash_int h
    · exact wpAny_pyHash_str h
  eqBool := fun hu hv h => by
    rcases keyIs_shape hu with ⟨i, t, rfl, rfl⟩ | ⟨x, t, rfl, rfl⟩
    · rcases keyIs_shape hv with ⟨j, u, rfl, rfl⟩ | ⟨y, u, rfl, rfl⟩
      · rw [key_ll] at h; exact wpAny_eqBool_int h
      · rw [key_lr] at h; exact SeqAt.EqAt.int_str i t y u _ _ _ _ h
    · rcases keyIs_shape hv with ⟨j, u, rfl, rfl⟩ | ⟨y, u, rfl, rfl⟩
      · rw [key_rl] at h; exact SeqAt.EqAt.str_int x t j u _ _ _ _ h
      · rw [key_rr] at h; exact wpAny_eqBool_str h
  «strs» := fun k x t v h => by
    rcases keyIs_shape h with ⟨i, u, rfl, e⟩ | ⟨y, u, rfl, e⟩
    · exact nomatch e
    · injection e with e1 _
      subst e1
      cases v <;> rfl

end L2

namespace L2
open PySem PySem.Spec PyProof.Rows

/-- a value, without the heap -/
inductive V where
  | non | bl (b : Bool) | int (i : Int) | str (x : Str) | byt (b : Array UInt8) | flt (b : UInt64) | ref (a : Addr) | ty (n : String)
  deriving DecidableEq

def RelV : V → Value → Prop
  | .non, u => u = Value.none
  | .bl b, u => u = Value.bool b
  | .int i, u => ∃ t, u = Value.int i t
  | .str x, u => ∃ t, u = Value.str x t
  | .byt b, u => ∃ t, u = Value.bytes b t
  | .flt b, u => ∃ t, u = Value.float b t
  | .ref a, u => u = Value.ref a
  | .ty n, u => u = Value.type n

abbrev Vals : List V → List Value → Prop := Paired RelV
theorem Vals.length {xs : List V} {us : List Value} (r : Vals xs us) : xs.length = us.length := Paired.length r
theorem Vals.get : ∀ {xs : List V} {us : List Value} {i : Nat} {x : V}, Vals xs us → xs[i]? = some x → ∃ u, us[i]? = some u ∧ RelV x u
  | _, _, _, _, .nil, e => by simp at e
  | _, _, 0, _, .cons r _, e => by simp at e; subst e; exact ⟨_, rfl, r⟩
  | _, _, i + 1, x, .cons _ t, e => by
    obtain ⟨u, h1, h2⟩ := Vals.get (i := i) (x := x) t (by simpa using e)
    exact ⟨u, by simpa using h1, h2⟩
theorem Vals.append : ∀ {xs ys : List V} {us ws : List Value}, Vals xs us → Vals ys ws → Vals (xs ++ ys) (us ++ ws)
  | _, _, _, _, .nil, s => s
  | _, _, _, _, .cons r t, s => .cons r (Vals.append t s)
theorem Vals.take : ∀ {xs : List V} {us : List Value} (n : Nat), Vals xs us → Vals (xs.take n) (us.take n)
  | _, _, 0, _ => .nil
  | _, _, _ + 1, .nil => .nil
  | _, _, n + 1, .cons r t => .cons r (Vals.take n t)
theorem Vals.drop : ∀ {xs : List V} {us : List Value} (n : Nat), Vals xs us → Vals (xs.drop n) (us.drop n)
  | _, _, 0, r => r
  | _, _, _ + 1, .nil => .nil
  | _, _, n + 1, .cons _ t => Vals.drop n t

def RelO : Option V → Option Value → Prop
  | some v, some u => RelV v u
  | none, none => True
  | _, _ => False
def KV {κ : Type} : List (κ × V) → List (κ × Value) → Prop := Paired fun (p : κ × V) (q : κ × Value) => p.1 = q.1 ∧ RelV p.2 q.2

/-- a key of a dict (00_mix): an int or a text -/
def kV : Key → V
  | .inl i => .int i
  | .inr x => .str x

/-- what stands at a tracked address -/
inductive HO where
  /-- a list -/
  | lst (xs : List V)
  /-- a tuple (never changes) -/
  | tup (xs : List V)
  /-- a dict whose keys are ints and texts; one whose keys are tuples of ints and texts (the empty one is both) -/
  | dK (kvs : List (Key × V)) | dT (kvs : List (List Key × V))
  /-- a set of ints: its members, its size -/
  | set (S : Int → Bool) (n : Nat)
  /-- an instance of the class at C, its dict at dx, its attributes -/
  | ins (C dx : Addr) (fs : List (Str × V))
  /-- the dict of the instance at x -/
  | own (x : Addr)
  /-- the dict of an exception -/
  | xd (fs : List (Str × V))
  /-- a bound method, f of x -/
  | met (f x : Addr)
  /-- a range object lo, lo + 1, .. below hi -/
  | rng (lo hi : Int)
  /-- a thing that is known to the object (the script; a dict while a loop walks it): read, never written while it is so -/
  | frz (o : Obj) (u : HO)
  /-- a code object's table -/
  | tbl (ps : Array Value)
  /-- any other thing, by what is true of its one object (a def of one's own: SetO a S n := HO.ext fun h => ..) -/
  | ext (φ : Heap → Prop)

abbrev Hp := Addr → Option HO
def upd (H : Hp) (a : Addr) (o : HO) : Hp := fun b => if b = a then some o else H b
theorem upd_same {H : Hp} {a : Addr} {o : HO} : upd H a o a = some o := by unfold upd; rw [if_pos rfl]
theorem upd_ne {H : Hp} {a b : Addr} {o : HO} (h : b ≠ a) : upd H a o b = H b := by unfold upd; rw [if_neg h]
theorem ne_of_none {H : Hp} {a b : Addr} {o : HO} (h : H a = some o) (h' : H b = none) : a ≠ b := by
  intro e; subst e; rw [h] at h'; cases h'

section
variable (P : Program) (w : World)
def ObjOk (H : Hp) (h : Heap) (a : Addr) : HO → Prop
  | .lst xs => xs.length ≤ sizeLine ∧ ∃ (its : List Value) (n : Nat), Vals xs its ∧ h.get? a = some { cls := .type "list", data := .seq its.toArray n }
  | .tup xs => xs.length ≤ sizeLine ∧ ∃ its : List Value, Vals xs its ∧ IsTup h a its.toArray
  | .dK kvs => kvs.length ≤ sizeLine ∧ (a == sysModules) = false ∧ ∃ vs, KV kvs vs ∧ h.DictOf (mixKind P w) a vs
  | .dT kvs => kvs.length ≤ sizeLine ∧ (a == sysModules) = false ∧ ∃ xs : List (List Key × Addr × Value),
      Paired (fun (p : List Key × V) (q : List Key × Addr × Value) => p.1 = q.1 ∧ H q.2.1 = some (.tup (p.1.map kV)) ∧ RelV p.2 q.2.2) kvs xs ∧
      ∃ o es ep, h.get? a = some o ∧ o.ExactDict ∧ o.data = .dict es ep ∧ es.toList = xs.map (entryOfKey (tupleKind (mixKind P w))) ∧ (xs.map (·.1)).Nodup
  | .set S n => h.SetOf (intKind P w) a S n
  | .ins C dx fs => H dx = some (.own a) ∧ fs.length ≤ 1000 ∧ dx ≠ a ∧ h.get? a = some (PySem.W.instObj C dx) ∧
      ∃ mA, h.Ns1 dx mA ∧ (∀ f, RelO (fs.lookup f) (mA f)) ∧ PySem.Within mA (fs.map (·.1))
  | .own _ => ∃ o, h.get? a = some o
  | .xd fs => ∃ mA, h.Ns1 a mA ∧ ∀ f, RelO (fs.lookup f) (mA f)
  | .rng lo hi => ∃ t u v, h.get? a = some { cls := .type "range", data := .fields #[.int lo t, .int hi u, .int 1 v] }
  | .frz o u => h.get? a = some o ∧ ObjOk H h a u
  | .tbl ps => h.get? a = some { cls := .none, data := .fields ps }
  | .met f x => h.get? a = some (PySem.W.methodObj (.ref f) (.ref x))
  | .ext φ => φ h ∧ (∃ o, h.get? a = some o) ∧ ∀ h1 h2 : Heap, φ h1 → (∀ o, h1.get? a = some o → h2.get? a = some o) → φ h2
/-- the abstract heap is held -/
def HOk (H : Hp) (h : Heap) : Prop := ∀ a o, H a = some o → ObjOk P w H h a o
end

section
variable {P : Program} {w : World} {H H' : Hp} {h h' : Heap} {a : Addr} {o : HO}
theorem ObjOk.lt (x : ObjOk P w H h a o) : a < h.objs.size := by
  cases o with
  | lst xs => obtain ⟨_, _, _, _, e⟩ := x; exact Heap.lt_size e
  | tup xs => obtain ⟨_, _, _, p⟩ := x; exact p.lt
  | dK kvs => obtain ⟨_, _, _, _, o, _, _, e, _⟩ := x; exact Heap.lt_size e
  | dT kvs => obtain ⟨_, _, _, _, o, _, _, e, _⟩ := x; exact Heap.lt_size e
  | set S n => obtain ⟨o, _, _, _, e, _⟩ := x; exact Heap.lt_size e
  | ins C dx fs => obtain ⟨_, _, _, e, _⟩ := x; exact Heap.lt_size e
  | own y => obtain ⟨_, e⟩ := x; exact Heap.lt_size e
  | xd fs => obtain ⟨_, ⟨_, _, _, e, _⟩, _⟩ := x; exact Heap.lt_size e
  | rng lo hi => obtain ⟨_, _, _, e⟩ := x; exact Heap.lt_size e
  | frz ob u => obtain ⟨e, _⟩ := x; exact Heap.lt_size e
  | tbl ps => exact Heap.lt_size (show h.get? a = some _ from x)
  | met f y => exact Heap.lt_size (show h.get? a = some _ from x)
  | ext φ => obtain ⟨_, ⟨_, e⟩, _⟩ := x; exact Heap.lt_size e
theorem Paired.mapP {α β : Type} {F G : α → β → Prop} : ∀ {l₁ : List α} {l₂ : List β}, Paired F l₁ l₂ → (∀ a b, F a b → G a b) → Paired G l₁ l₂
  | _, _, .nil, _ => .nil
  | _, _, .cons r t, f => .cons (f _ _ r) (Paired.mapP t f)
/-- what an object's description leans on: its own object, its own dict, the tuples -/
theorem ObjOk.stay (x : ObjOk P w H h a o) (k : ∀ b u, (b = a ∨ H b = some (.own a)) → h.get? b = some u → h'.get? b = some u)
    (ho : ∀ b, H b = some (.own a) → H' b = some (.own a)) (ht : ∀ b xs, H b = some (.tup xs) → H' b = some (.tup xs)) : ObjOk P w H' h' a o := by
  induction o with
  | lst xs => obtain ⟨z, its, n, r, e⟩ := x; exact ⟨z, its, n, r, k _ _ (.inl rfl) e⟩
  | tup xs => obtain ⟨z, its, r, ob, e, c⟩ := x; exact ⟨z, its, r, ob, k _ _ (.inl rfl) e, c⟩
  | dK kvs => obtain ⟨z, y, vs, r, ob, es, ep, e, c⟩ := x; exact ⟨z, y, vs, r, ob, es, ep, k _ _ (.inl rfl) e, c⟩
  | dT kvs =>
    obtain ⟨z, y, xs, r, ob, es, ep, e, c⟩ := x
    exact ⟨z, y, xs, Paired.mapP r fun p q z => ⟨z.1, ht _ _ z.2.1, z.2.2⟩, ob, es, ep, k _ _ (.inl rfl) e, c⟩
  | set S n => obtain ⟨ob, es, ep, t, e, c⟩ := x; exact ⟨ob, es, ep, t, k _ _ (.inl rfl) e, c⟩
  | ins C dx fs =>
    obtain ⟨d, z, ne, e, mA, ⟨od, es, ep, e2, c⟩, r⟩ := x
    exact ⟨ho _ d, z, ne, k _ _ (.inl rfl) e, mA, ⟨od, es, ep, k _ _ (.inr d) e2, c⟩, r⟩
  | own y => obtain ⟨ob, e⟩ := x; exact ⟨ob, k _ _ (.inl rfl) e⟩
  | xd fs => obtain ⟨mA, ⟨od, es, ep, e, c⟩, r⟩ := x; exact ⟨mA, ⟨od, es, ep, k _ _ (.inl rfl) e, c⟩, r⟩
  | rng lo hi => obtain ⟨t, u, v, e⟩ := x; exact ⟨t, u, v, k _ _ (.inl rfl) e⟩
  | frz ob u ih => obtain ⟨e, q⟩ := x; exact ⟨k _ _ (.inl rfl) e, ih q⟩
  | tbl ps =>
    have e : h.get? a = some { cls := .none, data := .fields ps } := x
    show h'.get? a = some { cls := .none, data := .fields ps }
    exact k a _ (.inl rfl) e
  | met f y =>
    have e : h.get? a = some (PySem.W.methodObj (.ref f) (.ref y)) := x
    show h'.get? a = some (PySem.W.methodObj (.ref f) (.ref y))
    exact k a _ (.inl rfl) e
  | ext φ => obtain ⟨p, ⟨o, e⟩, st⟩ := x; exact ⟨st _ _ p fun o q => k _ _ (.inl rfl) q, ⟨o, k _ _ (.inl rfl) e⟩, st⟩
theorem HOk.lt (x : HOk P w H h) (e : H a = some o) : a < h.objs.size := (x a o e).lt
theorem HOk.fresh (x : HOk P w H h) (e : h.objs.size ≤ a) : H a = none := by
  cases q : H a with
  | none => rfl
  | some u => exact absurd (Nat.lt_of_lt_of_le (x.lt q) e) (Nat.lt_irrefl _)
/-- every object of the heap is kept -/
theorem HOk.kept (x : HOk P w H h) (k : ∀ b u, h.get? b = some u → h'.get? b = some u) : HOk P w H h' := fun a o e =>
  (x a o e).stay (fun b u _ q => k b u q) (fun _ q => q) fun _ _ q => q
/-- a new object is laid and tracked -/
theorem HOk.laid (x : HOk P w H h) (k : ∀ b u, h.get? b = some u → h'.get? b = some u) (hp : h.objs.size ≤ a) (new : ObjOk P w (upd H a o) h' a o) : HOk P w (upd H a o) h' := fun b u e => by
  have hn := x.fresh hp
  by_cases hb : b = a
  · subst hb; rw [upd_same] at e; cases e; exact new
  · rw [upd_ne hb] at e
    exact (x b u e).stay (fun c v _ q => k c v q) (fun c q => by rw [upd_ne (ne_of_none q hn)]; exact q) fun c xs q => by rw [upd_ne (ne_of_none q hn)]; exact q
end

/-- what may be read as u: it is u, or a known u -/
def Rd (H : Hp) (a : Addr) (u : HO) : Prop := H a = some u ∨ ∃ o, H a = some (.frz o u)
theorem Rd.ok {P : Program} {w : World} {H : Hp} {h : Heap} {a : Addr} {u : HO} (r : Rd H a u) (x : HOk P w H h) : ObjOk P w H h a u := by
  rcases r with r | ⟨o, r⟩
  · exact x a u r
  · obtain ⟨_, q⟩ := x a _ r
    exact q
/-- what may be written -/
def Mut : Option HO → Prop
  | some (.lst _) => True
  | some (.dK _) => True
  | some (.dT _) => True
  | some (.set _ _) => True
  | some (.ins _ _ _) => True
  | some (.ext _) => True
  | _ => False
section
variable {P : Program} {w : World} {H : Hp} {h h' : Heap} {x e : Addr} {o' : HO}
/-- the object at e is changed: x itself, or the dict of the instance x -/
theorem HOk.write (ok : HOk P w H h) (mu : Mut (H x)) (he : e = x ∨ H e = some (.own x)) (k : ∀ b u, b ≠ e → h.get? b = some u → h'.get? b = some u) (heo : ∃ u, h'.get? e = some u)
    (new : ObjOk P w (upd H x o') h' x o') : HOk P w (upd H x o') h' := fun b u q => by
  have nown : ∀ c y, H c = some (.own y) → c ≠ x := fun c y r z => by subst z; rw [r] at mu; exact mu
  have ntup : ∀ c xs, H c = some (.tup xs) → c ≠ x := fun c xs r z => by subst z; rw [r] at mu; exact mu
  by_cases hb : b = x
  · subst hb; rw [upd_same] at q; cases q; exact new
  · rw [upd_ne hb] at q
    by_cases hbe : b = e
    · have q' : H b = some (.own x) := by
        rcases he with z | z
        · exact absurd (hbe.trans z) hb
        · rw [hbe]; exact z
      rw [q] at q'; cases q'
      obtain ⟨v, hv⟩ := heo
      exact ⟨v, by rw [hbe]; exact hv⟩
    · refine (ok b u q).stay (fun c v hc r => k c v ?_ r) (fun c r => by rw [upd_ne (nown c b r)]; exact r) fun c xs r => by rw [upd_ne (ntup c xs r)]; exact r
      rcases hc with rfl | hc
      · exact hbe
      · rintro rfl
        rcases he with z | z
        · exact nown c b hc z
        · rw [hc] at z; cases z; exact hb rfl
end

/-! ### kept unless tracked; of the frames at fs (the callers') the slots may change (an exception that passes writes there); of the records at ex (iterators) nothing is said -/
structure Un (fs ex : List Addr) (H H' : Hp) (h h' : Heap) : Prop where
  keep : ∀ b o, h.get? b = some o → H b = none → b ∉ fs → b ∉ ex → h'.get? b = some o
  slot : ∀ b o, h.get? b = some o → H b = none → b ∈ fs → b ∉ ex → ∃ sl, h'.get? b = some { o with slots := sl }
  free : ∀ b o, h.get? b = some o → H b = none → b ∉ ex → H' b = none
  there : ∀ b o, h.get? b = some o → b ∉ ex → ∃ o', h'.get? b = some o'
  tups : ∀ b xs, H b = some (.tup xs) → H' b = some (.tup xs)
  frzs : ∀ b o u, H b = some (.frz o u) → H' b = some (.frz o u)
  tbls : ∀ b ps, H b = some (.tbl ps) → ∃ more, H' b = some (.tbl (ps ++ more))
section
variable {fs fs' ex ex' : List Addr} {H H1 H2 : Hp} {h h1 h2 h' : Heap} {a x e : Addr} {o : HO}
theorem Un.any (u : Un fs ex H H1 h h1) {b : Addr} {ob : Obj} (q : h.get? b = some ob) (n : H b = none) (hx : b ∉ ex) : ∃ sl, h1.get? b = some { ob with slots := sl } := by
  by_cases hb : b ∈ fs
  · exact u.slot b ob q n hb hx
  · exact ⟨ob.slots, u.keep b ob q n hb hx⟩
theorem Un.kept (k : ∀ b u, h.get? b = some u → h'.get? b = some u) : Un fs ex H H h h' :=
  ⟨fun b ob q _ _ _ => k b ob q, fun b ob q _ _ _ => ⟨ob.slots, k b ob q⟩, fun _ _ _ n _ => n, fun b ob q _ => ⟨ob, k b ob q⟩, fun _ _ q => q, fun _ _ _ q => q, fun _ ps q => ⟨#[], by rw [q]; simp⟩⟩
theorem Un.refl : Un fs ex H H h h := Un.kept fun _ _ q => q
theorem Un.laid (k : ∀ b u, h.get? b = some u → h'.get? b = some u) (hp : h.objs.size ≤ a) (hn : H a = none) : Un fs ex H (upd H a o) h h' where
  keep := fun b u q _ _ _ => k b u q
  slot := fun b u q _ _ _ => ⟨u.slots, k b u q⟩
  free := fun b u q n _ => by rw [upd_ne (Nat.ne_of_lt (Nat.lt_of_lt_of_le (Heap.lt_size q) hp))]; exact n
  there := fun b u q _ => ⟨u, k b u q⟩
  tups := fun b xs q => by rw [upd_ne (ne_of_none q hn)]; exact q
  frzs := fun b u xs q => by rw [upd_ne (ne_of_none q hn)]; exact q
  tbls := fun b ps q => ⟨#[], by rw [upd_ne (ne_of_none q hn), q]; simp⟩
theorem Un.write (mu : Mut (H x)) (he : e = x ∨ H e = some (.own x)) (k : ∀ b u, b ≠ e → h.get? b = some u → h'.get? b = some u) (heo : ∃ u, h'.get? e = some u) : Un fs ex H (upd H x o) h h' := by
  have hx : ∀ b, H b = none → b ≠ x := fun b n z => by subst z; rw [n] at mu; exact mu
  have hb : ∀ b, H b = none → b ≠ e := fun b n z => by
    subst z
    rcases he with r | r
    · exact hx b n r
    · rw [n] at r; cases r
  have hm : ∀ b u, H b = some u → ¬ Mut (some u) → b ≠ x := fun b u q nm z => by subst z; rw [q] at mu; exact nm mu
  refine ⟨fun b u q n _ _ => k b u (hb b n) q, fun b u q n _ _ => ⟨u.slots, k b u (hb b n) q⟩, fun b u q n _ => by rw [upd_ne (hx b n)]; exact n, fun b u q _ => ?_,
    fun b xs q => by rw [upd_ne (hm b _ q fun z => z)]; exact q, fun b u xs q => by rw [upd_ne (hm b _ q fun z => z)]; exact q, fun b ps q => ⟨#[], by rw [upd_ne (hm b _ q fun z => z), q]; simp⟩⟩
  by_cases hbe : b = e
  · subst hbe; exact heo
  · exact ⟨u, k b u hbe q⟩
end

/-! ### the heap without what is tracked -/
def trk (h : Heap) (H : Hp) : List Addr := (List.range h.objs.size).filter fun a => (H a).isSome
def hidT (h : Heap) (H : Hp) : Heap := PySem.W.hideAll h (trk h H)
theorem hidT_size (h : Heap) (H : Hp) : (hidT h H).objs.size = h.objs.size := PySem.W.hideAll_size _ _
theorem hidT_get {h : Heap} {H : Hp} {b : Addr} {o : Obj} (e : h.get? b = some o) (n : H b = none) : (hidT h H).get? b = some o :=
  PySem.W.hideAll_get _ e fun hm => by
    have q : (H b).isSome = true := (List.mem_filter.mp hm).2
    rw [n] at q; simp at q
theorem of_hidT {h : Heap} {H : Hp} {b : Addr} {o : Obj} (e : (hidT h H).get? b = some o) : h.get? b = some o ∧ H b = none := by
  have e' : h.get? b = some o := PySem.W.of_hideAll (trk h H) e
  refine ⟨e', ?_⟩
  cases q : H b with
  | none => rfl
  | some x =>
    have hm : b ∈ trk h H := List.mem_filter.mpr ⟨List.mem_range.mpr (Heap.lt_size e'), by simp [q]⟩
    have z : (hidT h H).get? b = none := PySem.W.hideAll_none (trk h H) hm
    rw [z] at e; cases e

/-! ### OpenK's ledger, filled with every new object but one -/
end L2

namespace L2
open PySem PySem.Spec PyProof.Rows

/-- the module's facts, over the base: the heap at the law's entry without what is tracked there -/
structure Mod (K : PySem.W.Frag) (mg : Str → Option Value) (base : Heap) : Prop where
  kin : K.In base
  glob : base.Ns mainGlobals mg
  blt : ∃ mb, base.Ns builtinsNs mb ∧ ∀ x : Str, x ≠ "__name__" → mb x = bootBuiltins x
  nolimit : base.NoLimit

/-- the context: a def's body (or a comprehension's block) running. base: fixed through the whole law; s₀, H₀: the entry; outer: the frames whose slots others may change (a def's callers); stack: all frames that run;
   ex: iterators that were made ahead of the entry and are walked here (a comprehension's); fn: the names whose cells were made at the entry (a def: all; a comprehension's block: its own); calm: not within an except suite; pn: pins that every state bears; xe: what is wanted of an exception that leaves the code -/
structure Cx where
  prog : Program
  w : World
  K : PySem.W.Frag
  mg : Str → Option Value
  base : Heap
  A : Around
  N : List Str
  s₀ : Shared
  H₀ : Hp
  env : Env
  outer : List Env
  stack : List Env
  ex : List Addr
  fn : Str → Bool
  calm : Bool
  pn : List (Addr × Obj)
  xe : Value → Shared → Prop
/-- the callers' frames -/
def frs (l : List Env) : List Addr := l.filterMap (·.frame)
abbrev Cx.fs (X : Cx) : List Addr := frs X.outer

def Vis (sc : Scope) (x : Str) : Prop := sc.names.lookup x = some .local ∨ sc.names.lookup x = some .cell ∨ sc.names.lookup x = some .free
def Loc (sc : Scope) (x : Str) : Prop := sc.names.lookup x = some .local ∨ sc.names.lookup x = some .cell
def Look (env : Env) (h : Heap) (m : Str → Option Value) (x : Str) (u : Value) : Prop :=
  (env.kindOf x = some .local ∧ m x = some u) ∨ ((env.kindOf x = some .cell ∨ env.kindOf x = some .free) ∧ ∃ c, env.cells.lookup x = some c ∧ h.IsCell c (some u))

structure Cx.Ok (X : Cx) : Prop where
  mod : Mod X.K X.mg X.base
  kind : X.env.scope.kind = .function
  glob : X.env.globals = mainGlobals
  blt : X.env.builtins = builtinsNs
  above : X.s₀.heap.objs.size ≤ X.env.locals
  inj : ∀ x y c, X.env.cells.lookup x = some c → X.env.cells.lookup y = some c → x = y
  has : ∀ x, (X.env.kindOf x = some .cell ∨ X.env.kindOf x = some .free) → ∃ c, X.env.cells.lookup x = some c
  cab : ∀ x c, X.fn x = true → X.env.cells.lookup x = some c → X.s₀.heap.objs.size ≤ c
  hd : X.calm = true → X.A.handled = none
  frames : X.A.frames = some X.stack
  stk : X.stack = X.outer ∨ (X.stack = X.env :: X.outer ∧ X.env.frame = some X.env.locals)
  exf : ∀ b ∈ X.ex, b ≠ X.env.locals ∧ ∀ x c, X.env.cells.lookup x = some c → c ≠ b
  bs : ∀ b o, X.base.get? b = some o → X.s₀.heap.get? b = some o ∧ X.H₀ b = none
  bsz : X.base.objs.size ≤ X.s₀.heap.objs.size
  noex : ∀ b o, X.base.get? b = some o → b ∉ X.ex
  exfs : ∀ b ∈ X.ex, b ∉ X.fs
  funs : X.s₀.heap.FunFrames X.base X.outer
  frf : ∀ b ∈ X.fs, X.H₀ b = none

structure Inv (X : Cx) (pins : List (Addr × Obj)) (σ : List (Option V)) (H : Hp) (s : Shared) : Prop where
  ok : X.Ok
  os : s.os = X.s₀.os
  bare : AllBare s.gens
  base : Un X.fs X.ex X.H₀ H X.s₀.heap s.heap
  loc : ∃ m, s.heap.Ns X.env.locals m ∧ ∀ (i : Nat) (x : Str) (v : V), X.N[i]? = some x → σ[i]? = some (some v) → Vis X.env.scope x → ∃ u, RelV v u ∧ Look X.env s.heap m x u
  cell : ∀ x c, X.env.cells.lookup x = some c → ∃ v, s.heap.IsCell c v
  free : H X.env.locals = none
  freeC : ∀ x c, X.env.cells.lookup x = some c → H c = none
  pin : ∀ p ∈ X.pn ++ pins, s.heap.get? p.1 = some p.2 ∧ H p.1 = none ∧ p.1 ≠ X.env.locals ∧ p.1 ∉ X.fs ∧ ∀ v, p.2.data ≠ .cell v
  hok : HOk X.prog X.w H s.heap
  len : σ.length = X.N.length

section
variable {X : Cx} {pins : List (Addr × Obj)} {σ : List (Option V)} {H H' : Hp} {s : Shared} {h' : Heap}

theorem Cx.Ok.nofr (ok : X.Ok) {b : Addr} {o : Obj} (e : X.base.get? b = some o) : b ∉ X.fs := fun hb => by
  have := (ok.funs.mem hb).1
  rw [e] at this; cases this
theorem Inv.bs (I : Inv X pins σ H s) : ∀ b o, X.base.get? b = some o → s.heap.get? b = some o ∧ H b = none := fun b o e =>
  ⟨I.base.keep b o (I.ok.bs b o e).1 (I.ok.bs b o e).2 (I.ok.nofr e) (I.ok.noex b o e), I.base.free b o (I.ok.bs b o e).1 (I.ok.bs b o e).2 (I.ok.noex b o e)⟩
theorem Inv.bk (I : Inv X pins σ H s) : ∀ b o, X.base.get? b = some o → s.heap.get? b = some o := fun b o e => (I.bs b o e).1
theorem Inv.mod (I : Inv X pins σ H s) : Mod X.K X.mg X.base := I.ok.mod
theorem Inv.kIn (I : Inv X pins σ H s) : X.K.In s.heap := I.ok.mod.kin.keeps I.bk
theorem Inv.lt (I : Inv X pins σ H s) : X.env.locals < s.heap.objs.size := let ⟨_, hn, _⟩ := I.loc; hn.lt
theorem Inv.sz (I : Inv X pins σ H s) : X.s₀.heap.objs.size ≤ s.heap.objs.size := Nat.le_trans I.ok.above (Nat.le_of_lt I.lt)
theorem Inv.nofs (I : Inv X pins σ H s) {a : Addr} (h : s.heap.objs.size ≤ a) : a ∉ X.fs := fun hb => by
  obtain ⟨_, o, ho, _⟩ := I.ok.funs.mem hb
  exact absurd (Nat.lt_of_lt_of_le (Heap.lt_size ho) (Nat.le_trans I.sz h)) (Nat.lt_irrefl _)
theorem Inv.cne (I : Inv X pins σ H s) : ∀ x c, X.env.cells.lookup x = some c → c ≠ X.env.locals := fun x c e z => by
  obtain ⟨v, o, ho, hd⟩ := I.cell x c e
  obtain ⟨m, ⟨o', es, ep, ho', hd', _⟩, _⟩ := I.loc
  rw [z, ho'] at ho; cases ho; rw [hd'] at hd; cases hd
theorem Inv.funs (I : Inv X pins σ H s) : s.heap.FunFrames X.base X.outer := by
  have all : ∀ (l : List Env), (∀ b ∈ frs l, b ∈ X.fs) → X.s₀.heap.FunFrames X.base l → s.heap.FunFrames X.base l := by
    intro l
    induction l with
    | nil => intro _ _; trivial
    | cons env r ih =>
      intro hs hl
      obtain ⟨hk, ⟨L, o, hf, hn, ho, hd⟩, hr⟩ := hl
      have hL : L ∈ X.fs := hs L (by unfold frs; rw [List.filterMap_cons, hf]; exact List.mem_cons_self)
      obtain ⟨sl, e⟩ := I.base.slot L o ho (I.ok.frf L hL) hL fun z => I.ok.exfs L z hL
      exact ⟨hk, ⟨L, _, hf, hn, e, hd⟩, ih (fun b hb => hs b (by unfold frs; rw [List.filterMap_cons, hf]; exact List.mem_cons_of_mem _ hb)) hr⟩
  exact all X.outer (fun _ hb => hb) I.ok.funs

/-- the frames that run, for a call -/
theorem Inv.stack (I : Inv X pins σ H s) : s.heap.FunFrames X.base X.stack := by
  rcases I.ok.stk with e | ⟨e, hf⟩
  · rw [e]; exact I.funs
  · rw [e]
    obtain ⟨m, hn, _⟩ := I.loc
    refine .cons (by rw [I.ok.kind]; decide) hf hn ?_ I.funs
    exact Heap.get?_none_of_le (Nat.le_trans I.ok.bsz I.ok.above)
theorem Inv.stkSub (I : Inv X pins σ H s) : ∀ b ∈ frs X.stack, b ∈ X.env.locals :: X.fs := fun b hb => by
  rcases I.ok.stk with e | ⟨e, hf⟩
  · rw [e] at hb; exact List.mem_cons_of_mem _ hb
  · rw [e] at hb
    unfold frs at hb
    rw [List.filterMap_cons, hf] at hb
    exact hb
theorem Inv.stkFree (I : Inv X pins σ H s) : ∀ b ∈ frs X.stack, H b = none := fun b hb => by
  rcases List.mem_cons.mp (I.stkSub b hb) with e | hb
  · rw [e]; exact I.free
  · obtain ⟨_, o, ho, _⟩ := I.ok.funs.mem hb
    exact I.base.free b o ho (I.ok.frf b hb) fun z => I.ok.exfs b z hb

/-- THE STEP: the untracked objects but the frame and the records at ch are kept (the callers' frames up to slots), the frame's map is kept, the new abstract heap is held -/
theorem Inv.step {g' : Array GenState} {t' : Nat} {d' : Drawn} {ch : List Addr} (I : Inv X pins σ H s)
    (hch : ∀ b ∈ ch, (b ∈ X.ex ∨ X.s₀.heap.objs.size ≤ b) ∧ b ≠ X.env.locals ∧ (∀ x c, X.env.cells.lookup x = some c → c ≠ b) ∧ ∀ p ∈ X.pn ++ pins, p.1 ≠ b)
    (keep : ∀ b o, b ≠ X.env.locals → b ∉ X.fs → b ∉ ch → s.heap.get? b = some o → H b = none → h'.get? b = some o)
    (slot : ∀ b o, b ≠ X.env.locals → b ∈ X.fs → b ∉ ch → s.heap.get? b = some o → H b = none → ∃ sl, h'.get? b = some { o with slots := sl }) (free : ∀ b o, b ∉ ch → s.heap.get? b = some o → H b = none → H' b = none)
    (there : ∀ b o, b ∉ ch → s.heap.get? b = some o → ∃ o', h'.get? b = some o')
    (tups : ∀ b xs, H b = some (.tup xs) → H' b = some (.tup xs)) (frzs : ∀ b o u, H b = some (.frz o u) → H' b = some (.frz o u)) (tbls : ∀ b ps, H b = some (.tbl ps) → ∃ more, H' b = some (.tbl (ps ++ more)))
    (ns : ∀ m, s.heap.Ns X.env.locals m → h'.Ns X.env.locals m) (hok : HOk X.prog X.w H' h') (hg : AllBare g') :
    Inv X pins σ H' { s with heap := h', gens := g', drawn := d', toks := t' } := by
  have neL : ∀ b o, X.s₀.heap.get? b = some o → b ≠ X.env.locals := fun b o e => Nat.ne_of_lt (Nat.lt_of_lt_of_le (Heap.lt_size e) I.ok.above)
  have neC : ∀ b o, X.s₀.heap.get? b = some o → b ∉ X.ex → b ∉ ch := fun b o e hx hb => by
    rcases (hch b hb).1 with z | z
    · exact hx z
    · exact absurd (Nat.lt_of_lt_of_le (Heap.lt_size e) z) (Nat.lt_irrefl _)
  have cellK : ∀ x c, X.env.cells.lookup x = some c → ∀ v, s.heap.IsCell c v → h'.IsCell c v := fun x c e v ⟨o, ho, hd⟩ => by
    have nch : c ∉ ch := fun z => (hch c z).2.2.1 x c e rfl
    by_cases hc : c ∈ X.fs
    · obtain ⟨sl, q⟩ := slot c o (I.cne x c e) hc nch ho (I.freeC x c e)
      exact ⟨_, q, hd⟩
    · exact ⟨o, keep c o (I.cne x c e) hc nch ho (I.freeC x c e), hd⟩
  refine ⟨I.ok, I.os, hg, ⟨fun b o e n hb hx => ?_, fun b o e n hb hx => ?_, fun b o e n hx => ?_, fun b o e hx => ?_, fun b xs e => tups b xs (I.base.tups b xs e), fun b o xs e => frzs b o xs (I.base.frzs b o xs e), fun b ps e => ?_⟩, ?_, fun x c e => ?_, ?_, fun x c e => ?_, fun p hp => ?_, hok, I.len⟩
  · exact keep b o (neL b o e) hb (neC b o e hx) (I.base.keep b o e n hb hx) (I.base.free b o e n hx)
  · obtain ⟨sl, e1⟩ := I.base.slot b o e n hb hx
    obtain ⟨sl', e2⟩ := slot b _ (neL b o e) hb (neC b o e hx) e1 (I.base.free b o e n hx)
    exact ⟨sl', e2⟩
  · obtain ⟨o', e1⟩ := I.base.there b o e hx
    exact free b o' (neC b o e hx) e1 (I.base.free b o e n hx)
  · obtain ⟨o', e1⟩ := I.base.there b o e hx
    exact there b o' (neC b o e hx) e1
  · obtain ⟨m1, e1⟩ := I.base.tbls b ps e
    obtain ⟨m2, e2⟩ := tbls b _ e1
    exact ⟨m1 ++ m2, by rw [e2, Array.append_assoc]⟩
  · obtain ⟨m, hn, hl⟩ := I.loc
    refine ⟨m, ns m hn, fun i x v e1 e2 e3 => ?_⟩
    obtain ⟨u, r, l⟩ := hl i x v e1 e2 e3
    refine ⟨u, r, ?_⟩
    rcases l with l | ⟨k, c, e, z⟩
    · exact .inl l
    · exact .inr ⟨k, c, e, cellK x c e _ z⟩
  · obtain ⟨v, z⟩ := I.cell x c e
    exact ⟨v, cellK x c e v z⟩
  · obtain ⟨m, ⟨o, _, _, ho, _⟩, _⟩ := I.loc
    exact free _ o (fun z => (hch _ z).2.1 rfl) ho I.free
  · obtain ⟨v, o, ho, hd⟩ := I.cell x c e
    exact free c o (fun z => (hch c z).2.2.1 x c e rfl) ho (I.freeC x c e)
  · obtain ⟨e, n, ne, nf, d⟩ := I.pin p hp
    have nch : p.1 ∉ ch := fun z => (hch p.1 z).2.2.2 p hp rfl
    exact ⟨keep p.1 p.2 ne nf nch e n, free p.1 p.2 nch e n, ne, nf, d⟩
/-- .. where the frame's own object is kept too -/
theorem Inv.un {t' : Nat} (I : Inv X pins σ H s) (u : Un X.fs [] H H' s.heap h') (hok : HOk X.prog X.w H' h') : Inv X pins σ H' { s with heap := h', toks := t' } := by
  obtain ⟨m, ⟨o, es, ep, ho, r⟩, _⟩ := id I.loc
  obtain ⟨sl, hL⟩ := u.any ho I.free (by simp)
  exact I.step (g' := s.gens) (d' := s.drawn) (ch := []) (fun _ z => nomatch z) (fun b o _ hb _ e n => u.keep b o e n hb (by simp)) (fun b o _ hb _ e n => u.slot b o e n hb (by simp)) (fun b o _ e n => u.free b o e n (by simp)) (fun b o _ e => u.there b o e (by simp)) u.tups u.frzs u.tbls (fun m' hm => by
    obtain ⟨o', es', ep', ho', r'⟩ := hm
    rw [ho] at ho'; cases ho'
    exact ⟨_, es', ep', hL, r'⟩) hok I.bare
/-- behind a call (or a comprehension's block): the slots of this frame may have changed too, the records at ch may have turned -/
theorem Inv.call {g' : Array GenState} {t' : Nat} {d' : Drawn} {ch : List Addr} (I : Inv X pins σ H s) (u : Un (frs X.stack) ch H H' s.heap h') (hok : HOk X.prog X.w H' h') (hg : AllBare g')
    (hch : ∀ b ∈ ch, (b ∈ X.ex ∨ X.s₀.heap.objs.size ≤ b) ∧ b ≠ X.env.locals ∧ (∀ x c, X.env.cells.lookup x = some c → c ≠ b) ∧ ∀ p ∈ X.pn ++ pins, p.1 ≠ b) :
    Inv X pins σ H' { s with heap := h', gens := g', drawn := d', toks := t' } := by
  obtain ⟨m, ⟨o, es, ep, ho, r⟩, _⟩ := id I.loc
  obtain ⟨sl, hL⟩ := u.any ho I.free fun z => (hch _ z).2.1 rfl
  exact I.step (ch := ch) hch (fun b o hL hb hc e n => u.keep b o e n (fun z => (List.mem_cons.mp (I.stkSub b z)).elim hL hb) hc) (fun b o _ _ hc e n => u.any e n hc) (fun b o hc e n => u.free b o e n hc) (fun b o hc e => u.there b o e hc) u.tups u.frzs u.tbls (fun m' hm => by
    obtain ⟨o', es', ep', ho', r'⟩ := hm
    rw [ho] at ho'; cases ho'
    exact ⟨_, es', ep', hL, r'⟩) hok hg
/-- an untracked record of ours (an iterator) has turned -/
theorem Inv.turned {t' : Nat} {it : Addr} (I : Inv X pins σ H s) (k : ∀ b o, b ≠ it → s.heap.get? b = some o → h'.get? b = some o) (hn : H it = none) (hL : it ≠ X.env.locals)
    (h1 : it ∈ X.ex ∨ X.s₀.heap.objs.size ≤ it) (h2 : ∀ x c, X.env.cells.lookup x = some c → c ≠ it) (h3 : ∀ p ∈ X.pn ++ pins, p.1 ≠ it) : Inv X pins σ H { s with heap := h', toks := t' } := by
  have nit : ∀ b u, H b = some u → b ≠ it := fun b u e z => by rw [z, hn] at e; cases e
  refine I.step (g' := s.gens) (d' := s.drawn) (ch := [it]) (fun b hb => ?_) (fun b o _ _ hc e _ => k b o (fun z => hc (by simp [z])) e) (fun b o _ _ hc e _ => ⟨o.slots, k b o (fun z => hc (by simp [z])) e⟩) (fun _ _ _ _ n => n)
    (fun b o hc e => ⟨o, k b o (fun z => hc (by simp [z])) e⟩) (fun _ _ e => e) (fun _ _ _ e => e) (fun b ps e => ⟨#[], by rw [e]; simp⟩) (fun m hm => ?_) (fun b u e => ?_) I.bare
  · have e : b = it := by simpa using hb
    subst e
    exact ⟨h1, hL, h2, h3⟩
  · obtain ⟨o, es, ep, ho, r⟩ := hm
    exact ⟨o, es, ep, k _ o (Ne.symm hL) ho, r⟩
  · refine (I.hok b u e).stay (fun c v hc q => k c v ?_ q) (fun _ q => q) fun _ _ q => q
    rcases hc with z | z
    · rw [z]; exact nit b u e
    · exact nit c _ z
theorem Inv.tok (I : Inv X pins σ H s) (t : Nat) : Inv X pins σ H { s with toks := t } := I.un (h' := s.heap) (t' := t) Un.refl I.hok
/-- all objects kept -/
theorem Inv.kept {t' : Nat} (I : Inv X pins σ H s) (k : ∀ b u, s.heap.get? b = some u → h'.get? b = some u) : Inv X pins σ H { s with heap := h', toks := t' } := I.un (Un.kept k) (I.hok.kept k)
/-- a new object laid and tracked -/
theorem Inv.laid {a : Addr} {o : HO} {t' : Nat} (I : Inv X pins σ H s) (k : ∀ b u, s.heap.get? b = some u → h'.get? b = some u) (hp : s.heap.objs.size ≤ a) (new : ObjOk X.prog X.w (upd H a o) h' a o) :
    Inv X pins σ (upd H a o) { s with heap := h', toks := t' } := I.un (Un.laid k hp (I.hok.fresh hp)) (I.hok.laid k hp new)
/-- an object written -/
theorem Inv.write {x e : Addr} {o : HO} {t' : Nat} (I : Inv X pins σ H s) (mu : Mut (H x)) (he : e = x ∨ H e = some (.own x)) (k : ∀ b u, b ≠ e → s.heap.get? b = some u → h'.get? b = some u) (heo : ∃ u, h'.get? e = some u)
    (new : ObjOk X.prog X.w (upd H x o) h' x o) : Inv X pins σ (upd H x o) { s with heap := h', toks := t' } := I.un (Un.write mu he k heo) (I.hok.write mu he k heo new)
theorem Inv.pins_of {pins' : List (Addr × Obj)} (I : Inv X pins σ H s) (h : ∀ p ∈ pins', s.heap.get? p.1 = some p.2 ∧ H p.1 = none ∧ p.1 ≠ X.env.locals ∧ p.1 ∉ X.fs ∧ ∀ v, p.2.data ≠ .cell v) : Inv X pins' σ H s :=
  ⟨I.ok, I.os, I.bare, I.base, I.loc, I.cell, I.free, I.freeC, fun p hp => (List.mem_append.mp hp).elim (fun z => I.pin p (List.mem_append_left _ z)) (h p), I.hok, I.len⟩

theorem nodup_ix {N : List Str} (hN : N.Nodup) {i j : Nat} {x : Str} (a : N[i]? = some x) (b : N[j]? = some x) : i = j := by
  obtain ⟨h1, e1⟩ := List.getElem?_eq_some_iff.mp a
  obtain ⟨h2, e2⟩ := List.getElem?_eq_some_iff.mp b
  exact (List.getElem_inj hN).mp (e1.trans e2.symm)

/-- a name is stored; what changed -/
theorem store_ok2 {M : Model} {A : Around} {E : Value → Shared → Prop} {i : Nat} {x : Str} {v : V} {u : Value} {Q : Unit → Shared → Prop} (I : Inv X pins σ H s) (hN : X.N.Nodup) (hi : X.N[i]? = some x) (hx : Loc X.env.scope x) (r : RelV v u)
    (h : ∀ s', Inv X pins (σ.set i (some v)) H s' → (∃ a, Heap.SameBut a s.heap s'.heap ∧ (a = X.env.locals ∨ X.env.cells.lookup x = some a)) → Q () s') (hf : X.fn x = true ∨ X.env.scope.names.lookup x = some .local := by first | exact .inl rfl | exact .inr rfl | assumption) : wpAny M A (storeName X.env x u) Q E s := by
  obtain ⟨m, hn, hl⟩ := id I.loc
  have hcls : (X.env.scope.kind == .class || (X.env.scope.kind == .module && X.env.locals != X.env.globals)) = false := by rw [I.ok.kind]; rfl
  have hiσ : i < σ.length := by rw [I.len]; exact (List.getElem?_eq_some_iff.mp hi).1
  have cne := I.cne
  have tracked : ∀ {a : Addr} {h' : Heap}, (∃ o, s.heap.get? a = some o ∧ H a = none) → Heap.SameBut a s.heap h' → HOk X.prog X.w H h' := fun {a h'} ha hs b ob e => by
    obtain ⟨_, _, hfree⟩ := ha
    refine (I.hok b ob e).stay (fun c w' hc q => (hs.2 c ?_).trans q) (fun _ q => q) fun _ _ q => q
    rintro rfl
    rcases hc with rfl | hc
    · rw [hfree] at e; cases e
    · rw [hfree] at hc; cases hc
  rcases hx with hk | hk
  · refine wpAny_storeName_local hk hn (fun h' hn' hs => ?_) hcls
    obtain ⟨oL, _, _, hoL, _⟩ := id hn
    refine h _ ⟨I.ok, I.os, I.bare, ⟨fun b o e n hb hx => ?_, fun b o e n hb hx => ?_, I.base.free, fun b o e hx => ?_, I.base.tups, I.base.frzs, I.base.tbls⟩, ⟨_, hn', fun j y v' e1 e2 e3 => ?_⟩, fun y c e => ?_, I.free, I.freeC, fun p hp => ?_, tracked ⟨oL, hoL, I.free⟩ hs, by simpa using I.len⟩ ⟨_, hs, .inl rfl⟩
    · exact (hs.2 b (Nat.ne_of_lt (Nat.lt_of_lt_of_le (Heap.lt_size e) I.ok.above))).trans (I.base.keep b o e n hb hx)
    · obtain ⟨sl, e1⟩ := I.base.slot b o e n hb hx
      exact ⟨sl, (hs.2 b (Nat.ne_of_lt (Nat.lt_of_lt_of_le (Heap.lt_size e) I.ok.above))).trans e1⟩
    · obtain ⟨o', e1⟩ := I.base.there b o e hx
      exact ⟨o', (hs.2 b (Nat.ne_of_lt (Nat.lt_of_lt_of_le (Heap.lt_size e) I.ok.above))).trans e1⟩
    · by_cases hj : j = i
      · subst hj
        rw [hi] at e1; cases e1
        rw [List.getElem?_set_self hiσ] at e2
        cases e2
        exact ⟨u, r, .inl ⟨hk, by simp⟩⟩
      · rw [List.getElem?_set_ne (Ne.symm hj)] at e2
        obtain ⟨u', r', q⟩ := hl j y v' e1 e2 e3
        refine ⟨u', r', ?_⟩
        rcases q with ⟨k, e⟩ | ⟨k, c, e, z⟩
        · refine .inl ⟨k, ?_⟩
          have : y ≠ x := fun e => hj (nodup_ix hN e1 (e ▸ hi))
          simp [this, e]
        · exact .inr ⟨k, c, e, z.sameBut hs (cne y c e)⟩
    · obtain ⟨w', z⟩ := I.cell y c e
      exact ⟨w', z.sameBut hs (cne y c e)⟩
    · obtain ⟨e, n, ne, nf, d⟩ := I.pin p hp
      exact ⟨(hs.2 p.1 ne).trans e, n, ne, nf, d⟩
  · have hfn : X.fn x = true := by
      rcases hf with z | z
      · exact z
      · rw [z] at hk; cases hk
    obtain ⟨c, hc⟩ := I.ok.has x (.inl hk)
    obtain ⟨w', z⟩ := I.cell x c hc
    refine wpAny_storeName_cell I.ok.kind hk hc z (fun h' hc' hs => ?_)
    obtain ⟨oc, hoc, hocd⟩ := id z
    refine h { s with heap := h' } ⟨I.ok, I.os, I.bare, ⟨fun b o e n hb hx => ?_, fun b o e n hb hx => ?_, I.base.free, fun b o e hx => ?_, I.base.tups, I.base.frzs, I.base.tbls⟩, ⟨m, hn.sameBut hs (Ne.symm (cne x c hc)), fun j y v' e1 e2 e3 => ?_⟩, fun y c' e => ?_, I.free, I.freeC, fun p hp => ?_, tracked ⟨oc, hoc, I.freeC x c hc⟩ hs, by simpa using I.len⟩ ⟨c, hs, .inr hc⟩
    · exact (hs.2 b (Nat.ne_of_lt (Nat.lt_of_lt_of_le (Heap.lt_size e) (I.ok.cab x c hfn hc)))).trans (I.base.keep b o e n hb hx)
    · obtain ⟨sl, e1⟩ := I.base.slot b o e n hb hx
      exact ⟨sl, (hs.2 b (Nat.ne_of_lt (Nat.lt_of_lt_of_le (Heap.lt_size e) (I.ok.cab x c hfn hc)))).trans e1⟩
    · obtain ⟨o', e1⟩ := I.base.there b o e hx
      exact ⟨o', (hs.2 b (Nat.ne_of_lt (Nat.lt_of_lt_of_le (Heap.lt_size e) (I.ok.cab x c hfn hc)))).trans e1⟩
    · by_cases hj : j = i
      · subst hj
        rw [hi] at e1; cases e1
        rw [List.getElem?_set_self hiσ] at e2
        cases e2
        exact ⟨u, r, .inr ⟨.inl hk, c, hc, hc'⟩⟩
      · rw [List.getElem?_set_ne (Ne.symm hj)] at e2
        obtain ⟨u', r', q⟩ := hl j y v' e1 e2 e3
        refine ⟨u', r', ?_⟩
        rcases q with q | ⟨k, c', e, z'⟩
        · exact .inl q
        · refine .inr ⟨k, c', e, z'.sameBut hs ?_⟩
          rintro rfl
          exact hj (nodup_ix hN e1 (I.ok.inj _ _ _ e hc ▸ hi))
    · by_cases hcc : c' = c
      · subst hcc; exact ⟨_, hc'⟩
      · obtain ⟨w2, z2⟩ := I.cell y c' e
        exact ⟨w2, z2.sameBut hs hcc⟩
    · obtain ⟨e, n, ne, nf, d⟩ := I.pin p hp
      refine ⟨(hs.2 p.1 ?_).trans e, n, ne, nf, d⟩
      intro q
      rw [q, hoc] at e
      have q' : oc = p.2 := Option.some.inj e
      exact d w' (by rw [← q']; exact hocd)
theorem store_ok {M : Model} {A : Around} {E : Value → Shared → Prop} {i : Nat} {x : Str} {v : V} {u : Value} {Q : Unit → Shared → Prop} (I : Inv X pins σ H s) (hN : X.N.Nodup) (hi : X.N[i]? = some x) (hx : Loc X.env.scope x) (r : RelV v u)
    (h : ∀ s', Inv X pins (σ.set i (some v)) H s' → Q () s') (hf : X.fn x = true ∨ X.env.scope.names.lookup x = some .local := by first | exact .inl rfl | exact .inr rfl | assumption) : wpAny M A (storeName X.env x u) Q E s :=
  store_ok2 I hN hi hx r (fun s' I' _ => h s' I') hf
/-- behind a call or a block, the state as it is -/
theorem Inv.call' {s' : Shared} {ch : List Addr} (I : Inv X pins σ H s) (ho : s'.os = s.os) (u : Un (frs X.stack) ch H H' s.heap s'.heap) (hok : HOk X.prog X.w H' s'.heap) (hg : AllBare s'.gens)
    (hch : ∀ b ∈ ch, (b ∈ X.ex ∨ X.s₀.heap.objs.size ≤ b) ∧ b ≠ X.env.locals ∧ (∀ x c, X.env.cells.lookup x = some c → c ≠ b) ∧ ∀ p ∈ X.pn ++ pins, p.1 ≠ b) : Inv X pins σ H' s' := by
  obtain ⟨h', g', d', t', o'⟩ := s'
  have e : o' = s.os := ho
  subst e
  exact I.call (g' := g') (t' := t') (d' := d') u hok hg hch
end

/-! ### the judgements -/
/-- an exception: its class, its own dict's address (where it has one), the abstract heap behind it -/
abbrev XK := Value → Option Addr → Hp → Prop
abbrev St := List (Option V)
abbrev VK := V → Hp → Prop
/-- an expression's reading; a test's; an argument list's -/
abbrev TE := St → Hp → VK → Prop
abbrev TT := St → Hp → (Bool → Hp → Prop) → Prop
abbrev TA := St → Hp → (List V → Hp → Prop) → Prop
/-- what is wanted behind a statement -/
structure Ends where
  nx : St → Hp → Prop
  rt : VK
  bk : St → Hp → Prop := fun _ _ => False
  ct : St → Hp → Prop := fun _ _ => False
abbrev TS := Ends → St → Hp → Prop

def EP (X : Cx) (pins : List (Addr × Obj)) (σ : St) (Q : VK) (u : Value) (s' : Shared) : Prop := ∃ v H', Inv X pins σ H' s' ∧ RelV v u ∧ Q v H'
def TP (X : Cx) (pins : List (Addr × Obj)) (σ : St) (Q : Bool → Hp → Prop) (b : Bool) (s' : Shared) : Prop := ∃ H', Inv X pins σ H' s' ∧ Q b H'
def AP (X : Cx) (pins : List (Addr × Obj)) (σ : St) (Q : List V → Hp → Prop) (us : List Value) (s' : Shared) : Prop := ∃ vs H', Inv X pins σ H' s' ∧ Vals vs us ∧ Q vs H'
def SP (X : Cx) (pins : List (Addr × Obj)) (D : Ends) (f : Flow) (s' : Shared) : Prop :=
  match f with
  | .next => ∃ σ' H', Inv X pins σ' H' s' ∧ D.nx σ' H'
  | .brk => ∃ σ' H', Inv X pins σ' H' s' ∧ D.bk σ' H'
  | .cont => ∃ σ' H', Inv X pins σ' H' s' ∧ D.ct σ' H'
  | .ret u => ∃ v σ' H', Inv X pins σ' H' s' ∧ RelV v u ∧ D.rt v H'

def PE (X : Cx) (e : Expr) (t : TE) : Prop :=
  ∀ (pins : List (Addr × Obj)) (s : Shared) (σ : St) (H : Hp) (Q : VK), Inv X pins σ H s → t σ H Q → wpAny (model X.prog X.w) X.A (eval e X.env) (EP X pins σ Q) X.xe s
def PT (X : Cx) (e : Expr) (t : TT) : Prop :=
  ∀ (pins : List (Addr × Obj)) (s : Shared) (σ : St) (H : Hp) (Q : Bool → Hp → Prop), Inv X pins σ H s → t σ H Q → wpAny (model X.prog X.w) X.A (isTrue e X.env (eval e X.env)) (TP X pins σ Q) X.xe s
/-- a test whatever its 'whole' is (and, or) -/
def PW (X : Cx) (e : Expr) (t : TT) : Prop :=
  ∀ (whole : Sem Value) (pins : List (Addr × Obj)) (s : Shared) (σ : St) (H : Hp) (Q : Bool → Hp → Prop), Inv X pins σ H s → t σ H Q → wpAny (model X.prog X.w) X.A (isTrue e X.env whole) (TP X pins σ Q) X.xe s
theorem PW.pt {X : Cx} {e : Expr} {t : TT} (h : PW X e t) : PT X e t := h _
/-- an argument list (no star), from the left -/
def PA (X : Cx) (es : List Expr) (t : TA) : Prop :=
  ∀ (pos : Pos) (pins : List (Addr × Obj)) (s : Shared) (σ : St) (H : Hp) (Q : List V → Hp → Prop), Inv X pins σ H s → t σ H Q → wpAny (model X.prog X.w) X.A (spliced (backTo pos (starEach es X.env))) (AP X pins σ Q) X.xe s
def PS (X : Cx) (st : Stmt) (t : TS) : Prop :=
  ∀ (pins : List (Addr × Obj)) (s : Shared) (σ : St) (H : Hp) (D : Ends), Inv X pins σ H s → t D σ H → wpAny (model X.prog X.w) X.A (exec st X.env) (SP X pins D) X.xe s
def PSs (X : Cx) (st : List Stmt) (t : TS) : Prop :=
  ∀ (pins : List (Addr × Obj)) (s : Shared) (σ : St) (H : Hp) (D : Ends), Inv X pins σ H s → t D σ H → wpAny (model X.prog X.w) X.A (execs st X.env) (SP X pins D) X.xe s
/-- weaken the end -/
theorem thn {α : Type} {t : Sem α} {Q Q' : α → Shared → Prop} {M : Model} {A : Around} {E : Value → Shared → Prop} {s : Shared} (h : wpAny M A t Q E s) (hQ : ∀ a s, Q a s → Q' a s) : wpAny M A t Q' E s := wpAny_mono h hQ fun _ _ x => x
end L2

namespace L2
open PySem PySem.Spec PyProof.Rows
section
variable {X : Cx}


/-! ### names and constants -/
def tVar (i : Nat) : TE := fun σ H Q => ∃ v, σ[i]? = some (some v) ∧ Q v H
def tC (v : V) : TE := fun _ H Q => Q v H
theorem pe_var {i : Nat} {x : Str} {pos : Pos} (hN : X.N[i]? = some x) (hv : Vis X.env.scope x) (hd : (x == ("__debug__" : Str)) = false := by decide) (hcd : (x == ("__classdict__" : Str)) = false := by decide) : PE X (.Name x pos) (tVar i) := by
  intro pins s σ H Q I h
  obtain ⟨v, e, h⟩ := h
  obtain ⟨m, hn, hl⟩ := I.loc
  obtain ⟨u, r, l⟩ := hl i x v hN e hv
  have fin : EP X pins σ Q u s := ⟨v, H, I, r, h⟩
  rcases l with ⟨hk, hm⟩ | ⟨hk, c, hc, hcell⟩
  · exact wpAny_Name (wpAny_loadName_local I.ok.kind hk hn hm fin) hd
  · rcases hk with hk | hk
    · exact wpAny_Name (wpAny_loadName_cell I.ok.kind hk hc hcell fin) hd
    · exact wpAny_Name (wpAny_loadName_free I.ok.kind hk hc hcell fin hcd) hd
theorem pe_int {i j pos} : PE X (.Constant (.int i) j pos) (tC (.int i)) := fun _ _ _ H _ I h => wpAny_Constant_int ⟨.int i, H, I.tok _, ⟨_, rfl⟩, h⟩
theorem pe_bl {b j pos} : PE X (.Constant (.bool b) j pos) (tC (.bl b)) := fun _ _ _ H _ I h => Constant_bool ⟨.bl b, H, I, rfl, h⟩
theorem pe_non {j pos} : PE X (.Constant .none j pos) (tC .non) := fun _ _ _ H _ I h => Constant_none ⟨.non, H, I, rfl, h⟩
theorem pe_str {x j pos} : PE X (.Constant (.str x) j pos) (tC (.str x)) := fun _ _ _ H _ I h => Calls.Constant_str ⟨.str x, H, I.tok _, ⟨_, rfl⟩, h⟩

/-- a global name of the def -/
def Gl (X : Cx) (x : Str) : Prop := X.env.kindOf x = some .globalImplicit
theorem ld_glob {E : Value → Shared → Prop} {pins : List (Addr × Obj)} {s : Shared} {σ : St} {H : Hp} {x : Str} {u : Value} {pos : Pos} {Q : Value → Shared → Prop} (I : Inv X pins σ H s) (hg : Gl X x) (hm : X.mg x = some u) (h : Q u s)
    (hd : (x == ("__debug__" : Str)) = false := by decide) : wpAny (model X.prog X.w) X.A (eval (.Name x pos) X.env) Q E s :=
  Calls.Name_function_global I.ok.kind hg (Calls.loadGlobal_global (by rw [I.ok.glob]; exact I.mod.glob.keeps I.bk) hm h) hd
theorem ld_blt {E : Value → Shared → Prop} {pins : List (Addr × Obj)} {s : Shared} {σ : St} {H : Hp} {x : Str} {u : Value} {pos : Pos} {Q : Value → Shared → Prop} (I : Inv X pins σ H s) (hg : Gl X x) (hm : X.mg x = none) (hv : bootBuiltins x = some u) (h : Q u s)
    (hn : x ≠ "__name__" := by decide) (hd : (x == ("__debug__" : Str)) = false := by decide) : wpAny (model X.prog X.w) X.A (eval (.Name x pos) X.env) Q E s := by
  obtain ⟨mb, h1, h2⟩ := I.mod.blt
  exact Calls.Name_function_global I.ok.kind hg (Calls.loadGlobal_builtin (by rw [I.ok.glob]; exact I.mod.glob.keeps I.bk) hm (by rw [I.ok.blt]; exact h1.keeps I.bk) ((h2 x hn).trans hv) h) hd
/-- a module's constant, a class, a function, as a value -/
theorem pe_glob {x : Str} {v : V} {u : Value} {pos : Pos} (hg : Gl X x) (hm : X.mg x = some u) (r : RelV v u) (hd : (x == ("__debug__" : Str)) = false := by decide) : PE X (.Name x pos) (tC v) :=
  fun _ _ _ H _ I h => ld_glob I hg hm ⟨v, H, I, r, h⟩ hd

/-! ### arithmetic -/
variable {a b : Expr} {ta tb : TE} {pos : Pos}

/-! ### comparisons -/
/-- a comparison as a value, as a test -/
def tB (t : TE) : TT := fun σ H Q => t σ H fun x H1 => ∃ c, x = .bl c ∧ Q c H1
/-- an expression whose value is a bool, as a test -/
theorem pt_val {e : Expr} {t : TE} (h : PE X e t) (he : ∀ whole, isTrue e X.env whole = (do let v ← whole; standAt e.pos; holding [v] (truthy v)) := by intro _; rfl) : PT X e (tB t) := by
  intro pins s σ H Q I hw
  refine isTrue_plain (thn (h pins s σ H _ I hw) fun v s1 ⟨x, H1, I1, r1, q1⟩ => ?_) (he _)
  obtain ⟨d, rfl, q⟩ := q1
  cases r1
  exact wpAny_truthy_bool ⟨H1, I1, q⟩

/-! ### and, or, not -/
variable {tA tB' : TT} {rest : List Expr}
def tAnd (t u : TT) : TT := fun σ H Q => t σ H fun c H1 => if c = true then u σ H1 Q else Q false H1
def tOr (t u : TT) : TT := fun σ H Q => t σ H fun c H1 => if c = true then Q true H1 else u σ H1 Q
def tNot (t : TT) : TT := fun σ H Q => t σ H fun c H1 => Q (!c) H1
theorem pw_and1 (ha : PT X a tA) : PW X (.BoolOp .And [a] pos) tA := by
  intro wh pins s σ H Q I h
  refine isTrue_and (thn (ha pins s σ H Q I h) fun c s1 e => ?_)
  cases c with
  | true => exact isTrue_and_nil e
  | false => exact e
theorem pw_or1 (ha : PT X a tA) : PW X (.BoolOp .Or [a] pos) tA := by
  intro wh pins s σ H Q I h
  refine isTrue_or (thn (ha pins s σ H Q I h) fun c s1 e => ?_)
  cases c with
  | false => exact isTrue_or_nil e
  | true => exact e
theorem pw_and (ha : PT X a tA) (hb : PW X (.BoolOp .And (b :: rest) pos) tB') : PW X (.BoolOp .And (a :: b :: rest) pos) (tAnd tA tB') := by
  intro wh pins s σ H Q I h
  refine isTrue_and (thn (ha pins s σ H _ I h) fun c s1 ⟨H1, I1, q1⟩ => ?_)
  cases c with
  | true => exact hb wh pins s1 σ H1 Q I1 q1
  | false => exact ⟨H1, I1, q1⟩
theorem pw_or (ha : PT X a tA) (hb : PW X (.BoolOp .Or (b :: rest) pos) tB') : PW X (.BoolOp .Or (a :: b :: rest) pos) (tOr tA tB') := by
  intro wh pins s σ H Q I h
  refine isTrue_or (thn (ha pins s σ H _ I h) fun c s1 ⟨H1, I1, q1⟩ => ?_)
  cases c with
  | true => exact ⟨H1, I1, q1⟩
  | false => exact hb wh pins s1 σ H1 Q I1 q1
theorem pt_not (ha : PT X a tA) : PT X (.UnaryOp .Not a pos) (tNot tA) := by
  intro pins s σ H Q I h
  exact isTrue_not (ha pins s σ H (fun c H1 => Q (!c) H1) I h)
/-- .. as values (bools) -/
def tAndV (ta tb : TE) : TE := fun σ H Q => ta σ H fun x H1 => ∃ c, x = .bl c ∧ if c = true then tb σ H1 Q else Q (.bl false) H1
def tOrV (ta tb : TE) : TE := fun σ H Q => ta σ H fun x H1 => ∃ c, x = .bl c ∧ if c = true then Q (.bl true) H1 else tb σ H1 Q
theorem pe_one {op} {t : TE} (h : PE X a t) : PE X (.BoolOp op [a] pos) t := fun pins s σ H Q I hw => BoolOp_one (h pins s σ H Q I hw)
theorem pe_and (ha : PE X a ta) (hb : PE X (.BoolOp .And (b :: rest) pos) tb) : PE X (.BoolOp .And (a :: b :: rest) pos) (tAndV ta tb) := by
  intro pins s σ H Q I h
  refine BoolOp_and (thn (ha pins s σ H _ I h) fun v s1 ⟨x, H1, I1, r1, q1⟩ => ?_)
  obtain ⟨c, rfl, q1⟩ := q1
  cases r1
  refine wpAny_truthy_bool ?_
  cases c with
  | true => exact hb pins s1 σ H1 Q I1 q1
  | false => exact ⟨.bl false, H1, I1, rfl, q1⟩
theorem pe_or (ha : PE X a ta) (hb : PE X (.BoolOp .Or (b :: rest) pos) tb) : PE X (.BoolOp .Or (a :: b :: rest) pos) (tOrV ta tb) := by
  intro pins s σ H Q I h
  refine BoolOp_or (thn (ha pins s σ H _ I h) fun v s1 ⟨x, H1, I1, r1, q1⟩ => ?_)
  obtain ⟨c, rfl, q1⟩ := q1
  cases r1
  refine wpAny_truthy_bool ?_
  cases c with
  | false => exact hb pins s1 σ H1 Q I1 q1
  | true => exact ⟨.bl true, H1, I1, rfl, q1⟩
/-- a if t else b -/
def tIf (t : TT) (ta tb : TE) : TE := fun σ H Q => t σ H fun c H1 => if c = true then ta σ H1 Q else tb σ H1 Q
theorem pe_ifExp {c : Expr} (hc : PT X c tA) (ha : PE X a ta) (hb : PE X b tb) : PE X (.IfExp c a b pos) (tIf tA ta tb) := by
  intro pins s σ H Q I h
  refine wpAny_IfExp (thn (hc pins s σ H _ I h) fun d s1 ⟨H1, I1, q1⟩ => ?_)
  cases d with
  | true => exact ha pins s1 σ H1 Q I1 q1
  | false => exact hb pins s1 σ H1 Q I1 q1
end
end L2

namespace L2
open PySem PySem.Spec PyProof.Rows

/-! ### a list, a tuple that is read: tracked, frozen, or an object of the module -/
def SqL (K : PySem.W.Frag) (H : Hp) (a : Addr) (xs : List V) : Prop :=
  Rd H a (.lst xs) ∨
    ∃ (o : Obj) (its : Array Value) (n : Nat), K.lookup a = some o ∧ o.cls = .type "list" ∧ o.dict = none ∧ o.data = .seq its n ∧ its.size ≤ sizeLine ∧ Vals xs its.toList
def SqT (K : PySem.W.Frag) (H : Hp) (a : Addr) (xs : List V) : Prop :=
  Rd H a (.tup xs) ∨
    ∃ (o : Obj) (its : Array Value) (n : Nat), K.lookup a = some o ∧ o.cls = .type "tuple" ∧ o.data = .seq its n ∧ its.size ≤ sizeLine ∧ Vals xs its.toList
def absV : Value → Option V
  | .none => some .non
  | .bool b => some (.bl b)
  | .int i _ => some (.int i)
  | .str x _ => some (.str x)
  | .bytes b _ => some (.byt b)
  | .float b _ => some (.flt b)
  | .ref a => some (.ref a)
  | .type n => some (.ty n)
  | _ => none
theorem RelV.abs {x : V} {u : Value} (r : RelV x u) : absV u = some x := by
  cases x with
  | non => cases r; rfl
  | bl _ => cases r; rfl
  | int _ => obtain ⟨t, rfl⟩ := r; rfl
  | str _ => obtain ⟨t, rfl⟩ := r; rfl
  | byt _ => obtain ⟨t, rfl⟩ := r; rfl
  | flt _ => obtain ⟨t, rfl⟩ := r; rfl
  | ref _ => cases r; rfl
  | ty _ => cases r; rfl
theorem RelV.inj {x y : V} {u : Value} (r : RelV x u) (q : RelV y u) : x = y := Option.some.inj (r.abs.symm.trans q.abs)
theorem Vals.inj : ∀ {xs ys : List V} {us : List Value}, Vals xs us → Vals ys us → xs = ys
  | _, _, _, .nil, .nil => rfl
  | _, _, _, .cons r t, .cons r' t' => by rw [r.inj r', Vals.inj t t']
section
variable {X : Cx} {pins : List (Addr × Obj)} {σ : St} {H : Hp} {s : Shared} {a : Addr} {xs ys : List V}
theorem SqL.of {K : PySem.W.Frag} (h : H a = some (.lst xs)) : SqL K H a xs := .inl (.inl h)
theorem SqT.of {K : PySem.W.Frag} (h : H a = some (.tup xs)) : SqT K H a xs := .inl (.inl h)
theorem Inv.list (I : Inv X pins σ H s) (h : SqL X.K H a xs) : ∃ its : List Value, Vals xs its ∧ PlainL s.heap a its.toArray ∧ xs.length ≤ sizeLine := by
  rcases h with h | ⟨o, its, n, hk, hc, hd, hs, hz, r⟩
  · obtain ⟨z, its, n, r, e⟩ := h.ok I.hok
    exact ⟨its, r, ⟨_, n, e, rfl, rfl, rfl⟩, z⟩
  · refine ⟨its.toList, r, ⟨o, n, I.kIn a o hk, hc, hd, by simpa using hs⟩, ?_⟩
    have e := r.length
    simp only [Array.length_toList] at e
    omega
theorem Inv.tuple (I : Inv X pins σ H s) (h : SqT X.K H a xs) : ∃ its : List Value, Vals xs its ∧ IsTup s.heap a its.toArray ∧ xs.length ≤ sizeLine := by
  rcases h with h | ⟨o, its, n, hk, hc, hs, hz, r⟩
  · obtain ⟨z, its, r, p⟩ := h.ok I.hok
    exact ⟨its, r, p, z⟩
  · refine ⟨its.toList, r, ⟨o, I.kIn a o hk, hc, n, by simpa using hs⟩, ?_⟩
    have e := r.length
    simp only [Array.length_toList] at e
    omega
theorem Inv.list_inj (I : Inv X pins σ H s) (h : SqL X.K H a xs) (h' : SqL X.K H a ys) : xs = ys := by
  obtain ⟨its, r, ⟨o, n, e, _, _, d⟩, _⟩ := I.list h
  obtain ⟨its', r', ⟨o', n', e', _, _, d'⟩, _⟩ := I.list h'
  rw [e] at e'; cases e'
  rw [d] at d'
  injection d' with d1 _
  have : its = its' := by simpa using congrArg Array.toList d1
  subst this
  exact r.inj r'
theorem Inv.tuple_inj (I : Inv X pins σ H s) (h : SqT X.K H a xs) (h' : SqT X.K H a ys) : xs = ys := by
  obtain ⟨its, r, ⟨o, e, _, n, d⟩, _⟩ := I.tuple h
  obtain ⟨its', r', ⟨o', e', _, n', d'⟩, _⟩ := I.tuple h'
  rw [e] at e'; cases e'
  rw [d] at d'
  injection d' with d1 _
  have : its = its' := by simpa using congrArg Array.toList d1
  subst this
  exact r.inj r'
end

/-! ### another wish about exceptions -/
abbrev Cx.wish (X : Cx) (E : Value → Shared → Prop) : Cx := { X with xe := E }
/-- no exception leaves -/
abbrev Cx.nox (X : Cx) : Cx := X.wish fun _ _ => False
theorem Cx.Ok.wish {X : Cx} (ok : X.Ok) (E : Value → Shared → Prop) : (X.wish E).Ok :=
  ⟨ok.mod, ok.kind, ok.glob, ok.blt, ok.above, ok.inj, ok.has, ok.cab, ok.hd, ok.frames, ok.stk, ok.exf, ok.bs, ok.bsz, ok.noex, ok.exfs, ok.funs, ok.frf⟩
theorem Cx.Ok.unwish {X : Cx} {E : Value → Shared → Prop} (ok : (X.wish E).Ok) : X.Ok :=
  ⟨ok.mod, ok.kind, ok.glob, ok.blt, ok.above, ok.inj, ok.has, ok.cab, ok.hd, ok.frames, ok.stk, ok.exf, ok.bs, ok.bsz, ok.noex, ok.exfs, ok.funs, ok.frf⟩
section
variable {X : Cx} {pins : List (Addr × Obj)} {σ : St} {H : Hp} {s : Shared} {E : Value → Shared → Prop}
theorem Inv.wish (I : Inv X pins σ H s) (E : Value → Shared → Prop) : Inv (X.wish E) pins σ H s := ⟨I.ok.wish E, I.os, I.bare, I.base, I.loc, I.cell, I.free, I.freeC, I.pin, I.hok, I.len⟩
theorem Inv.unwish (I : Inv (X.wish E) pins σ H s) : Inv X pins σ H s := ⟨I.ok.unwish, I.os, I.bare, I.base, I.loc, I.cell, I.free, I.freeC, I.pin, I.hok, I.len⟩
theorem SP.unwish {D : Ends} {f : Flow} {s' : Shared} (h : SP (X.wish E) pins D f s') : SP X pins D f s' := by
  cases f with
  | next => obtain ⟨σ', H', I, q⟩ := h; exact ⟨σ', H', I.unwish, q⟩
  | brk => obtain ⟨σ', H', I, q⟩ := h; exact ⟨σ', H', I.unwish, q⟩
  | cont => obtain ⟨σ', H', I, q⟩ := h; exact ⟨σ', H', I.unwish, q⟩
  | ret u => obtain ⟨v, σ', H', I, r, q⟩ := h; exact ⟨v, σ', H', I.unwish, r, q⟩
theorem PSs.nox {st : List Stmt} {t : TS} (h : PSs X.nox st t) : PSs X st t := fun pins s σ H D I hw =>
  wpAny_mono (h pins s σ H D (I.wish _) hw) (fun _ _ q => q.unwish) fun _ _ z => False.elim z
end

/-! ### blocks and small statements -/
section
variable {X : Cx} {st : Stmt} {rest : List Stmt} {t u : TS} {e : Expr} {te : TE} {pos : Pos}
def tNext : TS := fun D σ H => D.nx σ H
def tSeq (t u : TS) : TS := fun D σ H => t { D with nx := u D } σ H
theorem pss_nil : PSs X [] tNext := fun _ _ σ H _ I h => wpAny_execs_nil ⟨σ, H, I, h⟩
theorem pss_cons (h1 : PS X st t) (h2 : PSs X rest u) : PSs X (st :: rest) (tSeq t u) := by
  intro pins s σ H D I h
  refine wpAny_execs_cons (thn (h1 pins s σ H { D with nx := u D } I h) fun f s1 q => ?_)
  cases f with
  | next =>
    obtain ⟨σ', H', I', q⟩ := q
    exact h2 pins s1 σ' H' D I' q
  | ret v => exact q
  | brk => exact q
  | cont => exact q
theorem pss_one (h1 : PS X st t) : PSs X [st] t := by
  intro pins s σ H D I h
  refine wpAny_execs_cons (thn (h1 pins s σ H D I h) fun f s1 q => ?_)
  cases f with
  | next => exact wpAny_execs_nil q
  | ret v => exact q
  | brk => exact q
  | cont => exact q
/-- in a def's body nothing is shown -/
theorem Inv.quiet {pins : List (Addr × Obj)} {σ : St} {H : Hp} {s : Shared} (I : Inv X pins σ H s) : interactive X.env = false := by simp [interactive, I.ok.kind]
/-- an expression whose value is dropped -/
def tDrop (te : TE) : TS := fun D σ H => te σ H fun _ H1 => D.nx σ H1
theorem ps_expr (he : PE X e te) (hs : swapsWith e none pos.line X.env = pure false := by rfl) : PS X (.Expr e pos) (tDrop te) := by
  intro pins s σ H D I h
  exact wpAny_Expr_any (thn (he pins s σ H _ I h) fun v s1 ⟨x, H1, I1, r1, q1⟩ => ⟨σ, H1, I1, q1⟩) I.quiet hs
def tRet (te : TE) : TS := fun D σ H => te σ H D.rt
theorem ps_ret (he : PE X e te) : PS X (.Return (some e) pos) (tRet te) := by
  intro pins s σ H D I h
  exact wpAny_Return_some (thn (he pins s σ H _ I h) fun v s1 ⟨x, H1, I1, r1, q1⟩ => ⟨x, σ, H1, I1, r1, q1⟩)
def tIfS (c : TT) (t u : TS) : TS := fun D σ H => c σ H fun b H1 => if b = true then t D σ H1 else u D σ H1
theorem ps_if {c : Expr} {a b : List Stmt} {tc : TT} (hc : PT X c tc) (ha : PSs X a t) (hb : PSs X b u) : PS X (.If c a b pos) (tIfS tc t u) := by
  intro pins s σ H D I h
  refine wpAny_If (thn (hc pins s σ H _ I h) fun d s1 ⟨H1, I1, q1⟩ => ?_)
  cases d with
  | true => exact ha pins s1 σ H1 D I1 q1
  | false => exact hb pins s1 σ H1 D I1 q1
end

/-! ### targets -/
abbrev TG := V → St → Hp → (St → Hp → Prop) → Prop
abbrev TGs := List V → St → Hp → (St → Hp → Prop) → Prop
def PG (X : Cx) (target : Expr) (t : TG) : Prop :=
  ∀ (pins : List (Addr × Obj)) (s : Shared) (σ : St) (H : Hp) (v : V) (u : Value) (Q : St → Hp → Prop), Inv X pins σ H s → RelV v u → t v σ H Q →
    wpAny (model X.prog X.w) X.A (assign target X.env u) (fun _ s' => ∃ σ' H', Inv X pins σ' H' s' ∧ Q σ' H') X.xe s
/-- several targets, one after another -/
def PGs (X : Cx) (ts : List Expr) (t : TGs) : Prop :=
  ∀ (pins : List (Addr × Obj)) (s : Shared) (σ : St) (H : Hp) (vs : List V) (us : List Value) (Q : St → Hp → Prop), Inv X pins σ H s → Vals vs us → t vs σ H Q →
    wpAny (model X.prog X.w) X.A (assignInOrder ((assignEach ts X.env).map (·.2)) us) (fun _ s' => ∃ σ' H', Inv X pins σ' H' s' ∧ Q σ' H') X.xe s
section
variable {X : Cx} {pos : Pos}
def gName (i : Nat) : TG := fun v σ H Q => Q (σ.set i (some v)) H
theorem pg_name {i : Nat} {x : Str} (hN : X.N.Nodup) (hi : X.N[i]? = some x) (hx : Loc X.env.scope x) (hf : X.fn x = true ∨ X.env.scope.names.lookup x = some .local := by first | exact .inl rfl | exact .inr rfl | assumption) : PG X (.Name x pos) (gName i) := by
  intro pins s σ H v u Q I r h
  exact wpAny_assign_Name (store_ok I hN hi hx r (fun s' I' => ⟨_, H, I', h⟩) hf)
def gNil : TGs := fun vs σ H Q => vs = [] ∧ Q σ H
def gCons (t : TG) (u : TGs) : TGs := fun vs σ H Q => ∃ v r, vs = v :: r ∧ t v σ H fun σ' H' => u r σ' H' Q
theorem pgs_nil : PGs X [] gNil := by
  intro pins s σ H vs us Q I r h
  obtain ⟨e, h⟩ := h
  subst e
  cases r
  exact assignInOrder_nil ⟨σ, H, I, h⟩
theorem pgs_cons {e : Expr} {es : List Expr} {t : TG} {u : TGs} (h1 : PG X e t) (h2 : PGs X es u)
    (hs : (assignEach (e :: es) X.env).map (·.2) = assign e X.env :: (assignEach es X.env).map (·.2) := by rfl) : PGs X (e :: es) (gCons t u) := by
  intro pins s σ H vs us Q I r h
  obtain ⟨v, vr, e1, h⟩ := h
  subst e1
  cases r with
  | cons r rr =>
    rw [hs]
    refine assignInOrder_cons (thn (h1 pins s σ H _ _ _ I r h) fun _ s1 ⟨σ1, H1, I1, q1⟩ => ?_)
    exact h2 pins s1 σ1 H1 _ _ Q I1 rr q1
/-- (a, b, ..) = a tuple of that length -/
def gTup (K : PySem.W.Frag) (n : Nat) (t : TGs) : TG := fun v σ H Q => ∃ a xs, v = .ref a ∧ SqT K H a xs ∧ xs.length = n ∧ t xs σ H Q
theorem pg_tup {es : List Expr} {k : Nat} {t : TGs} {n : Nat} (hc : X.calm = true) (h : PGs X es t)
    (hn : (assignEach es X.env).length = n := by rfl) (hst : (assignEach es X.env).findIdx? (·.1) = none := by rfl) : PG X (.Tuple es k pos) (gTup X.K n t) := by
  intro pins s σ H v u Q I r hw
  obtain ⟨a, xs, e1, hq, hl, hw⟩ := hw
  subst e1
  cases r
  obtain ⟨its, rv, ht, hz⟩ := I.tuple hq
  refine assign_Tuple_tuple (I.ok.hd hc) ht (by simp [hn, ← hl, rv.length]) hst fun h' hx => ?_
  have I1 : Inv X pins σ H { s with heap := h' } := I.kept (t' := s.toks) fun b o e => hx b o (Nat.ne_of_lt (Heap.lt_size e)) e
  exact h pins _ σ H xs _ Q I1 (by simpa using rv) hw
/-- target = value -/
def tAsg (te : TE) (g : TG) : TS := fun D σ H => te σ H fun x H1 => g x σ H1 D.nx
/-- name = value -/
theorem ps_set {i : Nat} {x : Str} {e : Expr} {te : TE} {pos' : Pos} (hN : X.N.Nodup) (hi : X.N[i]? = some x) (hx : Loc X.env.scope x) (he : PE X e te) (hs : swapsWith e (some (.Name x pos')) pos.line X.env = pure false := by rfl) (hf : X.fn x = true ∨ X.env.scope.names.lookup x = some .local := by first | exact .inl rfl | exact .inr rfl | assumption) :
    PS X (.Assign [.Name x pos'] e pos) (tAsg te (gName i)) := by
  intro pins s σ H D I h
  refine wpAny_Assign_Name (thn (he pins s σ H _ I h) fun v s1 ⟨y, H1, I1, r1, q1⟩ => ?_) hs
  exact store_ok I1 hN hi hx r1 (fun s2 I2 => ⟨_, H1, I2, q1⟩) hf
end

/-! ### while -/
section
variable {X : Cx} {pos : Pos}
end

/-! ### what a loop or a comprehension walks -/
/-- at turn i: it yields x (the heap may grow), or it stops -/
structure It where
  go : Nat → Hp → Prop
  yld : Nat → Hp → V → Hp → Prop
  stop : Nat → Hp → Prop
/-- the iterator's own objects may turn: they are not the frame's, not pinned, younger than the entry (or a comprehension's own) -/
def FpOk (X : Cx) (pins : List (Addr × Obj)) (H : Hp) (b : Addr) : Prop :=
  H b = none ∧ b ≠ X.env.locals ∧ b ∉ X.fs ∧ (b ∈ X.ex ∨ X.s₀.heap.objs.size ≤ b) ∧ (∀ x c, X.env.cells.lookup x = some c → c ≠ b) ∧ ∀ p ∈ X.pn ++ pins, p.1 ≠ b
theorem Inv.fpOk {X : Cx} {pins : List (Addr × Obj)} {σ : St} {H H' : Hp} {s : Shared} {b : Addr} (I : Inv X pins σ H s) (hb : s.heap.objs.size ≤ b) (hn : H' b = none) : FpOk X pins H' b := by
  refine ⟨hn, Nat.ne_of_gt (Nat.lt_of_lt_of_le I.lt hb), I.nofs hb, .inr (Nat.le_trans I.sz hb), fun x c e z => ?_, fun p hp z => ?_⟩
  · obtain ⟨v, q⟩ := I.cell x c e
    exact absurd (Nat.lt_of_lt_of_le q.lt (by rw [z]; exact hb)) (Nat.lt_irrefl _)
  · exact absurd (Nat.lt_of_lt_of_le (Heap.lt_size (I.pin p hp).1) (by rw [z]; exact hb)) (Nat.lt_irrefl _)
structure Turn (P : Program) (w : World) (K : PySem.W.Frag) (tg : Expr) (J : It) (fp : List Addr) (it : Addr) (tn : Nat → Heap → Prop) : Prop where
  mem : it ∈ fp
  obj : ∀ i h, tn i h → ∀ b ∈ fp, ∃ o, h.get? b = some o ∧ ∀ v, o.data ≠ .cell v
  keep : ∀ i h h', tn i h → (∀ b ∈ fp, ∀ o, h.get? b = some o → h'.get? b = some o) → tn i h'
  item : ∀ (X : Cx), X.prog = P → X.w = w → X.K = K → X.calm = true → ∀ (i : Nat) (pins : List (Addr × Obj)) (s : Shared) (σ : St) (H : Hp) (E : Value → Shared → Prop), Inv X pins σ H s → (∀ b ∈ fp, FpOk X pins H b) → tn i s.heap → J.go i H →
    wpAny (model P w) X.A (pyNext (.ref it)) (fun r s1 => ∃ u, r = some u ∧
      wpAny (model P w) X.A (letOwnedTupleGo tg (.ref it) u) (fun _ s2 => ∃ x H', Inv X pins σ H' s2 ∧ RelV x u ∧ J.yld i H x H' ∧ tn (i + 1) s2.heap ∧ ∀ b ∈ fp, H' b = none) E s1) E s
  done : ∀ (X : Cx), X.prog = P → X.w = w → X.K = K → X.calm = true → ∀ (i : Nat) (pins : List (Addr × Obj)) (s : Shared) (σ : St) (H : Hp) (E : Value → Shared → Prop), Inv X pins σ H s → (∀ b ∈ fp, FpOk X pins H b) → tn i s.heap → J.stop i H →
    wpAny (model P w) X.A (pyNext (.ref it)) (fun r s1 => r = none ∧ Inv X pins σ H s1) E s
  self : ∀ (A : Around) (i : Nat) (s : Shared) (Q : Value → Shared → Prop) (E : Value → Shared → Prop), tn i s.heap → Q (.ref it) s → wpAny (model P w) A (pyIter (.ref it)) Q E s
abbrev TI := St → Hp → (It → Hp → Prop) → Prop
/-- an iterator has come -/
def PIE (X : Cx) (pins : List (Addr × Obj)) (σ : St) (tg : Expr) (R : It → Hp → Prop) (itv : Value) (s2 : Shared) : Prop :=
  ∃ (it : Addr) (fp : List Addr) (tn : Nat → Heap → Prop) (J : It) (H' : Hp), itv = .ref it ∧ Inv X pins σ H' s2 ∧ Turn X.prog X.w X.K tg J fp it tn ∧ tn 0 s2.heap ∧ (∀ b ∈ fp, FpOk X pins H' b) ∧ R J H'
def PI (X : Cx) (tg iter : Expr) (wi : TI) : Prop :=
  ∀ (pins : List (Addr × Obj)) (s : Shared) (σ : St) (H : Hp) (R : It → Hp → Prop), Inv X pins σ H s → wi σ H R →
    wpAny (model X.prog X.w) X.A (eval iter X.env) (fun v s1 => wpAny (model X.prog X.w) X.A (pyIter v) (PIE X pins σ tg R) X.xe s1) X.xe s

/-- the step ahead of the store is nothing for an iterator that keeps no tuple -/
theorem go_of {M : Model} {A : Around} {E : Value → Shared → Prop} {s : Shared} {tg : Expr} {it : Addr} {u : Value} {o : Obj} {n : String} {vs : Array Value} {Q : Unit → Shared → Prop} (ho : s.heap.get? it = some o) (hc : o.cls = .type n) (hd : o.data = .fields vs)
    (hn : ["enumerate", "zip", "dict_itemiterator", "dict_reverseitemiterator", "odict_iterator", "itertools.zip_longest", "itertools.pairwise"].contains n = false) (hQ : Q () s) : wpAny M A (letOwnedTupleGo tg (.ref it) u) Q E s := by
  unfold letOwnedTupleGo
  cases tg <;> first
    | exact wpAny_pure hQ
    | (cases u <;> first
        | exact wpAny_pure hQ
        | (refine wpAny_bind (wpAny_load ho ?_)
           rw [hc, hd]
           show wpAny M A (if (["enumerate", "zip", "dict_itemiterator", "dict_reverseitemiterator", "odict_iterator", "itertools.zip_longest", "itertools.pairwise"].contains n && vs[0]? == some (rawInt _)) = true then _ else _) Q E s
           rw [if_neg (by intro h; rw [hn, Bool.false_and] at h; cases h)]
           exact wpAny_pure hQ))

/-- the list at a, as it stands at each turn (a loop may append to it) -/
def Itl (K : PySem.W.Frag) (a : Addr) : It :=
  ⟨fun i H => ∃ xs x, SqL K H a xs ∧ xs[i]? = some x, fun i H x H' => H' = H ∧ ∀ xs, SqL K H a xs → xs[i]? = some x, fun i H => ∃ xs, SqL K H a xs ∧ xs.length ≤ i⟩
theorem turn_list {P : Program} {w : World} {K : PySem.W.Frag} {tg : Expr} (a it : Addr) : Turn P w K tg (Itl K a) [it] it (fun i h => h.IsListIter it a i) where
  mem := by simp
  obj := fun i h st b hb => by
    have e : b = it := by simpa using hb
    subst e
    obtain ⟨o, e, c, d⟩ := st
    exact ⟨o, e, fun v z => by rw [d] at z; cases z⟩
  keep := fun i h h' st k => st.at fun o e => k it (by simp) o e
  item := by
    intro X hP hw hK hc i pins s σ H E I hf st hg
    subst hP hw hK
    obtain ⟨xs, x, hq, hx⟩ := hg
    obtain ⟨its, rv, p, hz⟩ := I.list hq
    obtain ⟨u, hu, ru⟩ := rv.get hx
    obtain ⟨f0, f1, f2, f3, f4, f5⟩ := hf it (by simp)
    refine wpAny_pyNext_list_item st p.isList (x := u) (by simpa using hu) fun h' st' sb => ?_
    have I1 : Inv X pins σ H { s with heap := h' } := I.turned (t' := s.toks) (fun b o hb e => (sb.2 b hb).trans e) f0 f1 f3 f4 f5
    obtain ⟨o, e, c, d⟩ := id st'
    exact ⟨u, rfl, go_of (s := { s with heap := h' }) e c d (by decide) ⟨x, H, I1, ru, ⟨rfl, fun ys hy => by rw [I.list_inj hy hq]; exact hx⟩, st', fun b hb => (hf b hb).1⟩⟩
  done := by
    intro X hP hw hK hc i pins s σ H E I hf st hg
    subst hP hw hK
    obtain ⟨xs, hq, hx⟩ := hg
    obtain ⟨its, rv, p, hz⟩ := I.list hq
    obtain ⟨f0, f1, f2, f3, f4, f5⟩ := hf it (by simp)
    have hl := rv.length
    exact wpAny_pyNext_list_end (I.ok.hd hc) st p.isList (by simp; omega) fun h' eb => ⟨rfl, I.turned (t' := s.toks) (fun b o hb e => eb b o hb e) f0 f1 f3 f4 f5⟩
  self := fun _ _ _ _ _ st h => wpAny_pyIter_listiter st h
end L2

namespace L2
open PySem PySem.Spec PyProof.Rows
section
variable {X : Cx} {tg : Expr}
def iList (K : PySem.W.Frag) (tl : TE) : TI := fun σ H R => tl σ H fun x H1 => ∃ a, x = .ref a ∧ (∃ xs, SqL K H1 a xs) ∧ R (Itl K a) H1
theorem pi_list {l : Expr} {tl : TE} (hl : PE X l tl) : PI X tg l (iList X.K tl) := by
  intro pins s σ H R I h
  refine thn (hl pins s σ H _ I h) fun v s1 ⟨x, H1, I1, r1, q1⟩ => ?_
  obtain ⟨a, e, ⟨xs, hq⟩, q⟩ := q1
  subst e
  cases r1
  obtain ⟨its, rv, p, hz⟩ := I1.list hq
  refine wpAny_pyIter_list p.isList ?_
  refine ⟨s1.heap.objs.size, [s1.heap.objs.size], _, _, H1, rfl, I1.kept (t' := s1.toks) fun b o e => Heap.get?_push_of_some _ e, turn_list a _, ⟨_, Heap.get?_push_size _ rfl, rfl, rfl⟩, fun b hb => ?_, q⟩
  have e : b = s1.heap.objs.size := by simpa using hb
  subst e
  exact I1.fpOk (Nat.le_refl _) (I1.hok.fresh (Nat.le_refl _))

/-! ### for -/
/-- W: the invariant by the turn and a measure; N: what the body is to reach -/
def tFor (wi : TI) (g : TG) (tb : TS) : TS := fun D σ H => wi σ H fun J H1 => ∃ W : Nat → Nat → St → Hp → Prop, (∃ m, W 0 m σ H1) ∧ ∀ i m σ H, W i m σ H →
  (J.stop i H ∧ D.nx σ H) ∨ (J.go i H ∧ ∃ N : St → Hp → Prop, (∀ σ' H', N σ' H' → ∃ m', m' < m ∧ W (i + 1) m' σ' H') ∧ ∀ x H', J.yld i H x H' → g x σ H' fun σ2 H2 => tb { D with nx := N, ct := N, bk := D.nx } σ2 H2)
/-- the records at fp as they stand -/
def pinsAt (fp : List Addr) (h : Heap) : List (Addr × Obj) := fp.filterMap fun b => (h.get? b).map fun o => (b, o)
theorem mem_pinsAt {fp : List Addr} {h : Heap} {b : Addr} {o : Obj} (hb : b ∈ fp) (e : h.get? b = some o) : (b, o) ∈ pinsAt fp h := List.mem_filterMap.mpr ⟨b, hb, by rw [e]; rfl⟩
theorem of_pinsAt {fp : List Addr} {h : Heap} {p : Addr × Obj} (hp : p ∈ pinsAt fp h) : p.1 ∈ fp ∧ h.get? p.1 = some p.2 := by
  obtain ⟨b, hb, e⟩ := List.mem_filterMap.mp hp
  cases q : h.get? b with
  | none => rw [q] at e; cases e
  | some o =>
    rw [q] at e
    have e' : (b, o) = p := Option.some.inj e
    subst e'
    exact ⟨hb, q⟩
theorem Inv.pinned {pins : List (Addr × Obj)} {σ : St} {H : Hp} {s : Shared} {fp : List Addr} (I : Inv X pins σ H s) (hf : ∀ b ∈ fp, FpOk X pins H b) (ho : ∀ b ∈ fp, ∃ o, s.heap.get? b = some o ∧ ∀ v, o.data ≠ .cell v) : Inv X (pins ++ pinsAt fp s.heap) σ H s :=
  I.pins_of fun p hp => (List.mem_append.mp hp).elim (fun z => I.pin p (List.mem_append_right _ z)) fun z => by
    obtain ⟨hb, e⟩ := of_pinsAt z
    obtain ⟨f0, f1, f2, _⟩ := hf p.1 hb
    obtain ⟨o, e', d⟩ := ho p.1 hb
    rw [e] at e'; cases e'
    exact ⟨e, f0, f1, f2, d⟩
theorem Inv.unpinned {pins pl : List (Addr × Obj)} {σ : St} {H : Hp} {s : Shared} (I : Inv X (pins ++ pl) σ H s) : Inv X pins σ H s := I.pins_of fun p hp => I.pin p (List.mem_append_right _ (List.mem_append_left _ hp))
theorem ps_for {iter : Expr} {body : List Stmt} {wi : TI} {g : TG} {tb : TS} {pos : Pos} (hp : PassesOwn (model X.prog X.w) X.A X.env X.xe) (hc : X.calm = true) (hi : PI X tg iter wi) (hg : PG X tg g) (hb : PSs X body tb)
    (hs : ∀ x, foldedSetIterable iter X.env x = pure x := by intro _; rfl) : PS X (.For tg iter body [] pos) (tFor wi g tb) := by
  intro pins s σ H D I h
  refine wpAny_For (thn (hi pins s σ H _ I h) fun v s1 h1 => thn h1 fun itv s2 h2 => ?_) hs
  obtain ⟨it, fp, tn, J, H2, e, I2, T, st2, f2, W, ⟨m0, w0⟩, turn⟩ := h2
  subst e
  -- what stays true of the iterator's objects through the loop
  have stat : ∀ {H' : Hp}, (∀ b ∈ fp, H' b = none) → ∀ b ∈ fp, FpOk X pins H' b := fun hn b hb => ⟨hn b hb, (f2 b hb).2⟩
  refine codeAny_forLoop_any (fun n s' => ∃ i σ' H', Inv X pins σ' H' s' ∧ tn i s'.heap ∧ (∀ b ∈ fp, H' b = none) ∧ W i n σ' H') ?_ m0 ⟨0, σ, H2, I2, st2, fun b hb => (f2 b hb).1, w0⟩
  rintro n s3 ⟨i, σ3, H3, I3, st3, fr3, w3⟩
  rcases turn i n σ3 H3 w3 with ⟨stop, qn⟩ | ⟨go, N, hN, step⟩
  · refine wpAny_passesOwn hp (thn (T.done X rfl rfl rfl hc i pins s3 σ3 H3 X.xe I3 (stat fr3) st3 stop) fun r s4 ⟨hr, I4⟩ => ?_)
    subst hr
    exact wpAny_execs_nil ⟨σ3, H3, I4, qn⟩
  · refine wpAny_passesOwn hp (thn (T.item X rfl rfl rfl hc i pins s3 σ3 H3 X.xe I3 (stat fr3) st3 go) fun r s4 ⟨u, hr, h4⟩ => ?_)
    subst hr
    refine wpAny_passesOwn hp (thn h4 fun _ s5 ⟨x, H5, I5, r5, y5, st5, fr5⟩ => ?_)
    have I5' := I5.pinned (stat fr5) (T.obj _ _ st5)
    refine wpAny_passesOwn hp (thn (hg _ s5 σ3 H5 x u _ I5' r5 (step x H5 y5)) fun _ s6 ⟨σ6, H6, I6, q6⟩ => ?_)
    refine wpAny_passesOwn hp (thn (hb _ s6 σ6 H6 _ I6 q6) fun f s7 q7 => ?_)
    have again : ∀ {σ7 : St} {H7 : Hp}, Inv X (pins ++ pinsAt fp s5.heap) σ7 H7 s7 → N σ7 H7 → ∃ m, m < n ∧ ∃ i σ' H', Inv X pins σ' H' s7 ∧ tn i s7.heap ∧ (∀ b ∈ fp, H' b = none) ∧ W i m σ' H' := fun {σ7 H7} I7 n7 => by
      obtain ⟨m', hm, w7⟩ := hN σ7 H7 n7
      refine ⟨m', hm, i + 1, σ7, H7, I7.unpinned, T.keep _ _ _ st5 fun b hb o e => (I7.pin (b, o) (List.mem_append_right _ (List.mem_append_right _ (mem_pinsAt hb e)))).1, fun b hb => ?_, w7⟩
      obtain ⟨o, e, d⟩ := T.obj _ _ st5 b hb
      exact (I7.pin (b, o) (List.mem_append_right _ (List.mem_append_right _ (mem_pinsAt hb e)))).2.1
    cases f with
    | next => obtain ⟨σ7, H7, I7, n7⟩ := q7; exact again I7 n7
    | cont => obtain ⟨σ7, H7, I7, n7⟩ := q7; exact again I7 n7
    | brk => obtain ⟨σ7, H7, I7, q7⟩ := q7; exact ⟨σ7, H7, I7.unpinned, q7⟩
    | ret v => obtain ⟨x7, σ7, H7, I7, r7, q7⟩ := q7; exact ⟨x7, σ7, H7, I7.unpinned, r7, q7⟩
end

/-! ### the forms one uses -/
/-- over a list that the body leaves as it is -/
theorem for_list {K : PySem.W.Frag} {a : Addr} {xs : List V} {g : TG} {tb : TS} {D : Ends} {σ : St} {H : Hp} (Pv : Nat → St → Hp → Prop) (h0 : Pv 0 σ H) (hl : ∀ i σ H, i ≤ xs.length → Pv i σ H → SqL K H a xs)
    (hs : ∀ i x σ H, xs[i]? = some x → Pv i σ H → g x σ H fun σ2 H2 => tb { D with nx := Pv (i + 1), ct := Pv (i + 1), bk := D.nx } σ2 H2) (hd : ∀ σ H, Pv xs.length σ H → D.nx σ H) :
    ∃ W : Nat → Nat → St → Hp → Prop, (∃ m, W 0 m σ H) ∧ ∀ i m σ H, W i m σ H →
      ((Itl K a).stop i H ∧ D.nx σ H) ∨ ((Itl K a).go i H ∧ ∃ N : St → Hp → Prop, (∀ σ' H', N σ' H' → ∃ m', m' < m ∧ W (i + 1) m' σ' H') ∧ ∀ x H', (Itl K a).yld i H x H' → g x σ H' fun σ2 H2 => tb { D with nx := N, ct := N, bk := D.nx } σ2 H2) := by
  refine ⟨fun i m σ H => m = xs.length - i ∧ i ≤ xs.length ∧ Pv i σ H, ⟨xs.length, by simp, Nat.zero_le _, h0⟩, ?_⟩
  rintro i m σ H ⟨rfl, hi, p⟩
  have q := hl i σ H hi p
  by_cases hlt : i < xs.length
  · refine .inr ⟨⟨xs, xs[i], q, by simp [hlt]⟩, Pv (i + 1), fun σ' H' p' => ⟨xs.length - (i + 1), by omega, rfl, hlt, p'⟩, fun x H' y => ?_⟩
    obtain ⟨e, y⟩ := y
    subst e
    exact hs i x σ _ (y xs q) p
  · have e : i = xs.length := by omega
    subst e
    exact .inl ⟨⟨xs, q, Nat.le_refl _⟩, hd σ H p⟩
end L2

namespace L2
open PySem PySem.Spec PyProof.Rows

abbrev R2 := V → V → Hp → VK → Prop
/-- a two-place operation on values: f is binaryOp op, inplaceOp op or compareOp op -/
def OpR (X : Cx) (f : Value → Value → Sem Value) (r : R2) : Prop :=
  ∀ (pins : List (Addr × Obj)) (s : Shared) (σ : St) (H : Hp) (x y : V) (v u : Value) (Q : VK), Inv X pins σ H s → RelV x v → RelV y u → r x y H Q →
    wpAny (model X.prog X.w) X.A (f v u) (EP X pins σ Q) X.xe s
/-- a one-place operation -/
def UnR (X : Cx) (f : Value → Sem Value) (r : V → Hp → VK → Prop) : Prop :=
  ∀ (pins : List (Addr × Obj)) (s : Shared) (σ : St) (H : Hp) (x : V) (v : Value) (Q : VK), Inv X pins σ H s → RelV x v → r x H Q →
    wpAny (model X.prog X.w) X.A (f v) (EP X pins σ Q) X.xe s
/-- a call of a value that is known (a builtin, a type) with values -/
def CallR (X : Cx) (f : Value) (r : List V → Hp → VK → Prop) : Prop :=
  ∀ (pins : List (Addr × Obj)) (s : Shared) (σ : St) (H : Hp) (xs : List V) (us : List Value) (Q : VK), Inv X pins σ H s → Vals xs us → r xs H Q →
    wpAny (model X.prog X.w) X.A (call f us) (EP X pins σ Q) X.xe s

def tOp (r : R2) (ta tb : TE) : TE := fun σ H Q => ta σ H fun x H1 => tb σ H1 fun y H2 => r x y H2 Q
def tUn (r : V → Hp → VK → Prop) (ta : TE) : TE := fun σ H Q => ta σ H fun x H1 => r x H1 Q
/-- ints in, under C, and a value out -/
def rI (C : Int → Int → Prop) (g : Int → Int → V) : R2 := fun x y H Q => ∃ i j, x = .int i ∧ y = .int j ∧ C i j ∧ Q (g i j) H
def rI0 (g : Int → Int → V) : R2 := fun x y H Q => ∃ i j, x = .int i ∧ y = .int j ∧ Q (g i j) H
def rU (g : Int → V) : V → Hp → VK → Prop := fun x H Q => ∃ i, x = .int i ∧ Q (g i) H

section
variable {X : Cx} {a b c : Expr} {ta tb tc : TE} {pos : Pos}

theorem binT (ha : PE X a ta) (hb : PE X b tb) {pins : List (Addr × Obj)} {s : Shared} {σ : St} {H : Hp} {R : V → V → Hp → Prop} (I : Inv X pins σ H s)
    (h : ta σ H fun x H1 => tb σ H1 fun y H2 => R x y H2) {Q : Value → Shared → Prop} {f : Value → Value → Sem Value}
    (hf : ∀ v u s2 x y H2, Inv X pins σ H2 s2 → RelV x v → RelV y u → R x y H2 → wpAny (model X.prog X.w) X.A (f v u) Q X.xe s2) :
    wpAny (model X.prog X.w) X.A (eval a X.env) (fun v s₁ => wpAny (model X.prog X.w) X.A (eval b X.env) (fun u s₂ => wpAny (model X.prog X.w) X.A (f v u) Q X.xe s₂) X.xe s₁) X.xe s := by
  refine thn (ha pins s σ H _ I h) fun v s1 ⟨x, H1, I1, r1, q1⟩ => ?_
  refine thn (hb pins s1 σ H1 _ I1 q1) fun u s2 ⟨y, H2, I2, r2, q2⟩ => ?_
  exact hf v u s2 x y H2 I2 r1 r2 q2

theorem pe_op {op : Operator} {r : R2} (ho : OpR X (binaryOp op) r) (ha : PE X a ta) (hb : PE X b tb) : PE X (.BinOp a op b pos) (tOp r ta tb) := by
  intro pins s σ H Q I h
  exact wpAny_BinOp (binT ha hb I h fun v u s2 x y H2 I2 rx ry q => ho pins s2 σ H2 x y v u Q I2 rx ry q)
theorem pe_un {op : UnaryOp} {r : V → Hp → VK → Prop} (ho : UnR X (unaryOp op) r) (ha : PE X a ta) : PE X (.UnaryOp op a pos) (tUn r ta) := by
  intro pins s σ H Q I h
  exact UnaryOp_ (thn (ha pins s σ H _ I h) fun v s1 ⟨x, H1, I1, r1, q1⟩ => ho pins s1 σ H1 x v Q I1 r1 q1)

/-! ### ints -/
theorem opI {f : Value → Value → Sem Value} {C : Int → Int → Prop} {g : Int → Int → Int}
    (rule : ∀ (i j : Int) (t u : Tok) (s : Shared) (Q : Value → Shared → Prop) (E : Value → Shared → Prop), C i j → Q (.int (g i j) s.toks) { s with toks := s.toks + 1 } → wpAny (model X.prog X.w) X.A (f (.int i t) (.int j u)) Q E s) :
    OpR X f (rI C fun i j => .int (g i j)) := by
  intro pins s σ H x y v u Q I rx ry h
  obtain ⟨i, j, rfl, rfl, hc, q⟩ := h
  obtain ⟨t, rfl⟩ := rx
  obtain ⟨t', rfl⟩ := ry
  exact rule i j t t' s _ _ hc ⟨.int (g i j), H, I.tok _, ⟨_, rfl⟩, q⟩
theorem opI0 {f : Value → Value → Sem Value} {g : Int → Int → Int}
    (rule : ∀ (i j : Int) (t u : Tok) (s : Shared) (Q : Value → Shared → Prop) (E : Value → Shared → Prop), Q (.int (g i j) s.toks) { s with toks := s.toks + 1 } → wpAny (model X.prog X.w) X.A (f (.int i t) (.int j u)) Q E s) :
    OpR X f (rI0 fun i j => .int (g i j)) := by
  intro pins s σ H x y v u Q I rx ry h
  obtain ⟨i, j, rfl, rfl, q⟩ := h
  obtain ⟨t, rfl⟩ := rx
  obtain ⟨t', rfl⟩ := ry
  exact rule i j t t' s _ _ ⟨.int (g i j), H, I.tok _, ⟨_, rfl⟩, q⟩
theorem opB0 {f : Value → Value → Sem Value} {g : Int → Int → Bool}
    (rule : ∀ (i j : Int) (t u : Tok) (s : Shared) (Q : Value → Shared → Prop) (E : Value → Shared → Prop), Q (.bool (g i j)) s → wpAny (model X.prog X.w) X.A (f (.int i t) (.int j u)) Q E s) :
    OpR X f (rI0 fun i j => .bl (g i j)) := by
  intro pins s σ H x y v u Q I rx ry h
  obtain ⟨i, j, rfl, rfl, q⟩ := h
  obtain ⟨t, rfl⟩ := rx
  obtain ⟨t', rfl⟩ := ry
  exact rule i j t t' s _ _ ⟨.bl (g i j), H, I, rfl, q⟩

def CDiv (i j : Int) : Prop := 0 < j ∧ j < 1073741824

theorem op_add : OpR X (binaryOp .Add) (rI0 fun i j => .int (i + j)) := opI0 fun _ _ _ _ _ _ _ q => add_int q
/-- // by a positive divisor -/
theorem op_fdiv : OpR X (binaryOp .FloorDiv) (rI CDiv fun i j => .int (i / j)) := opI fun i j _ _ _ _ _ hc q => by
  have h1 : (0 : Int) < j := hc.1
  have h2 : j < 1073741824 := hc.2
  exact floordiv_int (by omega) (by rw [Int.fdiv_eq_ediv_of_nonneg i (by omega)]; exact q) (.inl (PyProof.noPylong_small (by omega)))
/-- % by a positive divisor of any size -/
theorem op_mod : OpR X (binaryOp .Mod) (rI (fun _ j => 0 < j) fun i j => .int (i % j)) := opI fun i j _ _ _ _ _ hc q => by
  have h1 : (0 : Int) < j := hc
  exact mod_int' (by omega) (by rw [Int.fmod_eq_emod_of_nonneg i (by omega)]; exact q)


theorem unI {f : Value → Sem Value} {g : Int → Int}
    (rule : ∀ (i : Int) (t : Tok) (s : Shared) (Q : Value → Shared → Prop) (E : Value → Shared → Prop), Q (.int (g i) s.toks) { s with toks := s.toks + 1 } → wpAny (model X.prog X.w) X.A (f (.int i t)) Q E s) :
    UnR X f (rU fun i => .int (g i)) := by
  intro pins s σ H x v Q I rx h
  obtain ⟨i, rfl, q⟩ := h
  obtain ⟨t, rfl⟩ := rx
  exact rule i t s _ _ ⟨.int (g i), H, I.tok _, ⟨_, rfl⟩, q⟩
theorem un_neg : UnR X (unaryOp .USub) (rU fun i => .int (-i)) := unI fun _ _ _ _ _ q => neg_int q

/-! ### bools among ints: n += (a < b) -/
end

/-! ### comparisons -/
/-- the scalars that == tells apart as data does -/
def scal : V → V → Bool
  | .non, .non => true | .non, .int _ => true | .int _, .non => true | .non, .bl _ => true | .bl _, .non => true | .non, .str _ => true | .str _, .non => true
  | .int _, .int _ => true | .bl _, .bl _ => true | .str _, .str _ => true | .byt _, .byt _ => true
  | .int _, .str _ => true | .str _, .int _ => true | .bl _, .str _ => true | .str _, .bl _ => true
  | _, _ => false
def rEq : R2 := fun x y H Q => scal x y = true ∧ Q (.bl (decide (x = y))) H
def rNe : R2 := fun x y H Q => scal x y = true ∧ Q (.bl (!decide (x = y))) H

theorem dec_int {i j : Int} : decide (V.int i = V.int j) = (i == j) := by
  rw [Bool.eq_iff_iff]
  simp
theorem dec_bl {i j : Bool} : decide (V.bl i = V.bl j) = (i == j) := by
  rw [Bool.eq_iff_iff]
  simp
theorem dec_str {i j : Str} : decide (V.str i = V.str j) = (i == j) := by
  rw [Bool.eq_iff_iff]
  simp
theorem dec_byt {i j : Array UInt8} : decide (V.byt i = V.byt j) = (i.toList == j.toList) := by
  rw [Bool.eq_iff_iff]
  cases i
  cases j
  simp

section
variable {X : Cx} {a b c : Expr} {ta tb tc : TE} {pos : Pos}
theorem fin_bl {pins : List (Addr × Obj)} {σ : St} {H : Hp} {s : Shared} {Q : VK} {k k' : Bool} (I : Inv X pins σ H s) (q : Q (.bl k) H) (e : k = k') : EP X pins σ Q (.bool k') s := by
  subst e
  exact ⟨.bl k, H, I, rfl, q⟩
theorem op_eq : OpR X (compareOp .Eq) rEq := by
  intro pins s σ H x y v u Q I rx ry h
  obtain ⟨hs, q⟩ := h
  cases x with
  | non =>
    cases rx
    cases y with
    | non => cases ry; exact PySem.EqNone.eq_none_none (fin_bl I q (by simp))
    | bl j => cases ry; exact PySem.EqNone.eq_none_bool (fin_bl I q (by simp))
    | int j => obtain ⟨t', rfl⟩ := ry; exact PySem.EqNone.eq_none_int (fin_bl I q (by simp))
    | str j => obtain ⟨t', rfl⟩ := ry; exact PySem.EqNone.eq_none_str (fin_bl I q (by simp))
    | _ => exact absurd (show false = true from hs) Bool.false_ne_true
  | bl i =>
    cases rx
    cases y with
    | non => cases ry; exact PySem.EqNone.eq_bool_none (fin_bl I q (by simp))
    | bl j => cases ry; exact eq_bool (fin_bl I q dec_bl)
    | str j => obtain ⟨t', rfl⟩ := ry; exact PySem.EqMixed.eq_bool_str (fin_bl I q (by simp))
    | _ => exact absurd (show false = true from hs) Bool.false_ne_true
  | int i =>
    obtain ⟨t, rfl⟩ := rx
    cases y with
    | non => cases ry; exact PySem.EqNone.eq_int_none (fin_bl I q (by simp))
    | int j => obtain ⟨t', rfl⟩ := ry; exact eq_int (fin_bl I q dec_int)
    | str j => obtain ⟨t', rfl⟩ := ry; exact PySem.EqMixed.eq_int_str (fin_bl I q (by simp))
    | _ => exact absurd (show false = true from hs) Bool.false_ne_true
  | str i =>
    obtain ⟨t, rfl⟩ := rx
    cases y with
    | non => cases ry; exact PySem.EqNone.eq_str_none (fin_bl I q (by simp))
    | bl j => cases ry; exact PySem.EqMixed.eq_str_bool (fin_bl I q (by simp))
    | int j => obtain ⟨t', rfl⟩ := ry; exact PySem.EqMixed.eq_str_int (fin_bl I q (by simp))
    | str j => obtain ⟨t', rfl⟩ := ry; exact eq_str (fin_bl I q dec_str)
    | _ => exact absurd (show false = true from hs) Bool.false_ne_true
  | byt i =>
    obtain ⟨t, rfl⟩ := rx
    cases y with
    | byt j => obtain ⟨t', rfl⟩ := ry; exact PySem.W.eq_bytes (fin_bl I q dec_byt)
    | _ => exact absurd (show false = true from hs) Bool.false_ne_true
  | _ => cases y <;> exact absurd (show false = true from hs) Bool.false_ne_true
theorem op_ne : OpR X (compareOp .NotEq) rNe := by
  intro pins s σ H x y v u Q I rx ry h
  obtain ⟨hs, q⟩ := h
  cases x with
  | non =>
    cases rx
    cases y with
    | non => cases ry; exact PySem.EqNone.ne_none_none (fin_bl I q (by simp))
    | bl j => cases ry; exact PySem.EqNone.ne_none_bool (fin_bl I q (by simp))
    | int j => obtain ⟨t', rfl⟩ := ry; exact PySem.EqNone.ne_none_int (fin_bl I q (by simp))
    | str j => obtain ⟨t', rfl⟩ := ry; exact PySem.EqNone.ne_none_str (fin_bl I q (by simp))
    | _ => exact absurd (show false = true from hs) Bool.false_ne_true
  | bl i =>
    cases rx
    cases y with
    | non => cases ry; exact PySem.EqNone.ne_bool_none (fin_bl I q (by simp))
    | bl j => cases ry; exact ne_bool (fin_bl I q (congrArg not dec_bl))
    | str j => obtain ⟨t', rfl⟩ := ry; exact PySem.EqMixed.ne_bool_str (fin_bl I q (by simp))
    | _ => exact absurd (show false = true from hs) Bool.false_ne_true
  | int i =>
    obtain ⟨t, rfl⟩ := rx
    cases y with
    | non => cases ry; exact PySem.EqNone.ne_int_none (fin_bl I q (by simp))
    | int j => obtain ⟨t', rfl⟩ := ry; exact ne_int (fin_bl I q (congrArg not dec_int))
    | str j => obtain ⟨t', rfl⟩ := ry; exact PySem.EqMixed.ne_int_str (fin_bl I q (by simp))
    | _ => exact absurd (show false = true from hs) Bool.false_ne_true
  | str i =>
    obtain ⟨t, rfl⟩ := rx
    cases y with
    | non => cases ry; exact PySem.EqNone.ne_str_none (fin_bl I q (by simp))
    | bl j => cases ry; exact PySem.EqMixed.ne_str_bool (fin_bl I q (by simp))
    | int j => obtain ⟨t', rfl⟩ := ry; exact PySem.EqMixed.ne_str_int (fin_bl I q (by simp))
    | str j => obtain ⟨t', rfl⟩ := ry; exact ne_str (fin_bl I q (congrArg not dec_str))
    | _ => exact absurd (show false = true from hs) Bool.false_ne_true
  | byt i =>
    obtain ⟨t, rfl⟩ := rx
    cases y with
    | byt j => obtain ⟨t', rfl⟩ := ry; exact PySem.W.ne_bytes (fin_bl I q (congrArg not dec_byt))
    | _ => exact absurd (show false = true from hs) Bool.false_ne_true
  | _ => cases y <;> exact absurd (show false = true from hs) Bool.false_ne_true

theorem op_lt : OpR X (compareOp .Lt) (rI0 fun i j => .bl (decide (i < j))) := opB0 fun _ _ _ _ _ _ _ q => lt_int q
theorem op_le : OpR X (compareOp .LtE) (rI0 fun i j => .bl (decide (i ≤ j))) := opB0 fun _ _ _ _ _ _ _ q => le_int q
theorem op_gt : OpR X (compareOp .Gt) (rI0 fun i j => .bl (decide (j < i))) := opB0 fun _ _ _ _ _ _ _ q => gt_int q
/-- the one string within the other -/
theorem op_in_str : OpR X (compareOp .In) (fun x y H Q => ∃ i j, x = .str i ∧ y = .str j ∧ Q (.bl (!(Builtin.Str.occurrences j i 0 j.length 1).isEmpty)) H) := by
  intro pins s σ H x y v u Q I rx ry h
  obtain ⟨i, j, rfl, rfl, q⟩ := h
  obtain ⟨t, rfl⟩ := rx
  obtain ⟨t', rfl⟩ := ry
  exact in_str (fin_bl I q rfl)

/-- is None, is not None: the right side a value none -/
theorem op_isN : OpR X (compareOp .Is) (fun x y H Q => y = .non ∧ Q (.bl (decide (x = .non))) H) := by
  intro pins s σ H x y v u Q I rx ry h
  obtain ⟨rfl, q⟩ := h
  cases ry
  refine is_none_gen (fin_bl I q ?_)
  cases x <;> first
    | (cases rx; rfl)
    | (obtain ⟨t, rfl⟩ := rx; rfl)



theorem nomark (b : Expr) {op : CmpOp} (h : op ≠ .In := by decide) (h2 : op ≠ .NotIn := by decide) : behindInMarks op b = false := by
  have e1 : (op == CmpOp.In) = false := by cases op <;> first | rfl | exact absurd rfl h
  have e2 : (op == CmpOp.NotIn) = false := by cases op <;> first | rfl | exact absurd rfl h2
  cases b <;> simp [behindInMarks, e1, e2]
/-- a comparison as a value; hm: nomark b, or (for in, not in) by with_unfolding_all rfl -/
theorem pe_cmpR {op : CmpOp} {r : R2} (ho : OpR X (compareOp op) r) (ha : PE X a ta) (hb : PE X b tb) (hm : behindInMarks op b = false) : PE X (.Compare a [op] [b] pos) (tOp r ta tb) := by
  intro pins s σ H Q I h
  exact wpAny_Compare1 (binT ha hb I h fun v u s2 x y H2 I2 rx ry q => ho pins s2 σ H2 x y v u Q I2 rx ry q) hm
/-- a reading of a value as a test -/
def tTest (t : TE) : TT := fun σ H Q => t σ H fun x H' => ∃ k, x = .bl k ∧ Q k H'
theorem pt_cmpR {op : CmpOp} {r : R2} (ho : OpR X (compareOp op) r) (ha : PE X a ta) (hb : PE X b tb) (hm : behindInMarks op b = false) : PT X (.Compare a [op] [b] pos) (tTest (tOp r ta tb)) := by
  intro pins s σ H Q I h
  refine wpAny_isTrue_Compare1 (thn (ha pins s σ H _ I h) fun v s1 ⟨x, H1, I1, r1, q1⟩ => thn (hb pins s1 σ H1 _ I1 q1) fun u s2 ⟨y, H2, I2, r2, q2⟩ =>
    thn (ho pins s2 σ H2 x y v u _ I2 r1 r2 q2) fun c s3 ⟨z, H3, I3, r3, k, e, q3⟩ => ?_) hm
  subst e
  cases r3
  exact wpAny_truthy_bool ⟨H3, I3, q3⟩

/-! ### truth -/
theorem line63 : (sizeLine : Nat) < 2 ^ 63 := by rw [sizeLine_eq]; decide

/-! ### strs and bytes -/
theorem op_add_str : OpR X (binaryOp .Add) (fun x y H Q => ∃ i j, x = .str i ∧ y = .str j ∧ i.length + j.length ≤ sizeLine ∧ Q (.str (i ++ j)) H) := by
  intro pins s σ H x y v u Q I rx ry h
  obtain ⟨i, j, rfl, rfl, hz, q⟩ := h
  obtain ⟨t, rfl⟩ := rx
  obtain ⟨t', rfl⟩ := ry
  exact add_str (fun t' tk => ⟨.str (i ++ j), H, I.tok _, ⟨_, rfl⟩, q⟩) hz


/-! ### scalar builtins, by CallR -/
theorem vals1 {x : V} {us : List Value} (r : Vals [x] us) : ∃ u, us = [u] ∧ RelV x u := by
  cases r with
  | cons r1 r2 => cases r2; exact ⟨_, rfl, r1⟩
theorem vals2 {x y : V} {us : List Value} (r : Vals [x, y] us) : ∃ u w', us = [u, w'] ∧ RelV x u ∧ RelV y w' := by
  cases r with
  | cons r1 r2 =>
    cases r2 with
    | cons r3 r4 => cases r4; exact ⟨_, _, rfl, r1, r3⟩
end
end L2

namespace L2
open PySem PySem.Spec PyProof.Rows

/-! ### an instance, its attributes a map -/
structure ObjM (h : Heap) (x dx C : Addr) (mA : Str → Option Value) : Prop where
  obj : h.get? x = some (PySem.W.instObj C dx)
  ns : h.Ns1 dx mA
  ne : dx ≠ x

theorem lookIn_ns {h : Heap} {dx : Addr} {mA : Str → Option Value} (n : h.Ns1 dx mA) : ∃ od, h.get? dx = some od ∧ ∀ name, PySem.W.lookIn name od = some (mA name) := by
  obtain ⟨o, es, ep, ho, hd, hk, _, hm⟩ := n
  refine ⟨o, ho, fun name => ?_⟩
  have e := hm name
  unfold nsFind findBy at e
  rw [← Array.find?_toList] at e
  unfold PySem.W.lookIn
  rw [hd]
  dsimp only
  split
  · rename_i y q
    rw [q] at e
    exact congrArg some e
  · rename_i q
    rw [q] at e
    have a : es.toList.any (·.refKey) = false := by
      rw [List.any_eq_false]
      intro y hy
      obtain ⟨z, t, hkey⟩ := hk y (Array.mem_toList_iff.mp hy)
      simp [DictEntry.refKey, hkey]
    have a' : ¬ es.toList.any (·.refKey) = true := by rw [a]; exact Bool.false_ne_true
    rw [if_neg a']
    exact congrArg some e

theorem ObjM.look {h : Heap} {x dx C : Addr} {mA : Str → Option Value} (I : ObjM h x dx C mA) : ∃ od, PySem.W.InstAt h x (PySem.W.instObj C dx) C (some od) ∧ ∀ name, PySem.W.lookIn name od = some (mA name) :=
  let ⟨od, ho, hl⟩ := lookIn_ns I.ns
  ⟨od, ⟨I.obj, rfl, rfl, ho⟩, hl⟩

section
variable {prog : Program} {w : World} {A : Around} {E : Value → Shared → Prop} {s : Shared} {K : PySem.W.Frag} {x dx C f : Addr} {mA : Str → Option Value} {name : Str} {v : Value}





end

/-! ### the attributes as a list of pairs -/

theorem RelO.some_of {v : V} {o : Option Value} (r : RelO (some v) o) : ∃ u, o = some u ∧ RelV v u := by
  cases o with
  | none => exact (show False from r).elim
  | some u => exact ⟨u, rfl, r⟩
theorem RelO.none_of {o : Option Value} (r : RelO none o) : o = none := by
  cases o with
  | none => rfl
  | some u => exact (show False from r).elim
theorem handed_of {v : V} {u : Value} (r : RelV v u) : PySem.W.handedIn u = true := by
  cases v with
  | non => cases (show u = Value.none from r); rfl
  | bl b => cases (show u = Value.bool b from r); rfl
  | int i => obtain ⟨t, e⟩ := (show ∃ t, u = Value.int i t from r); cases e; rfl
  | str x => obtain ⟨t, e⟩ := (show ∃ t, u = Value.str x t from r); cases e; rfl
  | byt b => obtain ⟨t, e⟩ := (show ∃ t, u = Value.bytes b t from r); cases e; rfl
  | flt b => obtain ⟨t, e⟩ := (show ∃ t, u = Value.float b t from r); cases e; rfl
  | ref a => cases (show u = Value.ref a from r); rfl
  | ty n => cases (show u = Value.type n from r); rfl

section
variable {P : Program} {w : World} {H H' : Hp} {h h' : Heap} {a C dx : Addr} {fs fs' : List (Str × V)}
theorem ins_get (hok : HOk P w H h) (e : H a = some (.ins C dx fs)) : ∃ mA, ObjM h a dx C mA ∧ (∀ f, RelO (fs.lookup f) (mA f)) ∧ PySem.Within mA (fs.map (·.1)) ∧ fs.length ≤ 1000 ∧ H dx = some (.own a) := by
  obtain ⟨d, z, ne, ob, mA, n, r, q⟩ := (show ObjOk P w H h a (.ins C dx fs) from hok a _ e)
  exact ⟨mA, ⟨ob, n, ne⟩, r, q, z, d⟩
end

/-! ### what of the text a class must have -/
structure Cls (K : PySem.W.Frag) (C : Addr) : Prop where
  pg : PySem.W.plainGet K C Str.empty = true
  hd : PySem.W.hasDictIn K C = true
  po : PySem.W.plainOver K C = true
  sa : PySem.W.findIn K (.ref C) "__setattr__" = some (some (.builtin "object.__setattr__"))
theorem Cls.get {K : PySem.W.Frag} {C : Addr} (c : Cls K C) (f : Str) : PySem.W.plainGet K C f = true := c.pg
/-- a method: a plain def of the class or of one above it -/
structure Meth (K : PySem.W.Frag) (C : Addr) (m : Str) (f : Addr) : Prop where
  at_ : PySem.W.findIn K (.ref C) m = some (some (.ref f))
  fn : PySem.W.isFn K (.ref f) = true
  kp : PySem.W.keepIn K (.ref f) = true

section
variable {X : Cx} {pins : List (Addr × Obj)} {σ : St} {H : Hp} {s : Shared} {a C dx : Addr} {fs : List (Str × V)} {f : Str} {v : V} {A : Around} {E : Value → Shared → Prop}






/-- e.f where nothing but the object is asked: through attributeBase (super) and the last hold -/
theorem attr_of {prog : Program} {w : World} {env : Env} {e : Expr} {f : Str} {pos : Pos} {s : Shared} {Q : Value → Shared → Prop} (hb : attributeBase e f env (eval e env) = eval e env)
    (h : wpAny (model prog w) A (eval e env) (fun o s₁ => wpAny (model prog w) A (getAttr o f true) Q E s₁) E s) : wpAny (model prog w) A (eval (.Attribute e f pos) env) Q E s :=
  Attribute_any_ h (by rw [arm_eval_Attribute, hb])
end

/-! ### readings and rules -/

section
variable {X : Cx} {o e value : Expr} {f : Str} {pos pos' tpos : Pos} {ta tv : TE}

end

/-! ### isinstance -/
section
variable {X : Cx} {pins : List (Addr × Obj)} {σ : St} {H : Hp} {s : Shared} {A : Around} {E : Value → Shared → Prop} {Q : Value → Shared → Prop} {c : Value} {b : Bool}
/-- the type of a value, as the fragment's deciders take it; for an instance its class -/
inductive TyOf (K : PySem.W.Frag) (H : Hp) : V → Value → Prop where
  | non : TyOf K H .non (.type "NoneType")
  | bl (x : Bool) : TyOf K H (.bl x) (.type "bool")
  | int (i : Int) : TyOf K H (.int i) (.type "int")
  | str (x : Str) : TyOf K H (.str x) (.type "str")
  | flt (x : UInt64) : TyOf K H (.flt x) (.type "float")
  | lst {a : Addr} {xs : List V} (e : H a = some (.lst xs)) : TyOf K H (.ref a) (.type "list")
  | frz {a : Addr} {o : Obj} {xs : List V} (e : H a = some (.frz o (.lst xs))) : TyOf K H (.ref a) (.type "list")
  | tup {a : Addr} {xs : List V} (e : H a = some (.tup xs)) : TyOf K H (.ref a) (.type "tuple")
  | dK {a : Addr} {kvs : List (Key × V)} (e : H a = some (.dK kvs)) : TyOf K H (.ref a) (.type "dict")
  | dT {a : Addr} {kvs : List (List Key × V)} (e : H a = some (.dT kvs)) : TyOf K H (.ref a) (.type "dict")
  | ins {a C dx : Addr} {fs : List (Str × V)} (e : H a = some (.ins C dx fs)) (cl : Cls K C) (ha : PySem.W.findIn K (.ref C) "__class__" = some (some (.builtin "object.__class__")))
      (hn : PySem.W.specialIn K (.builtin "object.__class__") "__get__" = some (some (.builtin "getset_descriptor.__get__"))) (htk : PySem.W.takesIn K (.builtin "object.__class__") = some true)
      (hm : PySem.W.mroIn K C (.type "object") = some true) : TyOf K H (.ref a) (.ref C)
/-- isinstance(x, c) for one class c, a built-in or an own one: kitOne's answer -/
theorem isinst_ok {x : V} {u t : Value} (I : Inv X pins σ H s) (rx : RelV x u) (ty : TyOf X.K H x t) (e : PySem.W.kitOne X.K t c = some b) (h : ∀ tk, Q (.bool b) { s with toks := tk }) :
    wpAny (model X.prog X.w) A (call (.builtin "isinstance") [u, c]) Q E s := by
  cases ty with
  | non => cases (show u = Value.none from rx); exact PySem.W.kia_one PySem.W.kitx_none I.kIn True.intro e (fun z => nomatch z) h
  | bl y => cases (show u = Value.bool y from rx); exact PySem.W.kia_one PySem.W.kitx_bool I.kIn True.intro e (fun z => nomatch z) h
  | int i => obtain ⟨t, q⟩ := (show ∃ t, u = Value.int i t from rx); cases q; exact PySem.W.kia_one PySem.W.kitx_int I.kIn True.intro e (fun z => nomatch z) h
  | str y => obtain ⟨t, q⟩ := (show ∃ t, u = Value.str y t from rx); cases q; exact PySem.W.kia_one PySem.W.kitx_str I.kIn True.intro e (fun z => nomatch z) h
  | flt y => obtain ⟨t, q⟩ := (show ∃ t, u = Value.float y t from rx); cases q; exact PySem.W.kia_one PySem.W.kitx_float I.kIn True.intro e (fun z => nomatch z) h
  | @lst a xs ea =>
    cases (show u = Value.ref a from rx)
    obtain ⟨_, _, n, _, h1⟩ := (show ObjOk X.prog X.w H s.heap a (.lst xs) from I.hok a _ ea)
    exact PySem.W.kia_one PySem.W.kitx_list I.kIn ⟨_, h1, rfl⟩ e (fun z => nomatch z) h
  | @frz a ob xs ea =>
    cases (show u = Value.ref a from rx)
    obtain ⟨_, _, _, n, _, h1⟩ := (show ObjOk X.prog X.w H s.heap a (.frz ob (.lst xs)) from I.hok a _ ea)
    exact PySem.W.kia_one PySem.W.kitx_list I.kIn ⟨_, h1, rfl⟩ e (fun z => nomatch z) h
  | @tup a xs ea =>
    cases (show u = Value.ref a from rx)
    obtain ⟨_, _, _, p⟩ := (show ObjOk X.prog X.w H s.heap a (.tup xs) from I.hok a _ ea)
    obtain ⟨o, h1, h2, _⟩ := p
    exact PySem.W.kia_one PySem.W.kitx_tuple I.kIn ⟨o, h1, h2⟩ e (fun z => nomatch z) h
  | @dK a kvs ea =>
    cases (show u = Value.ref a from rx)
    obtain ⟨_, _, vs, _, p⟩ := (show ObjOk X.prog X.w H s.heap a (.dK kvs) from I.hok a _ ea)
    obtain ⟨o, es, ep, h1, h2, _⟩ := p
    exact PySem.W.kia_one PySem.W.kitx_dict I.kIn ⟨o, h1, h2.1⟩ e (fun z => nomatch z) h
  | @dT a kvs ea =>
    cases (show u = Value.ref a from rx)
    obtain ⟨_, _, xs, _, o, es, ep, h1, h2, _⟩ := (show ObjOk X.prog X.w H s.heap a (.dT kvs) from I.hok a _ ea)
    exact PySem.W.kia_one PySem.W.kitx_dict I.kIn ⟨o, h1, h2.1⟩ e (fun z => nomatch z) h
  | @ins a C dx fs ea cl ha hn htk hm =>
    cases (show u = Value.ref a from rx)
    obtain ⟨mA, O, _⟩ := ins_get I.hok ea
    obtain ⟨od, J, _⟩ := O.look
    exact PySem.W.kia_one (PySem.W.kitx_own (cl.get _) cl.hd ha hn htk hm) I.kIn J e (fun z => nomatch z) h
end
end L2

namespace L2
open PySem PySem.Spec PyProof.Rows

/-! ### room -/
structure Room (k : Nat) (A : Around) : Prop where
  hd : A.handled = none
  dp : A.depth + 3 * k + 5 < recursionLimit
  un : A.units + 16 * k + 200 < cLine
theorem Room.mono {j k : Nat} {A : Around} (r : Room k A) (h : j ≤ k) : Room j A := ⟨r.hd, by have := r.dp; omega, by have := r.un; omega⟩
theorem Room.deeper {k : Nat} {A : Around} (r : Room (k + 1) A) (env : Env) : Room k (A.deeper env) :=
  ⟨r.hd, by have := r.dp; show A.depth + 1 + 3 * k + 5 < _; omega, by have := r.un; show A.units + 3 + 16 * k + 200 < _; omega⟩
theorem make_depth {A : Around} {C : Addr} {us : List Value} {kw : List (Str × Value)} : (A.under (.builtin "type.__call__" ⟨.ref C :: us, kw⟩)).depth = A.depth + 1 := by
  first | rfl | simp [Around.under, Code.weight, Code.isCreation, Code.isGuard, Code.isCaller, Code.frames, Code.isFrame, guardIds]
theorem make_units {A : Around} {C : Addr} {us : List Value} {kw : List (Str × Value)} : (A.under (.builtin "type.__call__" ⟨.ref C :: us, kw⟩)).units = A.units + 1 := by
  first | rfl | simp [Around.under, Code.cUnits, Code.frames, Code.isFrame]
theorem Room.make {k : Nat} {A : Around} (r : Room (k + 1) A) (C : Addr) (us : List Value) (kw : List (Str × Value)) : Room k (A.under (.builtin "type.__call__" ⟨.ref C :: us, kw⟩)) :=
  ⟨r.hd, by have := r.dp; rw [make_depth]; omega, by have := r.un; rw [make_units]; omega⟩
theorem Room.depth {k : Nat} {A : Around} (r : Room k A) : A.depth < recursionLimit := by have := r.dp; omega

/-! ### argument lists and displays -/
def tNil : TA := fun _ H Q => Q [] H
def tCons (ta : TE) (tr : TA) : TA := fun σ H Q => ta σ H fun x H1 => tr σ H1 fun xs H2 => Q (x :: xs) H2
section
variable {X : Cx} {e : Expr} {es : List Expr} {te : TE} {t : TA} {pos : Pos}
theorem pa_nil : PA X [] tNil := fun _ _ _ _ H Q I h => Calls.spliced_nil ⟨[], H, I, .nil, h⟩
theorem pa_cons (ha : PE X e te) (hr : PA X es t) (hs : starEach (e :: es) X.env = (false, eval e X.env) :: starEach es X.env := by rfl) : PA X (e :: es) (tCons te t) := by
  intro pos pins s σ H Q I h
  rw [hs]
  show wpAny _ _ (spliced ((false, eval e X.env) :: backTo pos (starEach es X.env))) _ _ s
  refine Calls.spliced_cons (thn (ha pins s σ H _ I h) fun u s1 ⟨x, H1, I1, r1, q1⟩ => ?_)
  exact thn (hr pos pins s1 σ H1 _ I1 q1) fun us s2 ⟨xs, H2, I2, r2, q2⟩ => ⟨x :: xs, H2, I2, .cons r1 r2, q2⟩

/-- a tuple, a list of written items -/
def tTup (t : TA) : TE := fun σ H Q => t σ H fun xs H1 => xs.length ≤ sizeLine ∧ ∀ p, H1 p = none → Q (.ref p) (upd H1 p (.tup xs))
def tLst (t : TA) : TE := fun σ H Q => t σ H fun xs H1 => xs.length ≤ sizeLine ∧ ∀ p, H1 p = none → Q (.ref p) (upd H1 p (.lst xs))
theorem pe_tup {x1} (h : PA X es t) : PE X (.Tuple es x1 pos) (tTup t) := by
  intro pins s σ H Q I hq
  refine wpAny_Tuple_spliced (thn (h pos pins s σ H _ I hq) fun us s1 ⟨xs, H1, I1, r, z, q⟩ => ⟨by rw [← r.length]; exact z, ?_⟩)
  have hf : H1 s1.heap.objs.size = none := I1.hok.fresh (Nat.le_refl _)
  refine ⟨.ref s1.heap.objs.size, upd H1 s1.heap.objs.size (.tup xs), I1.laid (t' := s1.toks) (fun b u e => Heap.get?_push_of_some _ e) (Nat.le_refl _) ?_, rfl, q _ hf⟩
  exact ⟨z, us, r, ⟨_, Heap.get?_push_size _ rfl, rfl, _, rfl⟩⟩
theorem pe_lst (h : PA X es t) : PE X (.List es pos) (tLst t) := by
  intro pins s σ H Q I hq
  refine wpAny_List_spliced (thn (h pos pins s σ H _ I hq) fun us s1 ⟨xs, H1, I1, r, z, q⟩ => ⟨by rw [← r.length]; exact z, ?_⟩)
  have hf : H1 s1.heap.objs.size = none := I1.hok.fresh (Nat.le_refl _)
  refine ⟨.ref s1.heap.objs.size, upd H1 s1.heap.objs.size (.lst xs), I1.laid (t' := s1.toks) (fun b u e => Heap.get?_push_of_some _ e) (Nat.le_refl _) ?_, rfl, q _ hf⟩
  exact ⟨z, us, 0, r, Heap.get?_push_size _ rfl⟩
end

/-! ### what a def promises -/
/-- a def's promise: the bound arguments in the parameters' order, the heap, the wanted end, the wanted exception -/
abbrev Sp := List V → Hp → VK → XK → Prop
/-- how an exception lies behind a call (file 08 gives it): the callers' frames, abstract heap and state ahead of the call, the wish, the exception, the state -/
abbrev CXT := List Env → Hp → Shared → XK → Value → Shared → Prop

/-- the state at a call -/
structure Env0 (P : Program) (w : World) (K : PySem.W.Frag) (mg : Str → Option Value) (base : Heap) (A : Around) (outer : List Env) (s : Shared) (H : Hp) : Prop where
  frames : A.frames = some outer
  mod : Mod K mg base
  bs : ∀ b o, base.get? b = some o → s.heap.get? b = some o ∧ H b = none
  bsz : base.objs.size ≤ s.heap.objs.size
  funs : s.heap.FunFrames base outer
  frf : ∀ b ∈ frs outer, H b = none
  hok : HOk P w H s.heap
  bare : AllBare s.gens
/-- a call's end -/
def CE (outer : List Env) (P : Program) (w : World) (H : Hp) (s : Shared) (Q : VK) (u : Value) (s' : Shared) : Prop :=
  ∃ v H', s'.os = s.os ∧ AllBare s'.gens ∧ Un (frs outer) [] H H' s.heap s'.heap ∧ HOk P w H' s'.heap ∧ RelV v u ∧ Q v H'
def CR (CX : CXT) (outer : List Env) (P : Program) (w : World) (H : Hp) (s : Shared) (Q : VK) (E : XK) (r : Result) (s' : Shared) : Prop :=
  match r with
  | .ok (.ret u) => CE outer P w H s Q u s'
  | .ok _ => False
  | .error e => CX outer H s E e s'
structure FnOk (P : Program) (w : World) (K : PySem.W.Frag) (mg : Str → Option Value) (base : Heap) (CX : CXT) (k : Nat) (f : Addr) (fd : FuncData) (ps : List Str) (sp : Sp) : Prop where
  len : ∀ vs H Q E, sp vs H Q E → vs.length = ps.length
  run : ∀ (A : Around) (outer : List Env) (s : Shared) (H : Hp) (args : Args) (us : List Value) (vs : List V) (Q : VK) (E : XK), Room k A → Env0 P w K mg base A outer s H → BindsTo s fd args (ps.zip us) → Vals vs us → sp vs H Q E →
    codeAny (model P w) A (.call (.ref f) args) (CR CX outer P w H s Q E) s

theorem Env0.make {P : Program} {w : World} {K : PySem.W.Frag} {mg : Str → Option Value} {base : Heap} {A : Around} {outer : List Env} {s : Shared} {H : Hp} (e : Env0 P w K mg base A outer s H) (C : Addr) (us : List Value) (kw : List (Str × Value)) :
    Env0 P w K mg base (A.under (.builtin "type.__call__" ⟨.ref C :: us, kw⟩)) outer s H := ⟨by first | exact e.frames | (simpa [Around.under, Code.envs, Code.isFrame, pushEnvs] using e.frames), e.mod, e.bs, e.bsz, e.funs, e.frf, e.hok, e.bare⟩

section
variable {X : Cx} {pins : List (Addr × Obj)} {σ : St} {H : Hp} {s s' : Shared}
/-- from a body: what a callee wants -/
theorem Inv.env0 (I : Inv X pins σ H s) : Env0 X.prog X.w X.K X.mg X.base X.A X.stack s H :=
  ⟨I.ok.frames, I.ok.mod, I.bs, Nat.le_trans I.ok.bsz I.sz, I.stack, I.stkFree, I.hok, I.bare⟩
/-- behind a call -/
theorem Inv.after {Q : VK} {u : Value} (I : Inv X pins σ H s) (h : CE X.stack X.prog X.w H s Q u s') : EP X pins σ Q u s' := by
  obtain ⟨v, H', os, bare, un, hok, r, q⟩ := h
  obtain ⟨hh, g, d, t, os'⟩ := s'
  obtain rfl : os' = s.os := os
  exact ⟨v, H', I.call (h' := hh) (g' := g) (d' := d) (t' := t) (ch := []) un hok bare (fun b z => absurd z (by simp)), r, q⟩
end

/-! ### calls -/

/-- how the parameters are bound: us the positional arguments, kw the keywords' values by name, ds the defaults that fill up -/
def Binds (K : PySem.W.Frag) (fd : FuncData) (ps : List Str) (ds : List Value) : Prop :=
  ∀ (s : Shared) (us : List Value), K.In s.heap → (us ++ ds).length = ps.length → BindsTo s fd ⟨us, []⟩ (ps.zip (us ++ ds))
/-- every parameter is given -/
theorem Binds.all {K : PySem.W.Frag} {fd : FuncData} {ps : List Str} (h : ∀ us : List Value, us.length = ps.length → bindArgs fd ⟨us, []⟩ = pure (ps.zip us)) : Binds K fd ps [] := fun s us _ hl => by
  rw [List.append_nil] at hl ⊢
  exact .of_eq (h us hl)

/-- an exception of a callee reaches what this body wants of exceptions -/
def Passes (CX : CXT) (X : Cx) (E : XK) : Prop := ∀ (pins : List (Addr × Obj)) (σ : St) (H : Hp) (s : Shared) (e : Value) (s' : Shared), Inv X pins σ H s → CX X.stack H s E e s' → X.xe e s'

section
variable {X : Cx} {CX : CXT} {k : Nat} {f C : Addr} {fd : FuncData} {ps : List Str} {sp : Sp} {dvs : List V} {ds : List Value} {E : XK} {x m : Str} {p pos apos : Pos} {e o : Expr} {es : List Expr} {ta : TE} {t : TA}





end

/-! ### keywords -/
section
variable {X : Cx} {CX : CXT} {k : Nat} {f C : Addr} {fd : FuncData} {ps ks : List Str} {sp : Sp} {E : XK} {x m : Str} {p pos apos kpos : Pos} {e o : Expr} {es : List Expr} {kws : List Keyword} {te ta : TE} {t tk : TA} {nm : Option Str}

variable {g : List Value → List Value → List Value} {gV : List V → List V → List V}
end

/-! ### a def's body keeps its promise -/
/-- names: the parameters first -/
structure FnScope (N P : List Str) (sc : Scope) : Prop where
  kind : sc.kind = .function
  co : sc.isCoroutine = false
  gen : sc.isGenerator = false
  nd : N.Nodup
  pre : N.take P.length = P
  par : ∀ x ∈ P, sc.names.lookup x = some .local ∨ sc.names.lookup x = some .cell
  nofree : ∀ y ∈ sc.names, y.2 ≠ .free

theorem bindL_out {kindOf : Str → Option NameKind} {x : Str} : ∀ {binds : List (Str × Value)} {m : Str → Option Value}, (∀ v, (x, v) ∉ binds) → bindL kindOf binds m x = m x
  | [], _, _ => rfl
  | (n, v) :: r, m, h => by
    unfold bindL
    rw [bindL_out fun w hw => h w (List.mem_cons_of_mem _ hw)]
    split
    · have : x ≠ n := by rintro rfl; exact h v List.mem_cons_self
      simp [this]
    · rfl
theorem bindC_out {kindOf : Str → Option NameKind} {x : Str} : ∀ {binds : List (Str × Value)} {m : Str → Option Value}, (∀ v, (x, v) ∉ binds) → bindC kindOf binds m x = m x
  | [], _, _ => rfl
  | (n, v) :: r, m, h => by
    unfold bindC
    rw [bindC_out fun w hw => h w (List.mem_cons_of_mem _ hw)]
    split
    · rfl
    · have : x ≠ n := by rintro rfl; exact h v List.mem_cons_self
      simp [this]
theorem bindL_get {kindOf : Str → Option NameKind} {x : Str} {v : Value} : ∀ {P : List Str} {vs : List Value} {i : Nat} {m : Str → Option Value}, P.Nodup → P[i]? = some x → vs[i]? = some v → kindOf x = some .local →
    bindL kindOf (P.zip vs) m x = some v
  | [], _, _, _, _, h, _, _ => by simp at h
  | _ :: _, [], _, _, _, _, h, _ => by simp at h
  | p :: P, w :: vs, 0, m, nd, h1, h2, hk => by
    simp at h1 h2; subst h1; subst h2
    show bindL kindOf ((p, w) :: P.zip vs) m p = _
    unfold bindL
    rw [bindL_out fun v hv => (List.nodup_cons.mp nd).1 (List.of_mem_zip hv).1, if_pos hk]
    simp
  | p :: P, w :: vs, i + 1, m, nd, h1, h2, hk => by
    show bindL kindOf ((p, w) :: P.zip vs) m x = _
    unfold bindL
    exact bindL_get (i := i) (List.nodup_cons.mp nd).2 (by simpa using h1) (by simpa using h2) hk
theorem bindC_get {kindOf : Str → Option NameKind} {x : Str} {v : Value} : ∀ {P : List Str} {vs : List Value} {i : Nat} {m : Str → Option Value}, P.Nodup → P[i]? = some x → vs[i]? = some v → kindOf x ≠ some .local →
    bindC kindOf (P.zip vs) m x = some v
  | [], _, _, _, _, h, _, _ => by simp at h
  | _ :: _, [], _, _, _, _, h, _ => by simp at h
  | p :: P, w :: vs, 0, m, nd, h1, h2, hk => by
    simp at h1 h2; subst h1; subst h2
    show bindC kindOf ((p, w) :: P.zip vs) m p = _
    unfold bindC
    rw [bindC_out fun v hv => (List.nodup_cons.mp nd).1 (List.of_mem_zip hv).1, if_neg hk]
    simp
  | p :: P, w :: vs, i + 1, m, nd, h1, h2, hk => by
    show bindC kindOf ((p, w) :: P.zip vs) m x = _
    unfold bindC
    exact bindC_get (i := i) (List.nodup_cons.mp nd).2 (by simpa using h1) (by simpa using h2) hk

/-- the names' values at the entry -/
def start (N : List Str) (vs : List V) : St := vs.map some ++ List.replicate (N.length - vs.length) none

/-- the context of a def's body, at its entry; an exception leaves the frame, then lies as CX says -/
def cxOf (CX : CXT) (P : Program) (w : World) (K : PySem.W.Frag) (mg : Str → Option Value) (base : Heap) (N : List Str) (qual : Str) (scope : Scope) (f : Addr) (cd : Value) (A : Around) (outer : List Env) (s : Shared) (H : Hp) (E : XK) : Cx where
  prog := P
  w := w
  K := K
  mg := mg
  base := base
  A := A.deeper (envOfC qual scope s.heap.objs.size f cd)
  N := N
  s₀ := s
  H₀ := H
  env := envOfC qual scope s.heap.objs.size f cd
  outer := outer
  stack := envOfC qual scope s.heap.objs.size f cd :: outer
  ex := []
  calm := true
  fn := fun _ => true
  pn := []
  xe := fun e s' => wpAny (model P w) (A.deeper (envOfC qual scope s.heap.objs.size f cd)) (leaving (envOfC qual scope s.heap.objs.size f cd) e) (fun _ s'' => CX outer H s E e s'') (fun e' s'' => CX outer H s E e' s'') s'

theorem cell_has {sc : Scope} {n : Nat} {x : Str} (h : sc.names.lookup x = some .cell) : ∃ c, (cellsFrom n sc.names []).lookup x = some c := by
  have q := PySem.W.cellsFrom_some sc.names n [] (.inl h)
  exact Option.isSome_iff_exists.mp q

theorem inv_start {CX : CXT} {P : Program} {w : World} {K : PySem.W.Frag} {mg : Str → Option Value} {base : Heap} {N ps : List Str} {qual : Str} {scope : Scope} {f : Addr} {cd : Value} {A : Around} {outer : List Env} {s s1 : Shared} {H : Hp} {E : XK} {us : List Value} {vs : List V}
    (S : FnScope N ps scope) (hd : A.handled = none) (e0 : Env0 P w K mg base A outer s H) (hl : vs.length = ps.length) (r : Vals vs us)
    (x : InCallC s s.heap.objs.size (bindL (envOfC qual scope s.heap.objs.size f cd).kindOf (ps.zip us) fun _ => none) (cellsFrom (s.heap.objs.size + 1) scope.names []) (bindC (envOfC qual scope s.heap.objs.size f cd).kindOf (ps.zip us) fun _ => none) s1) :
    Inv (cxOf CX P w K mg base N qual scope f cd A outer s H E) [] (start N vs) H s1 := by
  have hpl : ps.length ≤ N.length := by have := congrArg List.length S.pre; rw [List.length_take] at this; omega
  obtain ⟨h1, tk, rfl, hk⟩ := x.done
  have noA : ∀ b : Addr, b ∉ (cxOf CX P w K mg base N qual scope f cd A outer s H E).ex := fun b z => absurd (show b ∈ ([] : List Addr) from z) (by simp)
  refine ⟨⟨e0.mod, S.kind, rfl, rfl, Nat.le_refl _, fun y z c h1 h2 => ?_, fun y hy => ?_, fun y c _ h => ?_, fun _ => hd, Around.frames_deeper e0.frames, .inr ⟨rfl, rfl⟩, fun b z => absurd z (noA b), e0.bs, e0.bsz, fun b _ _ => noA b, fun b z => absurd z (noA b), e0.funs, e0.frf⟩,
    rfl, e0.bare, Un.kept hk, ⟨_, x.toInCall.ns, fun i y v h1 h2 h3 => ?_⟩, fun y c h => ⟨_, x.cell y c h⟩, e0.hok.fresh (Nat.le_refl _), fun y c h => ?_, fun p hp => absurd (show p ∈ ([] : List (Addr × Obj)) from hp) (by simp), e0.hok.kept hk, ?_⟩
  · exact name_of_addr x.apart (PySem.mem_of_lookup h1) (PySem.mem_of_lookup h2)
  · have hy : scope.names.lookup y = some .cell ∨ scope.names.lookup y = some .free := hy
    rcases hy with hy | hy
    · exact cell_has hy
    · exact absurd rfl (S.nofree _ (PySem.mem_of_lookup hy))
  · exact Nat.le_of_lt (x.above y c (PySem.mem_of_lookup h))
  · have hi : i < vs.length := by
      unfold start at h2
      by_cases hi : i < vs.length
      · exact hi
      · rw [List.getElem?_append_right (by simpa using hi)] at h2
        rw [List.getElem?_replicate] at h2
        split at h2 <;> cases h2
    have ha : vs[i]? = some v := by
      unfold start at h2
      rw [List.getElem?_append_left (by simpa using hi), List.getElem?_map] at h2
      cases e : vs[i]? with
      | none => rw [e] at h2; cases h2
      | some a => rw [e] at h2; cases h2; rfl
    obtain ⟨u, hu, rv⟩ := r.get ha
    have hp : ps[i]? = some y := by
      rw [← S.pre, List.getElem?_take_of_lt (by omega)]; exact h1
    have ndP : ps.Nodup := by rw [← S.pre]; exact S.nd.sublist (List.take_sublist _ _)
    refine ⟨u, rv, ?_⟩
    rcases S.par y (List.mem_of_getElem? hp) with k | k
    · exact .inl ⟨k, bindL_get ndP hp hu k⟩
    · obtain ⟨c, e⟩ := cell_has (n := s.heap.objs.size + 1) k
      refine .inr ⟨.inl k, c, e, ?_⟩
      have q := x.cell y c e
      rw [bindC_get ndP hp hu (by show scope.names.lookup y ≠ _; rw [k]; decide)] at q
      exact q
  · exact e0.hok.fresh (Nat.le_of_lt (x.above y c (PySem.mem_of_lookup h)))
  · unfold start
    show _ = N.length
    rw [List.length_append, List.length_map, List.length_replicate]
    omega

/-- THE RULE: a def (or a method) of the text, by its body. The body's reading t is chosen for each entry; it is run at the parameters' values -/
theorem fn_of {CX : CXT} {P : Program} {w : World} {K : PySem.W.Frag} {mg : Str → Option Value} {base : Heap} {k : Nat} {f : Addr} {name qual : Str} {params : Arguments} {body : List Stmt} {scope : Scope} {dV kV doc pm cdv ct oc : Value} {an od : Option Addr}
    {osl : Array (Option Value)} {N ps : List Str} {sp : Sp} (lk : K.lookup f = some ⟨oc, od, .func (PySem.W.fnOf name qual params body scope dV kV doc pm an cdv ct), osl⟩) (hcd : PySem.W.codeIn K cdv qual = true) (S : FnScope N ps scope)
    (len : ∀ vs H Q E, sp vs H Q E → vs.length = ps.length)
    (hbody : ∀ (A : Around) (outer : List Env) (s : Shared) (H : Hp) (vs : List V) (Q : VK) (E : XK), Room k (A.deeper (envOfC qual scope s.heap.objs.size f cdv)) → sp vs H Q E →
      ∃ t, PSs (cxOf CX P w K mg base N qual scope f cdv A outer s H E) body t ∧ t { nx := fun _ H' => Q .non H', rt := Q } (start N vs) H) :
    FnOk P w K mg base CX (k + 1) f (PySem.W.fnOf name qual params body scope dV kV doc pm an cdv ct) ps sp := by
  refine ⟨len, fun A outer s H args us vs Q E hr e0 hb r hsp => ?_⟩
  have hl := len _ _ _ _ hsp
  have KX : K.In s.heap := e0.mod.kin.keeps fun b o e => (e0.bs b o e).1
  have lim : s.heap.NoLimit := e0.mod.nolimit.keeps fun b o e => (e0.bs b o e).1
  have hkind : ∀ y ∈ ps.zip us, scope.names.lookup y.1 = some .local ∨ (scope.names.lookup y.1 = some .cell ∧ ((cellsFrom (s.heap.objs.size + 1) scope.names []).lookup y.1).isSome = true) := fun ⟨n, v⟩ hy => by
    rcases S.par n (List.of_mem_zip hy).1 with q | q
    · exact .inl q
    · exact .inr ⟨q, PySem.W.cellsFrom_some _ _ _ (.inl q)⟩
  refine codeAny_call_function hr.depth (KX _ _ lk) rfl S.co S.gen rfl (PySem.W.codeRec_of KX hcd) (hb _ _ _ _ ?_)
  refine wpAny_newFunctionEnv_cells S.kind hkind fun env he s1 x => ?_
  subst he
  refine ⟨lim.keeps x.toInCall.keep, codeAny_func ?_⟩
  obtain ⟨t, ht, hq⟩ := hbody A outer s H vs Q E (hr.deeper _) hsp
  have I : Inv (cxOf CX P w K mg base N qual scope f cdv A outer s H E) [] (start N vs) H s1 := inv_start S hr.hd e0 hl r x
  refine wpAny_mono (ht [] s1 (start N vs) H _ I hq) (fun fl s' hs => ?_) fun e s' hs => hs
  have fin : ∀ {σ' : St} {H' : Hp} {v : V} {u : Value}, Inv (cxOf CX P w K mg base N qual scope f cdv A outer s H E) [] σ' H' s' → RelV v u → Q v H' → CE outer P w H s Q u s' :=
    fun {σ' H' v u} J rv q => ⟨v, H', J.os, J.bare, J.base, J.hok, rv, q⟩
  cases fl with
  | ret u =>
    obtain ⟨v, σ', H', J, rv, q⟩ := hs
    exact fin J rv q
  | next =>
    obtain ⟨σ', H', J, q⟩ := hs
    exact fin (v := V.non) (u := Value.none) J rfl q
  | brk =>
    obtain ⟨_, _, _, q⟩ := hs
    exact False.elim q
  | cont =>
    obtain ⟨_, _, _, q⟩ := hs
    exact False.elim q
end L2

namespace L2
open PySem PySem.Spec PyProof.Rows
section
variable {X : Cx} {x : Str} {p pos : Pos} {e : Expr} {es : List Expr} {t : TA} {id T : String} {r : List V → Hp → VK → Prop}

def tCB (r : List V → Hp → VK → Prop) (t : TA) : TE := fun σ H Q => t σ H fun vs H1 => r vs H1 Q
/-- f(e, ..), f a built-in function -/
theorem pe_callB (hc : CallR X (.builtin id) r) (hg : Gl X x) (hm : X.mg x = none) (hv : bootBuiltins x = some (.builtin id)) (ha : PA X (e :: es) t) (hn : x ≠ "__name__" := by decide) (hdb : (x == ("__debug__" : Str)) = false := by decide)
    (he : starEach (e :: es) X.env = (false, eval e X.env) :: starEach es X.env := by rfl) (hpl : (backTo pos (starEach es X.env)).any (·.1) = false := by rfl) : PE X (.Call (.Name x p) (e :: es) [] pos) (tCB r t) := by
  intro pins s σ H Q I h
  refine wpAny_Call_Name_kw (ld_blt I hg hm hv ?_ hn hdb)
  exact PyProof.Rows.callWith_builtin1 (thn (ha pos pins s σ H _ I h) fun us s1 ⟨vs, H1, I1, r1, q1⟩ => hc pins s1 σ H1 vs us Q I1 r1 q1) he hpl
/-- T(e, ..), T a built-in type -/
theorem pe_callTy (hc : CallR X (.type T) r) (hg : Gl X x) (hm : X.mg x = none) (hv : bootBuiltins x = some (.type T)) (ha : PA X (e :: es) t) (hn : x ≠ "__name__" := by decide) (hdb : (x == ("__debug__" : Str)) = false := by decide)
    (he : starEach (e :: es) X.env = (false, eval e X.env) :: starEach es X.env := by rfl) (hpl : (backTo pos (starEach es X.env)).any (·.1) = false := by rfl) : PE X (.Call (.Name x p) (e :: es) [] pos) (tCB r t) := by
  intro pins s σ H Q I h
  refine wpAny_Call_Name_kw (ld_blt I hg hm hv ?_ hn hdb)
  exact PyProof.Rows.callWith_type1 (thn (ha pos pins s σ H _ I h) fun us s1 ⟨vs, H1, I1, r1, q1⟩ => hc pins s1 σ H1 vs us Q I1 r1 q1) he hpl
end
end L2

namespace HT
open PySem PyProof.Rows



section
open PySem.SeqAt
open PySem.AutoSeq1 (wpAny_loadPart')
open PySem.MeetsSeq PySem.MeetsSeq2 PySem.MeetsSeq3

end

section
variable {prog : Program} {w : World} {A : Around} {E : Value → Shared → Prop} {s : Shared}



/-! ### t[a:b], not the whole -/
/-- a slice's bound as a place among n (d where it is left out) -/
def sIx (n d : Nat) : Option Int → Nat
  | none => d
  | some v => if v < 0 then (v + (n : Int)).toNat else min v.toNat n
theorem sIx_none (n d : Nat) : sIx n d none = d := rfl
theorem sIx_nat (n d k : Nat) : sIx n d (some (k : Int)) = min k n := by
  show (if (k : Int) < 0 then ((k : Int) + (n : Int)).toNat else min (k : Int).toNat n) = min k n
  rw [if_neg (by omega), Int.toNat_natCast]

end
end HT

namespace L2
open PySem PySem.Spec PyProof.Rows

/-! ### the parts of a slice -/
abbrev TO := St → Hp → (Option Int → Hp → Prop) → Prop
/-- a slice's part (left out, or an int) -/
def PO (X : Cx) (e : Option Expr) (t : TO) : Prop :=
  ∀ (pins : List (Addr × Obj)) (s : Shared) (σ : St) (H : Hp) (Q : Option Int → Hp → Prop), Inv X pins σ H s → t σ H Q →
    wpAny (model X.prog X.w) X.A (evalPart e X.env) (fun u s' => ∃ o H', Inv X pins σ H' s' ∧ IsPart u o ∧ Q o H') X.xe s
def tNoPart : TO := fun _ H Q => Q none H
def tPart (t : TE) : TO := fun σ H Q => t σ H fun x H1 => ∃ i, x = .int i ∧ Q (some i) H1


section
variable {X : Cx} {e : Expr} {te : TE} {lo hi : Option Expr} {tl th : TO} {pos p2 : Pos}

theorem po_none : PO X none tNoPart := by
  intro pins s σ H Q I h
  rw [evalPart_none]
  exact wpAny_pure ⟨none, H, I, .none, h⟩
theorem po_some (h : PE X e te) : PO X (some e) (tPart te) := by
  intro pins s σ H Q I hw
  rw [evalPart_some]
  refine thn (h pins s σ H _ I hw) fun u s1 ⟨x, H1, I1, r1, q1⟩ => ?_
  obtain ⟨i, rfl, q⟩ := q1
  obtain ⟨t, rfl⟩ := r1
  exact ⟨some i, H1, I1, .int i t, q⟩

/-- what a slice of a value is, by values: the slice object stands at sl -/
def SlR (X : Cx) (r : V → Option Int → Option Int → Hp → VK → Prop) : Prop :=
  ∀ (pins : List (Addr × Obj)) (s : Shared) (σ : St) (H : Hp) (x : V) (v vl vu : Value) (lo hi : Option Int) (sl : Addr) (Q : VK), Inv X pins σ H s → RelV x v → s.heap.IsSliceOf sl vl vu .none → IsPart vl lo → IsPart vu hi → r x lo hi H Q →
    ∃ T id, typeLookup (.type T) "__getitem__" = pure (some (.builtin id)) ∧ s.TypeIs v T ∧ wpAny (model X.prog X.w) X.A (getItem v (.ref sl)) (EP X pins σ Q) X.xe s
def tSl (r : V → Option Int → Option Int → Hp → VK → Prop) (te : TE) (tl th : TO) : TE := fun σ H Q => te σ H fun x H1 => tl σ H1 fun l H2 => th σ H2 fun u H3 => r x l u H3 Q
/-- a[lo:hi], any a -/
theorem pe_slice {r : V → Option Int → Option Int → Hp → VK → Prop} (hr : SlR X r) (he : PE X e te) (hl : PO X lo tl) (hu : PO X hi th) : PE X (.Subscript e (.Slice lo hi none p2) pos) (tSl r te tl th) := by
  intro pins s σ H Q I h
  refine Subscript_ (thn (he pins s σ H _ I h) fun v s1 ⟨x, H1, I1, r1, q1⟩ => ?_)
  refine wpAny_Slice (thn (hl pins s1 σ H1 _ I1 q1) fun vl s2 ⟨l, H2, I2, pl, q2⟩ => thn (hu pins s2 σ H2 _ I2 q2) fun vu s3 ⟨u, H3, I3, pu, q3⟩ => ?_)
  rw [evalPart_none]
  refine wpAny_pure ?_
  have I4 : Inv X pins σ H3 { s3 with heap := s3.heap.push { cls := .type "slice", data := .fields #[vl, vu, .none] } } := I3.kept (t' := s3.toks) fun b ob q => Heap.get?_push_of_some _ q
  obtain ⟨T, id, hT, ht, hg⟩ := hr pins { s3 with heap := s3.heap.push { cls := .type "slice", data := .fields #[vl, vu, .none] } } σ H3 x v vl vu l u s3.heap.objs.size Q I4 r1 (Heap.IsSliceOf.new ..) pl pu q3
  show wpAny (model X.prog X.w) X.A (subscriptTail e (.Slice lo hi none p2) v (.ref s3.heap.objs.size)) (EP X pins σ Q) X.xe { s3 with heap := s3.heap.push { cls := .type "slice", data := .fields #[vl, vu, .none] } }
  exact tail_any (ops := [.ref s3.heap.objs.size, v]) ht hT hg (by with_unfolding_all rfl)

/-- the items of xs[lo:hi] -/
def cutV (xs : List V) (lo hi : Option Int) : List V := (xs.drop (HT.sIx xs.length 0 lo)).take (HT.sIx xs.length xs.length hi - HT.sIx xs.length 0 lo)
theorem cutV_length (xs : List V) (lo hi : Option Int) : (cutV xs lo hi).length ≤ xs.length := by
  unfold cutV
  rw [List.length_take, List.length_drop]
  omega

/-! ### t < u, t + u -/
end
end L2

namespace L2
open PySem PySem.Spec PyProof.Rows

/-! ### places -/
/-- the place that an index of any sign means -/
def ixN (n : Nat) (i : Int) : Option Nat := if 0 ≤ i then (if i < n then some i.toNat else none) else if -(n : Int) ≤ i then some (i + n).toNat else none
def atI {α : Type} (xs : List α) (i : Int) : Option α := (ixN xs.length i).bind fun j => xs[j]?
theorem ixN_seq {n : Nat} {i : Int} {j : Nat} (h : ixN n i = some j) : seqIndex? i n = some j ∧ j < n ∧ -(n : Int) ≤ i ∧ i < n := by
  unfold ixN at h
  by_cases h0 : 0 ≤ i
  · rw [if_pos h0] at h
    by_cases h1 : i < n
    · rw [if_pos h1] at h
      have e : i.toNat = j := Option.some.inj h
      exact ⟨by rw [seqIndex_of h0 h1, e], by omega, by omega, h1⟩
    · rw [if_neg h1] at h; cases h
  · rw [if_neg h0] at h
    by_cases h1 : -(n : Int) ≤ i
    · rw [if_pos h1] at h
      have e : (i + n).toNat = j := Option.some.inj h
      exact ⟨by rw [seqIndex_neg (by omega) h1, e], by omega, h1, by omega⟩
    · rw [if_neg h1] at h; cases h
theorem atI_get {α : Type} {xs : List α} {i : Int} {v : α} (h : atI xs i = some v) : ∃ j, seqIndex? i xs.length = some j ∧ xs[j]? = some v ∧ j < xs.length ∧ -(xs.length : Int) ≤ i ∧ i < xs.length := by
  unfold atI at h
  cases e : ixN xs.length i with
  | none => rw [e] at h; cases h
  | some j =>
    rw [e] at h
    obtain ⟨h1, h2, h3, h4⟩ := ixN_seq e
    exact ⟨j, h1, h, h2, h3, h4⟩
theorem atI_nat {α : Type} {xs : List α} {j : Nat} {v : α} (h : xs[j]? = some v) : atI xs (j : Int) = some v := by
  have hj : j < xs.length := (List.getElem?_eq_some_iff.mp h).1
  have e : ixN xs.length (j : Int) = some j := by
    unfold ixN
    rw [if_pos (by omega), if_pos (by omega)]; simp
  unfold atI; rw [e]; exact h

/-! ### what may be subscripted -/
/-- what stands as an index of a plain subscript -/
def PlainIx (b : Expr) : Prop := ∀ o i, subscripted b false o i = operate [o, i] (getItem o i)
/-- a subscript by values -/
def IxR (X : Cx) (r : R2) : Prop :=
  ∀ (value slice : Expr) (pins : List (Addr × Obj)) (s : Shared) (σ : St) (H : Hp) (x y : V) (v u : Value) (Q : VK), Inv X pins σ H s → RelV x v → RelV y u → r x y H Q →
    subscripted slice false v u = operate [v, u] (getItem v u) → wpAny (model X.prog X.w) X.A (subscriptTail value slice v u) (EP X pins σ Q) X.xe s
/-- a call of a builtin's method by values: the receiver, the arguments -/
def MtR (X : Cx) (id : String) (r : V → List V → Hp → VK → Prop) : Prop :=
  ∀ (pins : List (Addr × Obj)) (s : Shared) (σ : St) (H : Hp) (x : V) (xs : List V) (v : Value) (us : List Value) (Q : VK), Inv X pins σ H s → RelV x v → Vals xs us → r x xs H Q →
    wpAny (model X.prog X.w) X.A (call (.builtin id) (v :: us)) (EP X pins σ Q) X.xe s
section
variable {X : Cx} {a b : Expr} {ta tb : TE} {pos : Pos}
/-- a[b] -/
theorem pe_ix {r : R2} (hr : IxR X r) (ha : PE X a ta) (hb : PE X b tb) (hs : PlainIx b) : PE X (.Subscript a b pos) (tOp r ta tb) := by
  intro pins s σ H Q I h
  exact Subscript_ (binT ha hb I h fun v u s2 x y H2 I2 rx ry q => hr a b pins s2 σ H2 x y v u Q I2 rx ry q (hs _ _))

def rIxL (K : PySem.W.Frag) : R2 := fun x y H Q => ∃ p xs i v, x = .ref p ∧ y = .int i ∧ SqL K H p xs ∧ atI xs i = some v ∧ Q v H
def rIxS : R2 := fun x y H Q => ∃ z i c, x = .str z ∧ y = .int i ∧ z.length ≤ sizeLine ∧ atI z.cps.toList i = some c ∧ Q (.str ⟨#[c]⟩) H
theorem ix_list : IxR X (rIxL X.K) := by
  intro value slice pins s σ H x y v u Q I rx ry h hs
  obtain ⟨p, xs, i, z, rfl, rfl, hq, he, q⟩ := h
  cases rx
  obtain ⟨t, rfl⟩ := ry
  obtain ⟨its, r, pl, hz⟩ := I.list hq
  obtain ⟨j, h1, h2, h3, h4, h5⟩ := atI_get he
  obtain ⟨w, ew, rw'⟩ := r.get h2
  have hl := r.length
  have hn := line63
  have fin : EP X pins σ Q w s := ⟨z, H, I, rw', q⟩
  by_cases h0 : 0 ≤ i
  · have hj : i.toNat = j := by
      rw [seqIndex_of h0 h5] at h1
      exact Option.some.inj h1
    exact item_listR pl.isList h0 (by omega) (by rw [hj]; simpa using ew) fin hs
  · have hj : (i + (its.toArray.size : Int)).toNat = j := by
      rw [seqIndex_neg (by omega) h4] at h1
      rw [List.size_toArray, ← hl]
      exact Option.some.inj h1
    exact subscriptTail_builtinR (x := w) pl.isList.typeIs slot_list_getitem.lookup
      (wpAny_getItem_list_neg (Q := fun r s' => r = w ∧ EP X pins σ Q r s') pl.isList (by omega) (by rw [List.size_toArray] <;> omega) (by omega) (by rw [hj]; simpa using ew) ⟨rfl, fin⟩) hs
theorem ix_str : IxR X rIxS := by
  intro value slice pins s σ H x y v u Q I rx ry h hs
  obtain ⟨z, i, c, rfl, rfl, hz, he, q⟩ := h
  obtain ⟨t, rfl⟩ := rx
  obtain ⟨t', rfl⟩ := ry
  obtain ⟨j, h1, h2, h3, h4, h5⟩ := atI_get he
  have hl : z.cps.toList.length = z.length := by simp [Str.length]
  rw [hl] at h1 h4 h5
  have hn := line63
  exact tail_any (typeIs_str s z t) slot_str_getitem.lookup (getItem_str (c := c) (by
    have e1 : decide (i < -(2 ^ 63 : Int)) = false := decide_eq_false (by omega)
    have e2 : decide (i ≥ 2 ^ 63) = false := decide_eq_false (by omega)
    rw [e1, e2, Bool.or_false]) (by rw [h1]; simpa using h2) ⟨.str ⟨#[c]⟩, H, I.tok _, ⟨_, rfl⟩, q⟩) hs

/-! ### xs[i] = v, any sign -/

/-! ### slices -/
theorem slice_bounds (lo hi : Option Int) (n : Nat) : (sliceBounds lo hi none n).1 = ((HT.sIx n 0 lo : Nat) : Int) ∧ (sliceBounds lo hi none n).2.1 = ((HT.sIx n n hi : Nat) : Int) ∧ (sliceBounds lo hi none n).2.2 = 1 := by
  refine ⟨?_, ?_, rfl⟩
  · cases lo with
    | none => simp [sliceBounds, HT.sIx]
    | some i =>
      simp only [sliceBounds, HT.sIx, Option.getD_none, show (1 : Int) > 0 by decide, if_true]
      by_cases h : i < 0
      · simp only [h, if_true] <;> omega
      · simp only [h, if_false] <;> omega
  · cases hi with
    | none => simp [sliceBounds, HT.sIx]
    | some i =>
      simp only [sliceBounds, HT.sIx, Option.getD_none, show (1 : Int) > 0 by decide, if_true]
      by_cases h : i < 0
      · simp only [h, if_true] <;> omega
      · simp only [h, if_false] <;> omega
theorem slicePick_cut (its : List Value) (lo hi : Option Int) : slicePick its.toArray lo hi none = ((its.drop (HT.sIx its.length 0 lo)).take (HT.sIx its.length its.length hi - HT.sIx its.length 0 lo)).toArray := by
  obtain ⟨h1, h2, h3⟩ := slice_bounds lo hi its.toArray.size
  unfold slicePick
  rw [h1, h2, h3]
  simp only [sliceRange_one, pick_run, List.size_toArray] <;> rfl
/-- xs[lo:hi] of a list: a new list -/
def rSlL (K : PySem.W.Frag) : V → Option Int → Option Int → Hp → VK → Prop := fun x lo hi H Q => ∃ a xs, x = .ref a ∧ SqL K H a xs ∧ ∀ p, H p = none → Q (.ref p) (upd H p (.lst (cutV xs lo hi)))
theorem sl_list : SlR X (rSlL X.K) := by
  intro pins s σ H x v vl vu lo hi sl Q I rx hs pl pu h
  obtain ⟨a, xs, rfl, hx, q⟩ := h
  cases rx
  obtain ⟨its, r, ht, hz⟩ := I.list hx
  have hlen := r.length
  refine ⟨"list", _, slot_list_getitem.lookup, ht.isList.typeIs, ?_⟩
  refine wpAny_getItem_list_slice ht.isList hs pl pu .none (by simp) ?_ (by rw [List.size_toArray] <;> omega)
  rw [slicePick_cut, ← hlen]
  refine ⟨.ref s.heap.objs.size, _, I.laid (t' := s.toks) (o := .lst (cutV xs lo hi)) (fun b ob q => Heap.get?_push_of_some _ q) (Nat.le_refl _) ?_, rfl, q _ (I.hok.fresh (Nat.le_refl _))⟩
  exact ⟨Nat.le_trans (cutV_length xs lo hi) hz, _, 0, (r.drop (HT.sIx xs.length 0 lo)).take (HT.sIx xs.length xs.length hi - HT.sIx xs.length 0 lo), Heap.get?_push_size _ rfl⟩

/-! ### in, not in: flat items -/
def flatV : V → Bool
  | .non => true
  | .bl _ => true
  | .int _ => true
  | .str _ => true
  | _ => false
/-- == of flat values -/
def eqV : V → V → Bool
  | .non, .non => true
  | .bl a, .bl b => a == b
  | .bl a, .int b => (if a then 1 else 0) == b
  | .int a, .bl b => a == (if b then 1 else 0)
  | .int a, .int b => a == b
  | .str a, .str b => a == b
  | _, _ => false
theorem eqAt_V {A : Around} {s : Shared} {y x : V} {u v : Value} (ry : RelV y u) (rx : RelV x v) (fy : flatV y = true) (fx : flatV x = true) : SeqAt.EqAt A s u v (eqV y x) := by
  cases y with
  | non =>
    cases ry
    cases x with
    | non => cases rx; exact SeqAt.EqAt.same _
    | bl b => cases rx; exact SeqAt.EqAt.none_bool b
    | int b => obtain ⟨t, rfl⟩ := rx; exact SeqAt.EqAt.none_int b t
    | str b => obtain ⟨t, rfl⟩ := rx; exact SeqAt.EqAt.none_str b t
    | _ => exact absurd (show false = true from fx) Bool.false_ne_true
  | bl a =>
    cases ry
    cases x with
    | non => cases rx; exact SeqAt.EqAt.bool_none a
    | bl b => cases rx; exact SeqAt.EqAt.bool_bool a b
    | int b => obtain ⟨t, rfl⟩ := rx; exact SeqAt.EqAt.bool_int a b t
    | str b => obtain ⟨t, rfl⟩ := rx; exact SeqAt.EqAt.bool_str a b t
    | _ => exact absurd (show false = true from fx) Bool.false_ne_true
  | int a =>
    obtain ⟨t', rfl⟩ := ry
    cases x with
    | non => cases rx; exact SeqAt.EqAt.int_none a t'
    | bl b => cases rx; exact SeqAt.EqAt.int_bool a t' b
    | int b => obtain ⟨t, rfl⟩ := rx; exact SeqAt.EqAt.int_int a t' b t
    | str b => obtain ⟨t, rfl⟩ := rx; exact SeqAt.EqAt.int_str a t' b t
    | _ => exact absurd (show false = true from fx) Bool.false_ne_true
  | str a =>
    obtain ⟨t', rfl⟩ := ry
    cases x with
    | non => cases rx; exact SeqAt.EqAt.str_none a t'
    | bl b => cases rx; exact SeqAt.EqAt.str_bool a t' b
    | int b => obtain ⟨t, rfl⟩ := rx; exact SeqAt.EqAt.str_int a t' b t
    | str b => obtain ⟨t, rfl⟩ := rx; exact SeqAt.EqAt.str_str a t' b t
    | _ => exact absurd (show false = true from fx) Bool.false_ne_true
  | _ => exact absurd (show false = true from fy) Bool.false_ne_true
/-- the items' answers, read off the values (a value's own answer does not lean on its token) -/
def eqU (x : V) (u : Value) : Bool := match u with
  | .none => eqV .non x
  | .bool b => eqV (.bl b) x
  | .int i _ => eqV (.int i) x
  | .str z _ => eqV (.str z) x
  | _ => false
theorem eqU_of {x y : V} {u : Value} (r : RelV y u) (f : flatV y = true) : eqU x u = eqV y x := by
  cases y with
  | non => cases r; rfl
  | bl b => cases r; rfl
  | int i => obtain ⟨t, rfl⟩ := r; rfl
  | str z => obtain ⟨t, rfl⟩ := r; rfl
  | _ => exact absurd (show false = true from f) Bool.false_ne_true
theorem any_eqU {x : V} : ∀ {xs : List V} {us : List Value}, Vals xs us → xs.all flatV = true → us.any (eqU x) = xs.any fun y => eqV y x
  | _, _, .nil, _ => rfl
  | y :: xs, u :: us, .cons r t, f => by
    rw [List.all_cons, Bool.and_eq_true] at f
    rw [List.any_cons, List.any_cons, eqU_of r f.1, any_eqU t f.2]
theorem mem_eqAt {A : Around} {s : Shared} {x : V} {v : Value} (rx : RelV x v) (fx : flatV x = true) : ∀ {xs : List V} {us : List Value}, Vals xs us → xs.all flatV = true → ∀ u ∈ us, SeqAt.EqAt A s u v (eqU x u)
  | _, _, .nil, _ => fun u hu => by cases hu
  | y :: xs, u :: us, .cons r t, f => fun u' hu => by
    rw [List.all_cons, Bool.and_eq_true] at f
    rcases List.mem_cons.mp hu with rfl | hu
    · rw [eqU_of r f.1]; exact eqAt_V r rx f.1 fx
    · exact mem_eqAt rx fx t f.2 u' hu
def inV (x : V) (xs : List V) : Bool := xs.any fun y => eqV y x
/-- x in a list or tuple of flat items -/
def rIn (K : PySem.W.Frag) (neg : Bool) : R2 := fun x y H Q => ∃ p xs, y = .ref p ∧ (SqL K H p xs ∨ SqT K H p xs) ∧ flatV x = true ∧ xs.all flatV = true ∧ Q (.bl (if neg then !inV x xs else inV x xs)) H
theorem op_in_seq : OpR X (compareOp .In) (rIn X.K false) := by
  intro pins s σ H x y v u Q I rx ry h
  obtain ⟨p, xs, rfl, hq, fx, fs, q⟩ := h
  cases ry
  rcases hq with hq | hq
  · obtain ⟨its, r, pl, hz⟩ := I.list hq
    refine SeqAt.in_listAt (eqU x) pl.isList (fun w hw => mem_eqAt rx fx r fs w (by simpa using hw)) ⟨.bl _, H, I, rfl, ?_⟩
    rw [show its.toArray.any (eqU x) = its.any (eqU x) by simp, any_eqU r fs]
    exact q
  · obtain ⟨its, r, pl, hz⟩ := I.tuple hq
    refine SeqAt.in_tupleAt (eqU x) pl (fun w hw => mem_eqAt rx fx r fs w (by simpa using hw)) ⟨.bl _, H, I, rfl, ?_⟩
    rw [show its.toArray.any (eqU x) = its.any (eqU x) by simp, any_eqU r fs]
    exact q

/-! ### len, list(x), tuple(x) of any list or tuple that is read -/
theorem call_len_seq : CallR X (.builtin "len") (fun xs H Q => ∃ p ys, xs = [.ref p] ∧ (SqL X.K H p ys ∨ SqT X.K H p ys) ∧ Q (.int ys.length) H) := by
  intro pins s σ H xs us Q I r h
  obtain ⟨p, ys, rfl, hq, q⟩ := h
  obtain ⟨u, rfl, rx⟩ := vals1 r
  cases rx
  have hn := line63
  rcases hq with hq | hq
  · obtain ⟨its, r', pl, hz⟩ := I.list hq
    have hlen := r'.length
    exact Calls.call_len_list pl.isList (by simp only [List.size_toArray] <;> omega) ⟨.int ys.length, H, I.tok _, ⟨s.toks + 1, by rw [List.size_toArray, hlen]⟩, q⟩
  · obtain ⟨its, r', pl, hz⟩ := I.tuple hq
    have hlen := r'.length
    exact len_tuple pl (by simp only [List.size_toArray] <;> omega) ⟨.int ys.length, H, I.tok _, ⟨s.toks + 1, by rw [List.size_toArray, hlen]⟩, q⟩
theorem call_len_str : CallR X (.builtin "len") (fun xs H Q => ∃ z, xs = [.str z] ∧ z.length ≤ sizeLine ∧ Q (.int z.length) H) := by
  intro pins s σ H xs us Q I r h
  obtain ⟨z, rfl, hz, q⟩ := h
  obtain ⟨u, rfl, t, rfl⟩ := vals1 r
  have hn := line63
  exact len_str (by omega) ⟨.int z.length, H, I.tok _, ⟨_, rfl⟩, q⟩

/-! ### the call of a builtin's method: o.m(..) -/
/-- the value is of that builtin type -/
def tyV (K : PySem.W.Frag) (T : String) (x : V) (H : Hp) : Prop := match x with
  | .str _ => T = "str"
  | .int _ => T = "int"
  | .ref p => (T = "list" ∧ ∃ xs, SqL K H p xs) ∨ (T = "tuple" ∧ ∃ o, K.lookup p = some o ∧ o.cls = .type "tuple" ∧ o.dict = none) ∨
      (T = "dict" ∧ ((∃ kvs, H p = some (.dK kvs)) ∨ ∃ kvs, H p = some (.dT kvs))) ∨ (T = "set" ∧ ∃ S n, H p = some (.set S n))
  | _ => False
theorem tyV_is {pins : List (Addr × Obj)} {σ : St} {H : Hp} {s : Shared} {T : String} {x : V} {v : Value} (I : Inv X pins σ H s) (r : RelV x v) (ty : tyV X.K T x H) :
    s.TypeIs v T ∧ ∀ a, v = .ref a → ∃ ob, s.heap.get? a = some ob ∧ ob.dict = none := by
  cases x with
  | str z =>
    obtain ⟨t, rfl⟩ := r
    cases (show T = "str" from ty)
    exact ⟨typeIs_str s z t, fun _ e => nomatch e⟩
  | int i =>
    obtain ⟨t, rfl⟩ := r
    cases (show T = "int" from ty)
    exact ⟨typeIs_int s i t, fun _ e => nomatch e⟩
  | ref p =>
    cases r
    rcases ty with ⟨rfl, xs, hq⟩ | ⟨rfl, o, hk, hc, hd⟩ | ⟨rfl, hk⟩ | ⟨rfl, S, n, hk⟩
    · obtain ⟨its, _, pl, _⟩ := I.list hq
      refine ⟨pl.isList.typeIs, fun a e => ?_⟩
      cases e
      obtain ⟨o, n, e, c, hd, _⟩ := pl
      exact ⟨o, e, hd⟩
    · refine ⟨⟨o, I.kIn p o hk, hc⟩, fun a e => ?_⟩
      cases e
      exact ⟨o, I.kIn _ o hk, hd⟩
    · have z : ∃ o, s.heap.get? p = some o ∧ o.ExactDict := by
        rcases hk with ⟨kvs, hk⟩ | ⟨kvs, hk⟩
        · obtain ⟨_, _, _, _, o, _, _, e, ex, _⟩ := I.hok p _ hk
          exact ⟨o, e, ex⟩
        · obtain ⟨_, _, _, _, o, _, _, e, ex, _⟩ := I.hok p _ hk
          exact ⟨o, e, ex⟩
      obtain ⟨o, e, ex⟩ := z
      refine ⟨⟨o, e, ex.1⟩, fun a e2 => ?_⟩
      cases e2
      exact ⟨o, e, ex.2.1⟩
    · obtain ⟨o, _, _, _, e, ex, _⟩ := I.hok p _ hk
      refine ⟨⟨o, e, ex.1⟩, fun a e2 => ?_⟩
      cases e2
      exact ⟨o, e, ex.2.1⟩
  | _ => exact False.elim ty
def tBM0 (K : PySem.W.Frag) (T : String) (r : V → List V → Hp → VK → Prop) (to : TE) : TE := fun σ H Q => to σ H fun x H1 => tyV K T x H1 ∧ r x [] H1 Q
def tBM (K : PySem.W.Frag) (T : String) (r : V → List V → Hp → VK → Prop) (to : TE) (t : TA) : TE := fun σ H Q => to σ H fun x H1 => tyV K T x H1 ∧ t σ H1 fun xs H2 => r x xs H2 Q
variable {o e : Expr} {es : List Expr} {to : TE} {t : TA} {name : Str} {apos cpos : Pos} {T id : String} {r : V → List V → Hp → VK → Prop}
theorem pe_bm0 (pa : PlainAttrs T) (slot : Slot T name id) (hty : typeOf (.builtin id) = pure (.type "method_descriptor")) (hm : MtR X id r) (ho : PE X o to)
    (hbase : attributeBase o name X.env (eval o X.env) = eval o X.env := by rfl) (hline : (apos.endLine == cpos.line) = true := by rfl) : PE X (.Call (.Attribute o name apos) [] [] cpos) (tBM0 X.K T r to) := by
  intro pins s σ H Q I h
  refine wpAny_Call_method0_late hbase hline (thn (ho pins s σ H _ I h) fun v s1 ⟨x, H1, I1, r1, ty, q1⟩ => ?_)
  obtain ⟨h1, h2⟩ := tyV_is I1 r1 ty
  exact ⟨T, id, pa, slot, hty, h1, h2, Calls.callWith_builtin rfl (PySem.evalArgs_none (hm pins s1 σ H1 x [] v [] Q I1 r1 .nil q1))⟩
theorem pe_bm (pa : PlainAttrs T) (slot : Slot T name id) (hty : typeOf (.builtin id) = pure (.type "method_descriptor")) (hm : MtR X id r) (ho : PE X o to) (ha : PA X (e :: es) t)
    (hbase : attributeBase o name X.env (eval o X.env) = eval o X.env := by rfl)
    (hfew : ((backTo cpos (starEach (e :: es) X.env)).all (fun x => !x.1) && (backToKw cpos (keywordEach [] X.env)).all (fun x => x.1.isSome)
      && decide ((e :: es).length + ([] : List Keyword).length + (if ([] : List Keyword).isEmpty then 0 else 1) < 30)) = true := by rfl)
    (hline : (apos.endLine == cpos.line) = true := by rfl) (hs : starEach (e :: es) X.env = (false, eval e X.env) :: starEach es X.env := by rfl) (hplain : (backTo cpos (starEach es X.env)).any (·.1) = false := by rfl) :
    PE X (.Call (.Attribute o name apos) (e :: es) [] cpos) (tBM X.K T r to t) := by
  intro pins s σ H Q I h
  refine wpAny_Call_method_late hbase hfew hline rfl (thn (ho pins s σ H _ I h) fun v s1 ⟨x, H1, I1, r1, ty, q1⟩ => ?_)
  obtain ⟨h1, h2⟩ := tyV_is I1 r1 ty
  refine ⟨T, id, pa, slot, hty, h1, h2, ?_⟩
  have hA := ha cpos pins s1 σ H1 _ I1 q1
  rw [hs] at hA ⊢
  refine Calls.callWith_builtin (by show (false || (backTo cpos (starEach es X.env)).any (·.1)) = false; rw [hplain] <;> rfl) (Calls.evalArgs_plain ?_)
  exact thn hA fun us s2 ⟨vs, H2, I2, r2, q2⟩ => hm pins s2 σ H2 x vs v us Q I2 r1 r2 q2
/- xs.append(e), list.index on a module's tuple .. are MtR facts of 06m -/
end
end L2

namespace L2
open PySem PySem.Spec PyProof.Rows

def MtM (X : Cx) (id : String) (r : V → List V → Hp → VK → Prop) : Prop :=
  ∀ (pins : List (Addr × Obj)) (s : Shared) (σ : St) (H : Hp) (x : V) (xs : List V) (v : Value) (us : List Value) (Q : VK), Inv X pins σ H s → RelV x v → Vals xs us → r x xs H Q →
    wpAny (model X.prog X.w) X.A (call (.builtin id) (v :: us)) (EP X pins σ Q) X.xe s

/-! ### lists of values -/
theorem Vals.one : ∀ {x : V} {us : List Value}, Vals [x] us → ∃ u, us = [u] ∧ RelV x u
  | _, _, .cons r .nil => ⟨_, rfl, r⟩

section
variable {X : Cx} {pins : List (Addr × Obj)} {σ : St} {H : Hp} {s : Shared} {l b : Addr} {xs ys zs : List V}

/-! ### the two steps: a tracked list is rewritten, a new list is laid -/
theorem Inv.lset {its its' : List Value} {n : Nat} {f : Array Value → Array Value} {t' : Nat} (I : Inv X pins σ H s) (hH : H l = some (.lst xs))
    (e : s.heap.get? l = some { cls := .type "list", data := .seq its.toArray n }) (hf : f its.toArray = its'.toArray) (hv : Vals ys its') (hz : ys.length ≤ sizeLine) :
    Inv X pins σ (upd H l (.lst ys)) { s with heap := s.heap.update l (Obj.mapSeq f), toks := t' } := by
  have q := PySem.IsL.update e f
  rw [hf] at q
  refine I.write (x := l) (e := l) (by rw [hH]; exact trivial) (.inl rfl) (fun b' u hb hu => (Heap.get?_update_other s.heap (Obj.mapSeq f) (Ne.symm hb)).trans hu) ⟨_, q⟩ ?_
  exact ⟨hz, its', _, hv, q⟩
theorem Inv.lnew {its : List Value} {t' : Nat} (I : Inv X pins σ H s) (hv : Vals ys its) (hz : ys.length ≤ sizeLine) :
    Inv X pins σ (upd H s.heap.objs.size (.lst ys)) { s with heap := s.heap.push { cls := .type "list", data := .seq its.toArray }, toks := t' } :=
  I.laid (fun _ _ q => Heap.get?_push_of_some _ q) (Nat.le_refl _) ⟨hz, its, 0, hv, Heap.get?_push_size _ rfl⟩
theorem Inv.fresh (I : Inv X pins σ H s) : H s.heap.objs.size = none := I.hok.fresh (Nat.le_refl _)
theorem Inv.lstM (I : Inv X pins σ H s) (hH : H l = some (.lst xs)) : xs.length ≤ sizeLine ∧ ∃ (its : List Value) (n : Nat), Vals xs its ∧ xs.length = its.length ∧ s.heap.get? l = some { cls := .type "list", data := .seq its.toArray n } := by
  obtain ⟨z, its, n, r, e⟩ := I.hok l _ hH
  exact ⟨z, its, n, r, r.length, e⟩

end

section
variable {X : Cx}

/-! ### methods -/
def rAppend : V → List V → Hp → VK → Prop := fun x vs H Q => ∃ l xs y, x = .ref l ∧ vs = [y] ∧ H l = some (.lst xs) ∧ xs.length < sizeLine ∧ Q .non (upd H l (.lst (xs ++ [y])))
theorem mt_append : MtM X "list.append" rAppend := by
  intro pins s σ H x vs v us Q I rx rv h
  obtain ⟨l, xs, y, rfl, rfl, hH, hz, q⟩ := h
  cases rx
  obtain ⟨u, rfl, ru⟩ := rv.one
  obtain ⟨z, its, n, r, hl, e⟩ := I.lstM hH
  refine call_meets F.slot_list_append ⟨_, e, rfl⟩ F.entry_list_append (F.args_list_append_2 _ _) (PySem.list_append l its.toArray n u (by rw [List.size_toArray]; omega)) ⟨e, ?_⟩
  refine ⟨.non, _, I.lset (its' := its ++ [u]) hH e (by simp) (r.append (.cons ru .nil)) ?_, rfl, q⟩
  rw [List.length_append, List.length_singleton]
  omega






/-! ### list + list, list += list, list * int -/
def rCat : R2 := fun x y H Q => ∃ l b xs zs, x = .ref l ∧ y = .ref b ∧ H l = some (.lst xs) ∧ H b = some (.lst zs) ∧ xs.length + zs.length ≤ sizeLine ∧ ∀ p, H p = none → Q (.ref p) (upd H p (.lst (xs ++ zs)))
theorem op_cat : OpR X (binaryOp .Add) rCat := by
  intro pins s σ H x y v u Q I rx ry h
  obtain ⟨l, b, xs, zs, rfl, rfl, hH, hB, hz, q⟩ := h
  cases rx
  cases ry
  obtain ⟨z, its, n, r, hl, e⟩ := I.lstM hH
  obtain ⟨z2, its2, n2, r2, hl2, e2⟩ := I.lstM hB
  refine PySem.P.add_list e e2 ?_ (by rw [List.size_toArray, List.size_toArray]; omega)
  have ea : its.toArray ++ its2.toArray = (its ++ its2).toArray := by simp
  rw [ea]
  exact ⟨.ref _, _, I.lnew (t' := s.toks) (r.append r2) (by rw [List.length_append]; omega), rfl, q _ I.fresh⟩

/-! ### del xs[i] -/
end

/-! ### xs[a:b] = ys -/
section
variable {prog : Program} {w : World} {A : Around} {E : Value → Shared → Prop} {s : Shared}
end

section
variable {X : Cx}
end
end L2

namespace Att
open PySem PySem.W PySem.Calls PyProof.Rows

/-! ### the script -/
theorem ints_of_wellAll {P : Params} {h : Heap} : ∀ (ns : List Int) (vs : List Value), WellAll P h vs (ns.map WData.int) → IntsAre vs ns := by
  intro ns
  induction ns with
  | nil =>
    intro vs w
    rw [List.map_nil] at w
    cases w
    exact .nil
  | cons n ns ih =>
    intro vs w
    rw [List.map_cons] at w
    cases w with
    | cons a b =>
      cases a
      exact .cons _ _ (ih _ b)

theorem script_of {l : OpenLaw} {n : Nat} (hn : l.most = some n) {P : Params} {h : Heap} {args : List WData} {vals : List Value}
    (hpre : l.row.toRowW.claim.pre args = true) (hwl : WellAll P h vals args) :
    ∃ a vs ns, vals = [Value.ref a] ∧ args = [WData.list (ns.map WData.int)] ∧ h.get? a = some { cls := .type "list", data := .seq vs.toArray } ∧ IntsAre vs ns ∧ ns.length ≤ n := by
  have hsh : WShape.hasAll [] args [.list .int] = true := (pre_splitW hpre).1
  have hc : l.pre.holds [] { args := args } = true := (pre_splitW hpre).2
  obtain ⟨d, r, rfl, h1, h2⟩ := hasAllW_cons hsh
  obtain rfl := hasAllW_nil h2
  obtain ⟨xs, rfl, h3⟩ := hasW_list h1
  obtain ⟨ns, rfl⟩ := items_int h3
  have hlen : ns.length ≤ n := by
    unfold OpenLaw.pre at hc
    have h4 : (WTm.not (.lt (.lit (.int (n : Int))) (.len (.arg 0)))).holds [] { args := [.list (ns.map .int)] } = true := by
      have h4 := (holds_andW hc).1
      rw [hn] at h4
      exact h4
    have h5 := condW_of h4 (w_not (w_lt w_lit (w_len_list (w_arg rfl))))
    rw [List.length_map] at h5
    refine Nat.le_of_not_lt fun q => ?_
    have q' : (n : Int) < ((ns.length : Nat) : Int) := by omega
    first
      | (rw [decide_eq_true q'] at h5; exact absurd h5 (by decide))
      | (simp at h5; omega)
  cases hwl with
  | cons w1 w2 =>
    cases w2
    cases w1 with
    | list ho hall => exact ⟨_, _, ns, rfl, rfl, ho, ints_of_wellAll ns _ hall, hlen⟩

theorem post_true (l : OpenLaw) (args : List WData) : l.row.toRowW.claim.post args (.bool true) args = true :=
  postW_of (r := l.row.toRowW) (X := (true == true))
    (show WShape.has [] (.bool true) .bool = true by first | rfl | decide | simp [WShape.has, WShape.arms, WShape.armsAll])
    (show (WTm.eq .res (.lit (.bool true))).value [] { args := args, res := some (.bool true), after := args } = some (.bool (true == true)) from w_eq_bool (w_res rfl) w_lit) rfl

/-! ### the attachment: holds_open's last premise (the goal 'hc' behind k_head) from a wpAny of the law's body -/



/-! ### rules over ANY heap (no ledger) from facts about the written part K: the library's own take a ledger (News) for what they write -/
section
variable {prog : Program} {w : World} {A : Around} {E : Value → Shared → Prop} {s : Shared} {K : Frag}





/-! the whole heap as the ledger: makes every rule that writes through a ledger a rule over any heap -/

end
end Att

namespace L2
open PySem PySem.Spec PyProof.Rows

theorem vals_ints : ∀ {vs : List Value} {ns : List Int}, IntsAre vs ns → Vals (ns.map V.int) vs
  | _, _, .nil => .nil
  | _, _, .cons n t h => .cons ⟨t, rfl⟩ (vals_ints h)

/-- nothing is tracked but the script, known to the object (or it is an object of the module) -/
def Only (H : Hp) : Prop := ∀ b, H b = none ∨ ∃ o xs, H b = some (.frz o (.lst xs))

/-- THE HEAD: the law's promise, at the heap behind the top. F, the promise of the law's def, may use that base is part of the heap (so K.In base, base.Ns mainGlobals mg stand in Mod) -/
theorem law_call {P : Program} {w : World} {K : PySem.W.Frag} {mg mb : Str → Option Value} {CX : CXT} {k : Nat} {fa a : Addr} {fd : FuncData} {x : Str} {sp : Sp} {s₁ : Shared} {vs : List Value} {ns : List Int}
    (KX : K.In s₁.heap) (hns : s₁.heap.Ns mainGlobals mg) (hb : s₁.heap.Ns builtinsNs mb) (hbb : ∀ x : Str, x ≠ "__name__" → mb x = bootBuiltins x) (hlim : s₁.heap.NoLimit) (hg : s₁.gens = #[])
    (ha : s₁.heap.get? a = some { cls := .type "list", data := .seq vs.toArray }) (hi : IntsAre vs ns) (hl : ns.length ≤ sizeLine) (hr : Room k callerA)
    (F : ∀ base : Heap, K.In base → base.Ns mainGlobals mg → FnOk P w K mg base CX k fa fd [x] sp) (hbind : ∀ (s : Shared) (u : Value), BindsTo s fd ⟨[u], []⟩ [(x, u)])
    (hsp : ∀ H : Hp, Only H → SqL K H a (ns.map V.int) → sp [.ref a] H (fun v _ => v = .bl true) fun _ _ _ => False)
    (hCX : ∀ H e s', CX [] H s₁ (fun _ _ _ => False) e s' → False) :
    codeAny (model P w) callerA (.call (.ref fa) ⟨[.ref a], []⟩) (fun r s' => r = .ok (.ret (.bool true)) ∧ OldK s₁.heap s'.heap ∧ s'.os = s₁.os ∧ AllBare s'.gens) s₁ := by
  have rv := vals_ints hi
  have lenV := hi.length
  -- from an abstract heap in which nothing but the script may be tracked
  have core : ∀ H : Hp, Only H → SqL K H a (ns.map V.int) → HOk P w H s₁.heap → (∀ b, H b ≠ none → b = a) → (H a ≠ none → K.lookup a = none) →
      codeAny (model P w) callerA (.call (.ref fa) ⟨[.ref a], []⟩) (fun r s' => r = .ok (.ret (.bool true)) ∧ OldK s₁.heap s'.heap ∧ s'.os = s₁.os ∧ AllBare s'.gens) s₁ := by
    intro H hO hS hok hA hK
    have base_of : ∀ {b : Addr} {o : Obj}, s₁.heap.get? b = some o → H b = none → (hidT s₁.heap H).get? b = some o := fun e n => hidT_get e n
    have noA : ∀ {b : Addr} {o : Obj} {es : Array DictEntry} {ep : Nat}, s₁.heap.get? b = some o → o.data = .dict es ep → H b = none := fun {b o es ep} e d => by
      cases q : H b with
      | none => rfl
      | some u =>
        have e' : b = a := hA b (by rw [q]; simp)
        subst e'
        rw [ha] at e; cases e
        have d' : Data.seq vs.toArray _ = Data.dict es ep := d
        cases d'
    have nsK : ∀ {b : Addr} {m : Str → Option Value}, s₁.heap.Ns b m → (hidT s₁.heap H).Ns b m := fun {b m} ⟨o, es, ep, e, d, r⟩ => ⟨o, es, ep, base_of e (noA e d), d, r⟩
    have hKb : K.In (hidT s₁.heap H) := fun b o e => base_of (KX b o e) (by
      cases q : H b with
      | none => rfl
      | some u =>
        have e' : b = a := hA b (by rw [q]; simp)
        subst e'
        rw [hK (by rw [q]; simp)] at e; cases e)
    have hM : Mod K mg (hidT s₁.heap H) := ⟨hKb, nsK hns, ⟨mb, nsK hb, hbb⟩, let ⟨mc, h1, h2⟩ := hlim; ⟨mc, nsK h1, h2⟩⟩
    have e0 : Env0 P w K mg (hidT s₁.heap H) callerA [] s₁ H := ⟨rfl, hM, fun b o e => of_hidT e, Nat.le_of_eq (hidT_size _ _), trivial, fun b hb => absurd (show b ∈ ([] : List Addr) from hb) (by simp), hok, .of_eq hg⟩
    refine codeAny_mono ((F _ hKb (nsK hns)).run callerA [] s₁ H ⟨[.ref a], []⟩ [.ref a] [.ref a] _ _ hr e0 (hbind s₁ (.ref a)) (.cons rfl .nil) (hsp H hO hS)) fun r s' h => ?_
    cases r with
    | error e => exact (hCX H e s' h).elim
    | ok fl =>
      cases fl with
      | next => exact False.elim h
      | brk => exact False.elim h
      | cont => exact False.elim h
      | ret u =>
        obtain ⟨v, H', os, bare, un, hok', r', q⟩ := h
        have q' : v = .bl true := q
        subst q'
        obtain rfl : u = Value.bool true := r'
        refine ⟨rfl, OldK.of_keep fun b o e => ?_, os, bare⟩
        cases q : H b with
        | none => exact un.keep b o e q (by intro z; exact absurd (show b ∈ ([] : List Addr) from z) (by simp)) (by simp)
        | some u =>
          rcases hO b with z | ⟨ob, xs, z⟩
          · rw [q] at z; cases z
          · have z2 := un.frzs b ob _ z
            obtain ⟨e1, _⟩ := hok b _ z
            obtain ⟨e2, _⟩ := hok' b _ z2
            rw [e] at e1; cases e1
            exact e2
  cases hk : K.lookup a with
  | some o =>
    -- the script is one of the module's own objects
    have e := KX a o hk
    rw [ha] at e
    cases e
    refine core (fun _ => none) (fun _ => .inl rfl) (.inr ⟨_, vs.toArray, _, hk, rfl, rfl, rfl, by rw [List.size_toArray, lenV]; exact hl, by simpa using rv⟩) (fun b u z => by have z' : (none : Option HO) = some u := z; cases z') (fun b z => absurd rfl z) fun z => absurd rfl z
  | none =>
    refine core (fun b => if b = a then some (.frz { cls := .type "list", data := .seq vs.toArray } (.lst (ns.map V.int))) else none) (fun b => ?_) (.inl (.inr ⟨{ cls := .type "list", data := .seq vs.toArray }, if_pos rfl⟩)) (fun b u z => ?_) (fun b z => ?_) fun _ => hk
    · by_cases hb : b = a
      · exact .inr ⟨_, _, if_pos hb⟩
      · exact .inl (if_neg hb)
    · by_cases hb : b = a
      · have z' := (if_pos hb).symm.trans z
        cases z'
        subst hb
        exact ⟨ha, by rw [List.length_map]; exact hl, vs, _, rv, ha⟩
      · have z' := (if_neg hb).symm.trans z
        cases z'
    · by_cases hb : b = a
      · exact hb
      · exact absurd (if_neg hb) z
end L2

namespace L2
open PySem PySem.Spec PyProof.Rows


end L2

/- THE LAST THEOREM (shape; LID, My.* are yours):
   My.Adr: a structure of the addresses that your layer names (classes, functions); My.Txt K t: a structure (Prop) of the equations over K;
   My.txt_mk : {K} {implicit addresses ..} (e1 : nsIn K mainGlobals "law" = some (some (.ref f))) (e2 : K.lookup f = some ⟨oc, od, .func (fnOf "law" "law" params body scope dV kV doc pm an cdv ct), sl⟩) (e3 : codeIn K cdv "law" = true) .. : ∃ t, My.Txt K t

set_option maxRecDepth 100000 in
set_option maxHeartbeats 0 in
theorem PySem.Challenge.cw_LID_holds : PySem.Challenge.rw_LID.Holds := by
  w_on; o_law; k_head; (case hw => w_witness2)
  k_fill
  refine L2.walk_of (l := PySem.Challenge.rw_LID) (n := 63) (k := 40) (x := "script") (CX := fun w => ..) (sp := fun _ => My.sp_law) rfl (by decide) rfl ⟨rfl, by decide, by decide⟩ (fun w h Y => PySem.W.kIn_of Y) ?F ?S ?C
  case F =>
    intro w mg fa h KX G hmg
    have T : ∃ t, My.Txt (L2.KOf KX) t := by
      dsimp only [L2.KOf]                          -- K must stand as «<heap const> w.params» for k_is
      refine' My.txt_mk ?e1 ?e2 ?e3 ..
      (case e1 => PySem.W.k_is)                    -- in the order: a name -> its address -> its object -> its parts
      (case e2 => PySem.W.k_is)
      ..
    obtain ⟨t, T⟩ := T
    have e0 := hmg.symm.trans (PySem.W.mg_of KX G T.law)
    cases e0                                       -- fa is the law's own address
    exact ⟨_, fun s u => .of_eq rfl, fun base kb nb => My.law_fn T kb nb⟩     -- if «.of_eq rfl» comes too early: refine' ⟨_, ?b, fun base kb nb => My.law_fn T kb nb⟩; exact fun s u => .of_eq rfl
  case S => exact fun w H a ns hl hO hS => ..
  case C => exact ..
(the tactic k_is has no namespace: write k_is) -/

/-! SHORT WORDS over the layer: a def of the text, its body, what a loop and a test want. -/
namespace L2
open PySem PySem.Spec PyProof.Rows

/-! ### the text by places -/
/-- the j-th statement of a class's body -/
def inClass (s : Stmt) (j : Nat) : Stmt := match s with
  | .ClassDef _ _ _ body _ _ _ _ _ _ _ => body.getD j (.Pass ⟨0, 0, 0, 0⟩)
  | _ => .Pass ⟨0, 0, 0, 0⟩
def defArgs (s : Stmt) : Arguments := match s with
  | .FunctionDef _ a _ _ _ _ _ _ _ _ => a
  | _ => { posonlyargs := [], args := [], vararg := none, kwonlyargs := [], kw_defaults := [], kwarg := none, defaults := [] }
def defBody (s : Stmt) : List Stmt := match s with
  | .FunctionDef _ _ b _ _ _ _ _ _ _ => b
  | _ => []
def defScope (s : Stmt) : Scope := match s with
  | .FunctionDef _ _ _ _ _ _ sc _ _ _ => sc
  | _ => { kind := .function, names := [], isGenerator := false, isCoroutine := false }

/-! ### no exception leaves a def -/

/-! ### a def (or method) of the text as it stands behind the top -/
structure Fun (K : PySem.W.Frag) (x qual : Str) (st : Stmt) (f : Addr) (fd : FuncData) : Prop where
  ex : ∃ (oc : Value) (od : Option Addr) (kV doc pm : Value) (an : Option Addr) (cdv ct : Value) (osl : Array (Option Value)),
    fd = PySem.W.fnOf x qual (defArgs st) (defBody st) (defScope st) .none kV doc pm an cdv ct ∧ K.lookup f = some ⟨oc, od, .func fd, osl⟩ ∧ PySem.W.codeIn K cdv qual = true
  kp : PySem.W.keepIn K (.ref f) = true
section
variable {P : Program} {w : World} {K : PySem.W.Frag} {mg : Str → Option Value} {base : Heap}
/-- how its arguments bind (no defaults): h is «fun _ _ _ _ _ _ us hl => match us, hl with | [_, _], _ => rfl», one _ a parameter -/
theorem Fun.binds {x qual : Str} {st : Stmt} {f : Addr} {fd : FuncData} {ps : List Str} (F : Fun K x qual st f fd)
    (h : ∀ (kV doc pm : Value) (an : Option Addr) (cdv ct : Value) (us : List Value), us.length = ps.length → bindArgs (PySem.W.fnOf x qual (defArgs st) (defBody st) (defScope st) .none kV doc pm an cdv ct) ⟨us, []⟩ = pure (ps.zip us)) : Binds K fd ps [] := by
  obtain ⟨oc, od, kV, doc, pm, an, cdv, ct, osl, rfl, lk, hcd⟩ := F.ex
  exact .all (h kV doc pm an cdv ct)
theorem fun_mk {x qual : Str} {st : Stmt} {f : Addr} {oc : Value} {od an : Option Addr} {osl : Array (Option Value)} {kV doc pm cdv ct : Value} (l : K.lookup f = some ⟨oc, od, .func (PySem.W.fnOf x qual (defArgs st) (defBody st) (defScope st) .none kV doc pm an cdv ct), osl⟩)
    (c : PySem.W.codeIn K cdv qual = true) (k : PySem.W.keepIn K (.ref f) = true) : Fun K x qual st f (PySem.W.fnOf x qual (defArgs st) (defBody st) (defScope st) .none kV doc pm an cdv ct) := ⟨⟨oc, od, kV, doc, pm, an, cdv, ct, osl, rfl, l, c⟩, k⟩
end

/-! ### expressions in short: the name that stands in the i-th slot -/
section
variable {X : Cx}
theorem pv (i : Nat) {x : Str} {pos : Pos} (hN : X.N[i]? = some x := by rfl) (hv : Vis X.env.scope x := by first | exact Or.inl rfl | exact Or.inr (Or.inl rfl) | exact Or.inr (Or.inr rfl)) (hd : (x == ("__debug__" : Str)) = false := by decide)
    (hcd : (x == ("__classdict__" : Str)) = false := by decide) : PE X (.Name x pos) (tVar i) := pe_var hN hv hd hcd
end

/-! ### tests -/
theorem iteF {A B : Prop} (h : B) : if false = true then A else B := by
  rw [if_neg Bool.false_ne_true]
  exact h
theorem iteT {A B : Prop} (h : A) : if true = true then A else B := by
  rw [if_pos rfl]
  exact h
theorem ite2 {c A B : Prop} [Decidable c] (h1 : c → A) (h2 : ¬ c → B) : if c then A else B := by
  by_cases h : c
  · rw [if_pos h]
    exact h1 h
  · rw [if_neg h]
    exact h2 h

/-! ### heaps -/
/-- all that was tracked is as it was -/
def Same (H H' : Hp) : Prop := ∀ b o, H b = some o → H' b = some o
theorem Same.refl (H : Hp) : Same H H := fun _ _ h => h
theorem Same.trans {H H1 H2 : Hp} (a : Same H H1) (b : Same H1 H2) : Same H H2 := fun c o h => b c o (a c o h)
theorem Same.free {H H' : Hp} (e : Same H H') {l : Addr} (h : H' l = Option.none) : H l = Option.none := by
  cases q : H l with
  | none => rfl
  | some o =>
    rw [e l o q] at h
    cases h

end L2
end
section
set_option Elab.async false
set_option linter.all false
set_option maxRecDepth 100000
namespace L2
open PySem PySem.Spec PyProof.Rows

/-! ### lists of pairs as tables -/
section
variable {κ : Type} [DecidableEq κ]



end


/-! ### a tracked dict, its keys ints and texts or tuples of these -/


section
variable {P : Program} {w : World} {H : Hp} {h : Heap} {a : Addr}
end



section
variable {X : Cx} {pins : List (Addr × Obj)} {σ : St} {H : Hp} {s : Shared} {a : Addr} {y v : V} {u r : Value} {o : Option V} {A : Around} {E : Value → Shared → Prop}


end

section
variable {X : Cx} {pins : List (Addr × Obj)} {σ : St} {H : Hp} {s : Shared} {a : Addr} {kvs : List (Key × V)} {k : Key} {u : Value} {A : Around} {E : Value → Shared → Prop}
end


/-! ### readings and rules -/
/-- the element of a subscription, not a slice -/
def NoSl (i : Expr) : Prop := ∀ ov iv, subscripted i false ov iv = operate [ov, iv] (getItem ov iv)
theorem subD_of {prog : Program} {w : World} {A : Around} {E : Value → Shared → Prop} {s : Shared} {env : Env} {value slice : Expr} {pos : Pos} {T id : String} {Q : Value → Shared → Prop}
    (hl : typeLookup (.type T) "__getitem__" = pure (some (.builtin id))) (hs : NoSl slice)
    (h : wpAny (model prog w) A (eval value env) (fun o s₁ => wpAny (model prog w) A (eval slice env) (fun i s₂ => s₂.TypeIs o T ∧ wpAny (model prog w) A (getItem o i) Q E s₂) E s₁) E s) :
    wpAny (model prog w) A (eval (.Subscript value slice pos) env) Q E s := by
  refine Subscript_ (wpAny_mono h (fun o s₁ h₁ => wpAny_mono h₁ (fun i s₂ h₂ => ?_) fun _ _ x => x) fun _ _ x => x)
  obtain ⟨hT, h₂⟩ := h₂
  unfold subscriptTail
  refine wpAny_bind ?_
  rw [getitemInPython_of_ne hT.not_modules]
  refine wpAny_bind (wpAny_specialOf hT hl ?_)
  have fin : wpAny (model prog w) A (subscripted slice false o i) (fun r s₃ => wpAny (model prog w) A (letTemporaryGo value o r >>= fun _ => pure r) Q E s₃) E s₂ := by
    rw [hs o i]
    exact wpAny_operating (wpAny_mono h₂ (fun r s₃ h₃ => wpAny_bind (wpAny_letTemporaryGo (wpAny_pure h₃))) fun _ _ x => x)
  first
    | exact wpAny_pure (wpAny_bind fin)
    | exact wpAny_bind (wpAny_pure (wpAny_bind fin))
    | exact wpAny_bind fin



section
variable {X : Cx} {o i e value : Expr} {pos pos' tpos : Pos} {td ty tv : TE}
end


/-! ### displays -/
section
variable {X : Cx} {pos : Pos}
end




/-! ### methods -/


section
variable {X : Cx} {pins : List (Addr × Obj)} {σ : St} {H : Hp} {s : Shared} {a : Addr} {y d : V} {u r : Value} {o : Option V} {A : Around} {E : Value → Shared → Prop}
end

section
variable {X : Cx} {o e f : Expr} {apos cpos : Pos} {td ty tx : TE}
end

/-! ### dict(d): a copy -/
section
variable {X : Cx} {pins : List (Addr × Obj)} {σ : St} {H : Hp} {s : Shared} {a : Addr} {kvs : List (Key × V)} {A : Around} {E : Value → Shared → Prop}
end


section
variable {X : Cx} {pins : List (Addr × Obj)} {σ : St} {H : Hp} {s : Shared} {a : Addr} {y : V} {u : Value} {A : Around} {E : Value → Shared → Prop}
end
end L2
namespace L2
open PySem PySem.Spec PyProof.Rows
section
variable {X : Cx}
end
end L2
end
section
set_option maxRecDepth 100000
set_option maxHeartbeats 4000000
namespace LX
open PySem PySem.W

/-- an exception's object, as it stands: class, attributes' dict, its fields -/
def excRec (c : Value) (od : Option Addr) (fs : Array Value) (sl : Array (Option Value)) : Obj := { cls := c, dict := od, data := .fields fs, slots := sl }
/-- the object of a class of errors -/
def clsRec (dd : Option Addr) (cd : ClassData) (k0 k1 k2 k3 k5 : Option Value) : Obj := { cls := .type "type", dict := dd, data := .cls cd, slots := #[k0, k1, k2, k3, some (.builtin "ValueError.__new__"), k5] }

/-- a class of errors of the text's own, under ValueError -/
structure XCls (K : Frag) (C : Addr) (cd : ClassData) : Prop where
  ob : ∃ dd k0 k1 k2 k3 k5, K.lookup C = some (clsRec dd cd k0 k1 k2 k3 k5)
  del : cd.hasDel = false
  line : ∃ r, cd.mro = .ref C :: r
  val : cd.mro.contains (.type "ValueError") = true
  bas : cd.mro.contains (.type "BaseException") = true
  obj : cd.mro.contains (.type "object") = true
  atr : cd.mro.contains (.type "AttributeError") = false
  nam : cd.mro.contains (.type "NameError") = false

/-- the same as a test -/
def xclsIn (K : Frag) (C : Addr) : Bool := match K.lookup C with
  | some ⟨.type "type", _, .cls cd, sl⟩ => (match cd.mro, sl.toList with
    | .ref D :: _, [_, _, _, _, some (.builtin n), _] => D == C && n == "ValueError.__new__" && !cd.hasDel && cd.mro.contains (.type "ValueError") && cd.mro.contains (.type "BaseException") &&
        cd.mro.contains (.type "object") && !cd.mro.contains (.type "AttributeError") && !cd.mro.contains (.type "NameError")
    | _, _ => false)
  | _ => false
theorem xcls_of {K : Frag} {C : Addr} (e : xclsIn K C = true) : ∃ cd, clsIn K C = some cd ∧ XCls K C cd := by
  unfold xclsIn at e
  split at e
  · rename_i dd cd sl ho
    split at e
    · rename_i D r k0 k1 k2 k3 n k5 hm hs
      simp only [Bool.and_eq_true, beq_iff_eq, Bool.not_eq_true'] at e
      obtain ⟨⟨⟨⟨⟨⟨⟨rfl, rfl⟩, e1⟩, e2⟩, e3⟩, e4⟩, e5⟩, e6⟩ := e
      obtain ⟨sl⟩ := sl
      simp only at hs
      subst hs
      exact ⟨cd, by unfold clsIn; rw [ho], ⟨dd, k0, k1, k2, k3, k5, ho⟩, e1, ⟨r, hm⟩, e2, e3, e4, e5, e6⟩
    · cases e
  · cases e

section
variable {K : Frag} {C : Addr} {cd : ClassData} {M : Model} {h : Heap}
theorem XCls.cls (x : XCls K C cd) : clsIn K C = some cd := by
  obtain ⟨dd, k0, k1, k2, k3, k5, e⟩ := x.ob
  unfold clsIn
  rw [e]
  rfl
theorem XCls.notEmpty (x : XCls K C cd) : cd.mro.isEmpty = false := by
  obtain ⟨r, e⟩ := x.line
  rw [e]
  rfl
theorem XCls.sub (x : XCls K C cd) (X : K.In h) (v : Value) : Looks M h (isSubtype (.ref C) v) (cd.mro.contains v) :=
  looks_mroIn X (by unfold mroIn; rw [x.cls, Option.bind_some, if_neg (by rw [x.notEmpty]; decide)])
theorem XCls.mro (x : XCls K C cd) (X : K.In h) : Looks M h (mroOf (.ref C)) cd.mro := (looks_clsIn X x.cls).andThen .now
theorem XCls.typ (x : XCls K C cd) (X : K.In h) : Looks M h (typeOf (.ref C)) (.type "type") := by
  obtain ⟨dd, k0, k1, k2, k3, k5, e⟩ := x.ob
  exact (Looks.ld (X _ _ e)).andThen .now
theorem XCls.isTy (x : XCls K C cd) (X : K.In h) : Looks M h (isType (.ref C)) true := by
  obtain ⟨dd, k0, k1, k2, k3, k5, e⟩ := x.ob
  intro A Q E s k q
  unfold isType loadHead
  exact wpAny_bind (wpAny_loadPart (k _ _ (X _ _ e)) (wpAny_pure q))
theorem XCls.madeBy (x : XCls K C cd) (X : K.In h) : Looks M h (Bind.madeBy (.ref C)) (some "ValueError.__new__") := by
  obtain ⟨dd, k0, k1, k2, k3, k5, e⟩ := x.ob
  obtain ⟨r, hr⟩ := x.line
  intro A Q E s k q
  unfold Bind.madeBy
  refine wpAny_bind (x.mro X A _ E s k ?_)
  rw [hr, List.forIn_cons]
  refine wpAny_bind (wpAny_bind (wpAny_bind (wpAny_bind (wpAny_loadPart (k _ _ (X _ _ e)) (wpAny_pure ?_)))))
  exact wpAny_pure (wpAny_pure (wpAny_pure q))
theorem XCls.static (x : XCls K C cd) (X : K.In h) : Looks M h (Bind.staticBase (.ref C)) (.ref C) := by
  obtain ⟨r, hr⟩ := x.line
  intro A Q E s k q
  unfold Bind.staticBase
  refine wpAny_bind (x.mro X A _ E s k ?_)
  rw [hr, List.forIn_cons]
  exact wpAny_bind (wpAny_bind (wpAny_bind (x.madeBy X A _ E s k (wpAny_pure (wpAny_pure (wpAny_pure q))))))
theorem canonVE : Manifest.canonical "ValueError.__new__" = Manifest.canonical "BaseException.__new__" := PySem.F.excBase_ValueError.canon
theorem XCls.here (x : XCls K C cd) (X : K.In h) : Looks M h (Bind.madeHere "BaseException.__new__" (.ref C)) () :=
  (x.static X).andThen ((x.madeBy X).andThen (Looks.of_pure (by simp only [Option.map_some, canonVE, bne_self_eq_false, Bool.false_eq_true, if_false])))
end

/-- behind __init__ -/
def Back (x : Addr) (R : Result → Shared → Prop) (r : Result) (s' : Shared) : Prop := match r with
  | .ok (.ret v) => v = .none ∧ R (.ok (.ret (.ref x))) s'
  | .ok _ => False
  | .error e => R (.error e) s'
/-- a new exception's record -/
abbrev newRec (C t : Addr) : Obj := excRec (.ref C) none #[.ref t, .none, .none, .none, .bool false, .none] #[]
abbrev tupRec (vs : List Value) : Obj := { cls := .type "tuple", data := .seq vs.toArray }
/-- the heap with a new exception -/
abbrev withNew (h : Heap) (C : Addr) (vs : List Value) : Heap := (h.push (tupRec vs)).push (newRec C h.objs.size)

section
variable {prog : Program} {w : World} {A : Around} {R : Result → Shared → Prop} {h : Heap} {g : Array GenState} {d : Drawn} {t : Nat} {os : OsState} {K : Frag} {C : Addr} {cd : ClassData} {vs : List Value}

theorem made_new (x : XCls K C cd) (X : K.In h) (hv : vs.length ≤ sizeLine) (k : R (.ok (.ret (.ref (h.objs.size + 1)))) ⟨withNew h C vs, g, d, t, os⟩) :
    codeAny (model prog w) A (.call (.builtin "ValueError.__new__") ⟨.ref C :: vs, []⟩) R ⟨h, g, d, t, os⟩ := by
  have F := PySem.F.excBase_ValueError
  have st := x.static (M := model prog w) X
  have ty := x.isTy (M := model prog w) X
  have mb := x.madeBy (M := model prog w) X
  have hh := x.here (M := model prog w) X
  have s1 := x.sub (M := model prog w) X (.type "ValueError")
  rw [x.val] at s1
  have s2 := x.sub (M := model prog w) X (.type "AttributeError")
  rw [x.atr] at s2
  have s3 := x.sub (M := model prog w) X (.type "NameError")
  rw [x.nam] at s3
  refine codeAny_call_builtin_code (Code.quiet_builtin _ F.quiet) ?_
  have star := F.noStar
  simp only [checkBuiltinCall, F.newKind, F.newSplit, F.newRow]
  repeat (first | simp only [bne_self_eq_false, Bool.false_eq_true, if_false, Bool.not_true] | lk)
  refine codeAny_builtinAt F.entry ?_
  unfold Builtin.«BaseException.__new__»
  refine wpAt_bind ?_
  show wpAt _ _ _ (stack >>= _) _ _ _
  refine wpAt_bind (wpAt_stack fun p below => wpAt_of_wpAny ?_)
  have hends := F.ends
  wp_walk
  refine wpAt_of_wpAny ?_
  rw [F.owner]
  repeat (first | simp only [bne_self_eq_false, Bool.false_eq_true, if_false, Bool.not_true] | lk)
  rw [if_neg (by rw [List.size_toArray]; omega)]
  obtain ⟨dd, k0, k1, k2, k3, k5, ho⟩ := x.ob
  repeat lk
  refine nd_load (Heap.get?_push_of_some _ (Heap.get?_push_of_some _ (X _ _ ho))) (wpAny_pure (wpAny_pure ?_))
  rw [x.del, if_neg Bool.false_ne_true]
  refine wpAny_pure (wpAny_pure ?_)
  show R _ _
  rw [Heap.size_push]
  exact k

/-- C(..) of an error class of the text's own whose __init__ is a def of the text -/
theorem exc_made {f : Addr} (x : XCls K C cd) (X : K.In h) (hi : findIn K (.ref C) "__init__" = some (some (.ref f))) (hf : typeIn K (.ref f) = some (.type "function")) (hv : vs.length ≤ sizeLine)
    (k : codeAny (model prog w) (A.under (.builtin "type.__call__" ⟨.ref C :: vs, []⟩)) (.call (.ref f) ⟨.ref (h.objs.size + 1) :: vs, []⟩) (Back (h.objs.size + 1) R) ⟨withNew h C vs, g, d, t, os⟩) :
    codeAny (model prog w) A (.call (.ref C) ⟨vs, []⟩) R ⟨h, g, d, t, os⟩ := by
  obtain ⟨dd, k0, k1, k2, k3, k5, ho⟩ := x.ob
  have hC := X _ _ ho
  have ht := x.typ (M := model prog w) X
  refine codeAny_of_tree ?_
  show wpAny _ _ (callAny (.ref C) _) _ _ _
  refine nd_load hC ?_
  show wpAny _ _ (callAny.viaDunder (.ref C) _) _ _ _
  unfold callAny.viaDunder
  have sp : Looks (model prog w) h (specialOf (.ref C) "__call__") (some (.builtin "type.__call__")) := ht.andThen (Looks.of_pure tc_lookup)
  refine wpAny_bind (sp.at ?_)
  dsimp only
  rw [tc_bind]
  refine wpAny_bind (wpAny_pure (wpAny_bind (wpAny_pure ?_)))
  refine wpAny_pure (a := Fin.again (.call (.builtin "type.__call__") ⟨.ref C :: vs, []⟩)) (And.intro rfl ?_)
  refine codeAny_call_builtin_at (Code.quiet_builtin _ (by decide +kernel)) entry_typeCall (check_slot tc_kind tc_split (ht.andThen (Looks.of_pure tc_sub)) (tc_args _ _ _) ?_)
  unfold Builtin.«type.__call__»
  have hm := x.mro (M := model prog w) X
  have em := x.notEmpty
  have mb := x.madeBy (M := model prog w) X
  repeat (first | simp only [em, Bool.false_eq_true, if_false] | with_reducible refine wpAny_call ?_ | lk)
  refine made_new x X hv ?_
  have kp : ∀ b o, h.get? b = some o → (withNew h C vs).get? b = some o := fun b o e => Heap.get?_push_of_some _ (Heap.get?_push_of_some _ e)
  have X1 : K.In (withNew h C vs) := X.keeps kp
  have hx : (withNew h C vs).get? (h.objs.size + 1) = some (newRec C h.objs.size) := by heap_get
  have t1 : Looks (model prog w) (withNew h C vs) (typeOf (.ref (h.objs.size + 1))) (.ref C) := (Looks.ld hx).andThen .now
  have s1 := x.sub (M := model prog w) X1 (.ref C)
  obtain ⟨r, hr⟩ := x.line
  rw [show cd.mro.contains (.ref C) = true by rw [hr]; simp] at s1
  have i1 := looks_findIn (M := model prog w) X1 hi
  have b1 := bind_fn (M := model prog w) X1 (.ref (h.objs.size + 1)) hf
  unfold isInstance callSpecial? specialOf
  repeat (first | with_reducible refine wpAny_call ?_ | lk)
  refine codeAny_mono k fun r s' z => ?_
  rcases r with e | (v | _ | _ | _) <;> first | exact z | exact z.elim | skip
  obtain ⟨rfl, z⟩ := z
  exact wpAny_pure (wpAny_pure z)
end
end LX
end
section
set_option maxRecDepth 100000
set_option maxHeartbeats 4000000
namespace LX
open PySem PySem.W
section
variable {prog : Program} {w : World} {A : Around} {E : Value → Shared → Prop} {h : Heap} {g : Array GenState} {d : Drawn} {t : Nat} {os : OsState} {K : Frag} {C e t0 : Addr} {cd : ClassData} {vs : List Value} {od : Option Addr} {fs : Array Value} {sl : Array (Option Value)}

theorem rec_type {M : Model} (he : h.get? e = some (excRec (.ref C) od fs sl)) : Looks M h (typeOf (.ref e)) (.ref C) := (Looks.ld he).andThen .now

/-- ValueError.__init__(e, ..): the arguments are kept anew -/
theorem init_called {Q : Value → Shared → Prop} (x : XCls K C cd) (X : K.In h) (he : h.get? e = some (excRec (.ref C) od fs sl)) (h0 : fs[0]? = some (.ref t0)) (hv : vs.length ≤ sizeLine)
    (k : Q .none ⟨(h.push (tupRec vs)).update e (Obj.mapFields (·.setIfInBounds 0 (.ref h.objs.size))), g, d, t, os⟩) :
    wpAny (model prog w) A (call (.builtin "ValueError.__init__") (.ref e :: vs)) Q E ⟨h, g, d, t, os⟩ := by
  have F := PySem.F.excBase_ValueError
  have ty := rec_type (M := model prog w) he
  have s1 := x.sub (M := model prog w) X (.type "ValueError")
  rw [x.val] at s1
  obtain ⟨dd, k0, k1, k2, k3, k5, ho⟩ := x.ob
  have hC : h.get? C = some ⟨.type "type", dd, .cls cd, #[k0, k1, k2, k3, some (.builtin "ValueError.__new__"), k5]⟩ := X _ _ ho
  have star := F.noStar
  refine wpAny_call (codeAny_call_builtin F.init.plain F.initEntry ?_)
  simp only [checkBuiltinCall, F.initKind, F.initSplit, F.initRow]
  unfold isInstance Bind.checkArgs
  refine wpAny_bind (wpAny_bind (ty.at (s1.at ?_)))
  simp only [Bool.false_eq_true, if_false, Bool.not_true]
  refine wpAny_bind (m := Bind.printed "*" true _ _) ?_
  unfold Bind.printed Bind.receiverType typeNameWhole
  rw [if_neg (by decide)]
  dsimp only
  rw [if_neg (by decide)]
  refine wpAny_bind (ty.at ?_)
  refine wpAny_bind (wpAny_bind ((looks_clsIn X x.cls).at (wpAny_pure (wpAny_pure ?_))))
  refine wpAny_bind (m := if ("ValueError" != "*") = true then pure "ValueError" else _) ?_
  rw [if_pos star]
  refine wpAny_pure (wpAny_onRaise ?_)
  show wpAny _ _ (Bind.check _ _ _ _ []) _ _ _
  rw [PyProof.Rows.check_varPos]
  refine wpAny_pure ?_
  unfold Builtin.«BaseException.__init__»
  dsimp only
  rw [if_neg (by simp)]
  unfold newTuple Builtin.BaseException.bexcPut
  have hsz : 0 < fs.size := (Array.getElem?_eq_some_iff.mp h0).1
  have e1 := Heap.get?_push_of_some (h := h) (tupRec vs) he
  refine wpAny_bind (wpAny_newObj_type ?_ (by show vs.toArray.size ≤ sizeLine; rw [List.size_toArray]; exact hv))
  refine wpAny_bind (wpAny_bind (wpAny_field (s := ⟨h.push (tupRec vs), g, d, t, os⟩) e1 rfl h0 ?_))
  refine wpAny_bind (wpAny_setField (s := ⟨h.push (tupRec vs), g, d, t, os⟩) e1 rfl hsz ?_)
  exact wpAny_letGo (wpAny_pure k)
end
end LX
end
section
set_option maxRecDepth 100000
set_option maxHeartbeats 4000000
namespace LX
open PySem PySem.W
section
variable {prog : Program} {w : World} {A : Around} {E : Value → Shared → Prop} {s : Shared} {K : Frag}
theorem ve_find : findCls K (.type "ValueError") (.type "type") "__init__" = some (.val (.builtin "ValueError.__init__")) := by kernel_rfl
theorem ve_ga : findIn K (.type "type") "__getattribute__" = some (some (.builtin "type.__getattribute__")) := by kernel_rfl
theorem ve_typ {M : Model} {h : Heap} : Looks M h (typeOf (.type "ValueError")) (.type "type") := Looks.of_pure (by kernel_rfl)
theorem ve_sub : subIn K (.type "type") (.type "type") = some true := by kernel_rfl
theorem ve_opq {M : Model} {h : Heap} : Looks M h (opaqueClassAbove (.type "ValueError")) none := Looks.of_pure (by kernel_rfl)
/-- ValueError.__init__, as it is called -/
theorem ve_init {pl : Sem Bool} {Q : Value × List Value → Shared → Prop} (X : K.In s.heap) (k : Q (.builtin "ValueError.__init__", []) { s with toks := s.toks + 1 }) :
    wpAny (model prog w) A (getMethod (.type "ValueError") "__init__" pl) Q E s := by
  have sp : Looks (model prog w) s.heap (specialOf (.type "ValueError") "__getattribute__") (some (.builtin "type.__getattribute__")) := ve_typ.andThen (looks_findIn X ve_ga)
  unfold getMethod
  refine wpAny_bind (sp.here ?_)
  dsimp only
  rw [if_pos canon_tga]
  refine wpAny_bind (cls_open (hook := none) X ve_opq ve_typ ve_ga (Looks.of_pure (by kernel_rfl)) ve_sub ve_find ?_)
  refine wpAny_pure ?_
  show wpAny _ _ (handedOut _) _ _ _
  rw [handedOut_of (by kernel_rfl)]
  exact wpAny_pure (wpAny_pure k)
end
end LX
end
section
set_option maxRecDepth 100000
set_option maxHeartbeats 4000000
namespace LX
open PySem PySem.W
section
variable {prog : Program} {w : World} {A : Around} {E : Value → Shared → Prop} {s : Shared} {K : Frag} {env : Env}
/-- what is raised: an exception of a class of the text's own, not raised yet -/
def RaisableX (K : Frag) (E : Value → Shared → Prop) (v : Value) (s1 : Shared) : Prop :=
  ∃ (ea C : Addr) (cd : ClassData) (od : Option Addr) (fs : Array Value) (sl : Array (Option Value)), v = .ref ea ∧ s1.heap.get? ea = some (excRec (.ref C) od fs sl) ∧ fs[1]? = some .none ∧ XCls K C cd ∧ K.In s1.heap ∧ E (.ref ea) s1
theorem raise_own {e : Expr} {pos : Pos} {Q : Flow → Shared → Prop} (hh : A.handled = none) (k : wpAny (model prog w) A (eval e env) (RaisableX K E) E s) :
    wpAny (model prog w) A (exec (.Raise (some e) none pos) env) Q E s := by
  show wpAny (model prog w) A (do standAt pos; raiseStmt env (some (do let v ← eval e env; standAt pos; pure v)) none) Q E s
  refine wpAny_bind (wpAny_standAt ?_)
  unfold raiseStmt
  dsimp only
  refine wpAny_bind (wpAny_bind (wpAny_mono k (fun v s1 q => wpAny_bind (wpAny_standAt (wpAny_pure ?_))) fun _ _ z => z))
  obtain ⟨ea, C, cd, od, fs, sl, rfl, he, h1, x, X, hE⟩ := q
  obtain ⟨hp, g, d, tk, os⟩ := s1
  have ty := rec_type (M := model prog w) he
  have nt : Looks (model prog w) hp (isType (.ref ea)) false := by
    intro A' Q' E' s' kk q
    unfold isType loadHead
    exact wpAny_bind (wpAny_loadPart (kk _ _ he) (wpAny_pure q))
  have sb := x.sub (M := model prog w) X (.type "BaseException")
  rw [x.bas] at sb
  have ct := x.typ (M := model prog w) X
  have f1 : Looks (model prog w) hp (field (.ref ea) 1) .none := looks_field he 1 h1
  refine wpAny_bind (wpAny_pure ?_)
  dsimp only
  refine wpAny_bind (wpAny_holding ?_)
  unfold excFromValue isExcClass isInstance
  repeat (first | simp only [Bool.false_eq_true, if_false, if_true] | lk)
  show wpAny _ _ handled _ _ _
  refine wpAny_handled ?_
  rw [hh]
  exact wpAny_throw hE
/-- does an exception of one class of ours match another one -/
theorem matches_own {ea C D : Addr} {cd cd' : ClassData} {od : Option Addr} {fs : Array Value} {sl : Array (Option Value)} {h : Heap} {g : Array GenState} {d : Drawn} {t : Nat} {os : OsState} {Q : Bool → Shared → Prop} {M : Model} (x : XCls K C cd) (y : XCls K D cd') (X : K.In h)
    (he : h.get? ea = some (excRec (.ref C) od fs sl)) (q : Q (cd.mro.contains (.ref D)) ⟨h, g, d, t, os⟩) : wpAny M A (excMatches (.ref ea) (.ref D)) Q E ⟨h, g, d, t, os⟩ := by
  have ty := rec_type (M := M) he
  have td := y.typ (M := M) X
  have ti := y.isTy (M := M) X
  have tn : Looks M h (isSubtype (.type "type") (.type "tuple")) false := Looks.of_pure tc_notTuple
  have yb := y.sub (M := M) X (.type "BaseException")
  rw [y.bas] at yb
  have xs := x.sub (M := M) X (.ref D)
  unfold excMatches isInstance isExcClass
  repeat (first | simp only [Bool.false_eq_true, if_false, if_true, Bool.not_true] | lk)
  cases hb : cd.mro.contains (.ref D) with
  | true =>
    rw [hb] at q
    simp only [if_true]
    repeat lk
    exact q
  | false =>
    rw [hb] at q
    simp only [Bool.false_eq_true, if_false]
    repeat lk
    exact q

/-- an exception as an instance of its class -/
theorem inst_none {ea C : Addr} {fs : Array Value} {sl : Array (Option Value)} {h : Heap} (he : h.get? ea = some (excRec (.ref C) none fs sl)) : InstAt h ea (excRec (.ref C) none fs sl) C none := ⟨he, rfl, rfl, True.intro⟩
theorem inst_some {ea C dx : Addr} {o : Obj} {fs : Array Value} {sl : Array (Option Value)} {h : Heap} (he : h.get? ea = some (excRec (.ref C) (some dx) fs sl)) (hd : h.get? dx = some o) : InstAt h ea (excRec (.ref C) (some dx) fs sl) C (some o) := ⟨he, rfl, rfl, hd⟩
theorem canonBE : (Manifest.canonical "BaseException.__getattribute__" != "object.__getattribute__") = false := by decide +kernel
/-- e.m(..): the method, a def of the class or of one above it -/
theorem meth_exc {ea C f : Addr} {ox : Obj} {od : Option Obj} {name : Str} {pl : Sem Bool} {Q : Value × List Value → Shared → Prop} (X : K.In s.heap) (I : InstAt s.heap ea ox C od)
    (hg : findIn K (.ref C) "__getattribute__" = some (some (.builtin "BaseException.__getattribute__"))) (hk : findIn K (.ref C) "__getattr__" = some none)
    (hf : findIn K (.ref C) name = some (some (.ref f))) (ht : typeIn K (.ref f) = some (.type "function")) (hs : shadowIn od name = some false) (k : Q (.ref f, [.ref ea]) s) :
    wpAny (model prog w) A (getMethod (.ref ea) name pl) Q E s := by
  unfold getMethod specialOf
  refine wpAny_bind (wpAny_bind (I.type.here ((looks_findIn X hg).here ?_)))
  dsimp only
  rw [canonBE, if_neg Bool.false_ne_true]
  refine wpAny_bind (wpAny_bind (I.type.here ((looks_findIn X hk).here ?_)))
  refine wpAny_bind (wpAny_bind (I.type.here ((looks_findIn X hf).here (wpAny_bind ((looks_typeIn X ht).here ?_)))))
  rw [if_neg (by decide +kernel)]
  refine wpAny_bind (wpAny_loadPart I.at_ ?_)
  have hd := I.dict
  cases e : ox.dict with
  | none => exact wpAny_bind (wpAny_rule (wpAny_pure k))
  | some dx =>
    cases od with
    | none => rw [e] at hd; exact hd.elim
    | some o =>
      rw [e] at hd
      obtain ⟨r, a, b⟩ := Option.map_eq_some_iff.mp hs
      refine wpAny_bind (wpAny_bind (wpAny_loadPart hd ?_))
      rw [nsLook_of a]
      refine wpAny_pure ?_
      rw [b]
      exact wpAny_bind (wpAny_rule (wpAny_pure k))
end
end LX
end
section
set_option maxRecDepth 100000
set_option maxHeartbeats 4000000
namespace LX
open PySem PySem.W
/-- what attributes of an exception's class ask -/
structure XGet (K : Frag) (C : Addr) : Prop where
  ga : findIn K (.ref C) "__getattribute__" = some (some (.builtin "BaseException.__getattribute__"))
  gt : findIn K (.ref C) "__getattr__" = some none
section
variable {prog : Program} {w : World} {A : Around} {E : Value → Shared → Prop} {h : Heap} {g : Array GenState} {d : Drawn} {t : Nat} {os : OsState} {K : Frag} {C ea : Addr} {cd : ClassData} {ox : Obj} {od : Option Obj} {name : Str}
/-- e.name, whatever is found -/
theorem getby_exc {tk : Tok} {fill expr : Bool} {r : Builtin.ObjectAttr.Found} {Q : Value → Shared → Prop} (x : XCls K C cd) (G : XGet K C) (X : K.In h) (I : InstAt h ea ox C od) (hf : findObj K C od name = some r)
    (k : match r with
      | .value v => handedIn v = true ∧ Q v ⟨h, g, d, t, os⟩
      | .bind gg a => wpAny (model prog w) A.in1 (call gg [a, .ref ea, .ref C]) (fun v s' => handedIn v = true ∧ Q v s') (fun _ _ => False) ⟨h, g, d, t, os⟩
      | .missing => False) :
    wpAny (model prog w) A (getAttrBy (.ref ea) (.str name tk) fill expr) Q E ⟨h, g, d, t, os⟩ := by
  have ty := I.type (M := model prog w)
  have l1 := looks_findIn (M := model prog w) X G.ga
  have l2 := looks_findIn (M := model prog w) X G.gt
  have l3 := looks_find (M := model prog w) X I hf
  have sb := x.sub (M := model prog w) X (.type "BaseException")
  rw [x.bas] at sb
  have S := PySem.F.excAttr_ValueError.ga
  unfold getAttrBy
  refine wpAny_holding (wpAny_bind (ty.at (wpAny_bind (l1.at ?_))))
  dsimp only
  rw [show (onTheHeap (Value.ref C) && Value.builtin "BaseException.__getattribute__" == Value.builtin "object.__getattribute__") = false by rw [show (Value.builtin "BaseException.__getattribute__" == Value.builtin "object.__getattribute__") = false by decide +kernel, Bool.and_false], if_neg Bool.false_ne_true]
  unfold getAttrByItsOwn
  have hb : Looks (model prog w) h (hookBefore (.ref C)) none := looks_hook X (by rw [if_pos (by rfl)]; exact G.gt)
  refine wpAny_bind (hb.at (wpAny_bind (wpAny_attempt (wpAny_holding ?_))))
  unfold callGetattribute
  rw [show (expr && onTheHeap (Value.builtin "BaseException.__getattribute__")) = false from Bool.and_false _, if_neg Bool.false_ne_true]
  unfold boundAndCalled
  rw [S.bind]
  refine wpAny_bind (wpAny_pure ?_)
  show wpAny _ _ (call (.builtin "BaseException.__getattribute__") [.ref ea, .str name tk]) _ _ _
  refine wpAny_call (codeAny_call_builtin S.plain PySem.F.entry_bexc_ga ?_)
  refine @check_slot (model prog w) _ _ ⟨h, g, d, t, os⟩ "BaseException.__getattribute__" "BaseException" "__getattribute__" (.ref ea) [.str name tk] [] _ (by decide +kernel) (by decide +kernel) (ty.andThen sb) (PySem.F.args_bexc_ga (.ref ea) (.str name tk)) ?_
  unfold Builtin.«object.__getattribute__»
  refine wpAny_bind (wpAny_pure (wpAny_bind (wpAny_pure (wpAny_bind (ty.at (wpAny_bind (l3.at ?_)))))))
  cases r with
  | value v =>
    refine wpAny_pure ?_
    show wpAny _ _ (handedOut v) _ _ _
    rw [handedOut_of k.1]
    exact wpAny_pure k.2
  | bind gg a =>
    refine wpAny_bind (wpAny_holding (wpAny_mono k (fun v s' z => wpAny_pure ?_) fun _ _ z => z.elim))
    show wpAny _ _ (handedOut v) _ _ _
    rw [handedOut_of z.1]
    exact wpAny_pure z.2
  | missing => exact k.elim
/-- e.__class__ as isinstance asks it -/
theorem class_exc {Q : Option Value → Shared → Prop} (x : XCls K C cd) (G : XGet K C) (X : K.In h) (I : InstAt h ea ox C od) (hc : findIn K (.ref C) "__class__" = some (some (.builtin "object.__class__")))
    (k : Q (some (.ref C)) ⟨h, g, d, t + 1, os⟩) : wpAny (model prog w) A (getAttr? (.ref ea) "__class__") Q E ⟨h, g, d, t, os⟩ := by
  have hn : specialIn K (.builtin "object.__class__") "__get__" = some (some (.builtin "getset_descriptor.__get__")) := by kernel_rfl
  have ht : takesIn K (.builtin "object.__class__") = some true := by kernel_rfl
  have hf : findObj K C od "__class__" = some (.bind (.builtin "getset_descriptor.__get__") (.builtin "object.__class__")) := by
    unfold findObj
    rw [x.cls, Option.bind_some, hc, Option.bind_some]
    dsimp only
    rw [hn, Option.bind_some]
    dsimp only
    rw [ht]
    rfl
  have mo : mroIn K C (.type "object") = some true := by
    unfold mroIn
    rw [x.cls, Option.bind_some, if_neg (by rw [x.notEmpty]; decide), x.obj]
  unfold getAttr? getAttrBy?
  refine wpAny_bind (wpAny_mkText (wpAny_bind (wpAny_attempt ?_)))
  refine getby_exc (t := t + 1) x G X I hf ?_
  refine wpAny_call ?_
  refine class_get (s := ⟨h, g, d, t + 1, os⟩) (ox := ox) (od := od) X I mo ⟨rfl, ?_⟩
  exact wpAny_pure k
/-- isinstance's ways with an exception -/
theorem kit_exc (x : XCls K C cd) (G : XGet K C) (hc : findIn K (.ref C) "__class__" = some (some (.builtin "object.__class__"))) : KitX K (.ref ea) (.ref C) (fun h => ∃ ox od, InstAt h ea ox C od) where
  ty := fun _ _ _ ⟨_, _, I⟩ => I.type
  it := fun _ _ X _ => x.isTy X
  ne := fun h tp dd its n sl X htp => by
    obtain ⟨d2, k0, k1, k2, k3, k5, e⟩ := x.ob
    refine Bool.eq_false_iff.mpr fun q => ?_
    have e2 : C = tp := Value.ref.inj (beq_iff_eq.mp q)
    subst e2
    have z := congrArg (fun o : Option Obj => o.map (·.data)) ((X _ _ e).symm.trans htp)
    simp [clsRec] at z
  ca := fun {_ _ _ _ _ s} X ⟨_, _, I⟩ k => by
    obtain ⟨hh, gg, dd, tt, oo⟩ := s
    exact class_exc x G X I hc k
end
end LX
end
section
set_option maxRecDepth 100000
set_option maxHeartbeats 4000000
namespace LX
open PySem PySem.W
section
variable {prog : Program} {w : World} {A : Around} {E : Value → Shared → Prop} {h : Heap} {g : Array GenState} {d : Drawn} {t : Nat} {os : OsState} {K : Frag} {C CH ea : Addr} {cd : ClassData} {fs : Array Value} {sl : Array (Option Value)} {name : Str} {v : Value}
/-- e.name = v, the first attribute of an exception -/
theorem set_exc {Q : Unit → Shared → Prop} (x : XCls K C cd) (hm : cd.mro = [.ref C, .ref CH, .type "ValueError", .type "Exception", .type "BaseException", .type "object"]) (hh : cd.hasDict = true) (X : K.In h) (he : h.get? ea = some (excRec (.ref C) none fs sl))
    (hs : findIn K (.ref C) "__setattr__" = some (some (.builtin "object.__setattr__"))) (hn : findIn K (.ref C) name = some none)
    (k : ∀ m, m.Ns1 h.objs.size (fun y => if y = name then some v else none) → m.get? ea = some (excRec (.ref C) (some h.objs.size) fs sl) → (∀ b o, b ≠ ea → h.get? b = some o → m.get? b = some o) → Q () ⟨m, g, d, t + 2, os⟩) :
    wpAny (model prog w) A (setAttr (.ref ea) name v) Q E ⟨h, g, d, t, os⟩ := by
  have SF := PySem.F.store_object
  have I := inst_none he
  refine set_plain (s := ⟨h, g, d, t, os⟩) X I hs ?_
  have ty := I.type (M := model prog w)
  have sb := x.sub (M := model prog w) X (.type "object")
  rw [x.obj] at sb
  have mr := x.mro (M := model prog w) X
  rw [hm] at mr
  have lk1 := looks_findIn (M := model prog w) X hn
  have c1 : Looks (model prog w) h (classOwn (.type "ValueError") "__setattr__") none := Looks.of_pure (by kernel_rfl)
  have c2 : Looks (model prog w) h (classOwn (.type "Exception") "__setattr__") none := Looks.of_pure (by kernel_rfl)
  have c3 : Looks (model prog w) h (classOwn (.type "BaseException") "__setattr__") none := Looks.of_pure (by kernel_rfl)
  have c4 : Looks (model prog w) h (classOwn (.type "object") "__setattr__") (some (.builtin "object.__setattr__")) := Looks.of_pure (by kernel_rfl)
  refine codeAny_call_builtin SF.slot.plain SF.entry (@check_slot (model prog w) _ _ ⟨h, g, d, t + 1, os⟩ "object.__setattr__" "object" "__setattr__" (.ref ea) [.str name t, v] [] _ SF.kind SF.split (ty.andThen sb) (SF.args (.ref ea) (.str name t) v) ?_)
  unfold Builtin.«object.__setattr__» Builtin.ObjectAttr.refuseIfOverridden
  repeat lk
  obtain ⟨dd, k0, k1, k2, k3, k5, ho⟩ := x.ob
  refine nd_load (X _ _ ho) (wpAny_pure (wpAny_pure ?_))
  rw [hh, if_neg (by decide)]
  show wpAny _ _ (do let d ← alloc emptyDict; update ea (fun o => { o with dict := some d }); pure (some d)) _ _ _
  refine wpAny_bind (wpAny_alloc (wpAny_bind ?_))
  have e1 := Heap.get?_push_of_some (h := h) emptyDict he
  refine wpAny_update (s := ⟨h.push emptyDict, g, d, t + 1, os⟩) e1 (wpAny_pure ?_)
  have e2 : ((h.push emptyDict).update ea fun o => { o with dict := some h.objs.size }).get? ea = some (excRec (.ref C) (some h.objs.size) fs sl) := Heap.get?_update_self _ e1 rfl
  have ne : h.objs.size ≠ ea := Nat.ne_of_gt (Heap.lt_size he)
  have n0 : ((h.push emptyDict).update ea fun o => { o with dict := some h.objs.size }).Ns h.objs.size (fun _ => none) :=
    ⟨emptyDict, #[], _, (Heap.get?_update_other _ _ (Ne.symm ne)).trans (Heap.get?_push_size h rfl), rfl, (fun e he => absurd he (by simp)), fun _ => rfl⟩
  have n1 := Heap.Ns1.of_empty n0
  show wpAny _ _ (Builtin.ObjectAttr.storeInDict h.objs.size (.str name t) name v) _ _ _
  unfold Builtin.ObjectAttr.storeInDict
  refine wpAny_bind (m := Builtin.ObjectAttr.newKeyGuard _ _ _) (wpAny_pure ?_)
  refine wpAny_bind (wpAny_nsSet1 (s := ⟨(h.push emptyDict).update ea fun o => { o with dict := some h.objs.size }, g, d, t + 1, os⟩) n1 fun m hn2 hs2 => ?_)
  obtain ⟨oD, esD, epD, hoD, hdD, hcD⟩ := hn2.count (PySem.Within.cons name v (ns := []) (fun y hy => absurd rfl hy))
  refine wpAny_bind (wpAny_lookBehind hoD (by rw [hdD]; exact pastItsLine_dict (Nat.le_trans hcD (by show 1 ≤ sizeLine + 1; decide))) ?_)
  refine wpAny_pure (k m hn2 ((hs2.2 _ (Ne.symm ne)).trans e2) fun b o hb q => ?_)
  have nb : b ≠ h.objs.size := Nat.ne_of_lt (Heap.lt_size q)
  rw [hs2.2 b nb, Heap.get?_update_other _ _ (Ne.symm hb)]
  exact Heap.get?_push_of_some _ q

/-- e.name, an attribute of the exception's own -/
theorem get_exc {dx : Addr} {mA : Str → Option Value} {expr : Bool} {Q : Value → Shared → Prop} (x : XCls K C cd) (G : XGet K C) (hh : cd.hasDict = true) (X : K.In h) (he : h.get? ea = some (excRec (.ref C) (some dx) fs sl)) (hd : h.Ns1 dx mA)
    (hn : findIn K (.ref C) name = some none) (hv : mA name = some v) (hv' : handedIn v = true) (k : Q v ⟨h, g, d, t + 1, os⟩) : wpAny (model prog w) A (getAttr (.ref ea) name expr) Q E ⟨h, g, d, t, os⟩ := by
  obtain ⟨o, es, ep, ho, hdd, hk, _, hmm⟩ := id hd
  have lo : lookIn name o = some (some v) := by
    have e := hmm name
    rw [hv] at e
    unfold nsFind findBy at e
    rw [← Array.find?_toList] at e
    unfold lookIn
    rw [hdd]
    dsimp only
    split
    · rename_i y q
      rw [q] at e
      exact congrArg some e
    · rename_i q
      rw [q] at e
      cases e
  have I := inst_some he ho
  have hf : findObj K C (some o) name = some (.value v) := by
    unfold findObj ownOf
    rw [x.cls, Option.bind_some, hn, Option.bind_some]
    dsimp only
    rw [Option.bind_some, Option.bind_some, if_pos hh, lo]
    rfl
  unfold getAttr
  refine wpAny_bind (wpAny_mkText ?_)
  exact getby_exc (t := t + 1) x G X I hf ⟨hv', k⟩
end
end LX
end
section
set_option maxRecDepth 100000
set_option maxHeartbeats 4000000
namespace LX
open PySem

/-- of a heap all is kept but the records at xs; the frames at fr keep all but their slots -/
structure Kept (fr xs : List Addr) (h k : Heap) : Prop where
  plain : ∀ b o, h.get? b = some o → b ∉ fr → b ∉ xs → k.get? b = some o
  frame : ∀ b o, h.get? b = some o → b ∈ fr → b ∉ xs → ∃ sl, k.get? b = some { o with slots := sl }
theorem Kept.trans {fr xs ys : List Addr} {h k m : Heap} (x : Kept fr xs h k) (y : Kept fr ys k m) : Kept fr (xs ++ ys) h m where
  plain := fun b o e hb hx => y.plain b o (x.plain b o e hb fun z => hx (List.mem_append_left _ z)) hb fun z => hx (List.mem_append_right _ z)
  frame := fun b o e hb hx => by
    obtain ⟨sl, e1⟩ := x.frame b o e hb fun z => hx (List.mem_append_left _ z)
    obtain ⟨sm, e2⟩ := y.frame b _ e1 hb fun z => hx (List.mem_append_right _ z)
    exact ⟨sm, e2⟩
theorem Kept.weak {fr xs ys : List Addr} {h k : Heap} (x : Kept fr xs h k) (s : ∀ b o, h.get? b = some o → b ∈ xs → b ∈ ys) : Kept fr ys h k :=
  ⟨fun b o e hb hy => x.plain b o e hb fun z => hy (s b o e z), fun b o e hb hy => x.frame b o e hb fun z => hy (s b o e z)⟩

abbrev framesOf (l : List Env) : List Addr := l.filterMap (·.frame)

section
variable {M : Model} {A : Around} {E : Value → Shared → Prop} {s : Shared} {base : Heap} {env : Env} {outer : List Env} {L e : Addr} {c : Value} {od : Option Addr} {fs : Array Value} {sl : Array (Option Value)}

/-- a frame is no record of fields -/
theorem frame_ne {l : List Env} (F : s.heap.FunFrames base l) (he : s.heap.get? e = some (excRec c od fs sl)) : e ∉ framesOf l := fun z => by
  obtain ⟨_, o, ho, hn⟩ := F.mem z
  rw [he] at ho
  cases ho
  exact hn fs rfl

theorem upd_rec {h : Heap} {a : Addr} {i : Nat} {x : Value} (ha : h.get? a = some (excRec c od fs sl)) :
    (h.update a (Obj.mapFields (·.setIfInBounds i x))).get? a = some (excRec c od (fs.setIfInBounds i x) sl) := Heap.get?_update_self _ ha rfl

/-- the entry of a traceback is laid and hung at the exception -/
theorem entry_laid {head : Value} {had : Bool} {Q : Unit → Shared → Prop} (hA : A.frames = some (env :: outer)) (F : s.heap.FunFrames base (env :: outer)) (hL : env.frame = some L)
    (he : s.heap.get? e = some (excRec c od fs sl)) (h1 : 1 < fs.size)
    (k : ∀ m T oc ts, s.heap.objs.size ≤ T → Kept (framesOf (env :: outer)) [e] s.heap m → m.get? e = some (excRec c od (fs.setIfInBounds 1 (.ref T)) sl) → m.get? T = some (excRec oc none ts #[]) → ts[3]? = some (rawInt L) → Q () { s with heap := m }) :
    wpAny M A (do let a ← frameOf env; let pl ← entryPlaceOf L had; let b ← EntryCells.newEntry head a .none (rawInt L) .none pl; setField (.ref e) 1 b) Q E s := by
  have ne := frame_ne F he
  refine wpAny_bind (wpAny_frameOf_fun hA F hL fun g hg => ?_)
  obtain ⟨g0, g1, g2⟩ := hg
  refine wpAny_bind (wpAny_entryPlaceOf fun pl hp => ?_)
  unfold EntryCells.newEntry newFields
  refine wpAny_bind (wpAny_newObj_type ?_ (hp.sizeOk5 _ _ _ _ _))
  have e1 : g.get? e = some (excRec c od fs sl) := (g1 e ne).trans he
  have e2 := Heap.get?_push_of_some (h := g) { cls := .type "traceback", dict := none, data := .fields ([head, .ref L, .none, rawInt L, .none] ++ (if pl.isEmpty then List.replicate 6 Value.none else pl)).toArray } e1
  refine wpAny_setField e2 rfl h1 ?_
  have Te : g.objs.size ≠ e := Nat.ne_of_gt (Heap.lt_size e1)
  refine k _ g.objs.size (.type "traceback") ([head, .ref L, .none, rawInt L, .none] ++ (if pl.isEmpty then List.replicate 6 Value.none else pl)).toArray (Nat.le_of_eq g0.symm) ⟨fun b o q hb hx => ?_, fun b o q hb hx => ?_⟩ (upd_rec e2) ?_ ?_
  · have be : b ≠ e := fun z => hx (by rw [z]; exact List.mem_singleton.mpr rfl)
    rw [Heap.get?_update_other _ _ (Ne.symm be)]
    exact Heap.get?_push_of_some _ ((g1 b hb).trans q)
  · have be : b ≠ e := fun z => hx (by rw [z]; exact List.mem_singleton.mpr rfl)
    obtain ⟨sm, q2⟩ := g2 b o q
    refine ⟨sm, ?_⟩
    rw [Heap.get?_update_other _ _ (Ne.symm be)]
    exact Heap.get?_push_of_some _ q2
  · rw [Heap.get?_update_other _ _ (Ne.symm Te)]
    exact Heap.get?_push_size g rfl
  · first | (simp; done) | (rcases hp with rfl | ⟨_, _, _, _, _, _, _, rfl⟩ <;> simp)

/-- how an exception's traceback lies: none, or an entry that no frame holds -/
inductive Trail (h : Heap) (e : Addr) (fs : Array Value) : Option Addr → Prop where
  | none (h1 : fs[1]? = some .none) : Trail h e fs none
  | some {T : Addr} {oc : Value} {ts : Array Value} {d : Option Addr} {sl : Array (Option Value)} (h1 : fs[1]? = some (.ref T)) (ne : T ≠ e) (hT : h.get? T = some (excRec oc d ts sl)) (h3 : ts[3]? = some .none) : Trail h e fs (some T)
theorem Trail.size {h : Heap} {fs : Array Value} {T : Option Addr} (t : Trail h e fs T) : 1 < fs.size := by
  cases t with
  | none h1 => exact (Array.getElem?_eq_some_iff.mp h1).1
  | some h1 => exact (Array.getElem?_eq_some_iff.mp h1).1

/-- noteFrame at a frame that the exception has not been noted at -/
theorem note_on {T0 : Option Addr} {Q : Unit → Shared → Prop} (hA : A.frames = some (env :: outer)) (F : s.heap.FunFrames base (env :: outer)) (hL : env.frame = some L) (he : s.heap.get? e = some (excRec c od fs sl)) (t : Trail s.heap e fs T0)
    (k : ∀ m T oc ts, s.heap.objs.size ≤ T → Kept (framesOf (env :: outer)) (e :: T0.toList) s.heap m → m.get? e = some (excRec c od (fs.setIfInBounds 1 (.ref T)) sl) → m.get? T = some (excRec oc none ts #[]) → ts[3]? = some (rawInt L) → Q () { s with heap := m }) :
    wpAny M A (noteFrame (.ref e) env) Q E s := by
  unfold noteFrame
  simp only [hL]
  have h1s := t.size
  cases t with
  | none h1 =>
    refine wpAny_bind (wpAny_field he rfl h1 ?_)
    rw [if_neg (by decide)]
    exact entry_laid hA F hL he h1s k
  | @some T oc ts d sm h1 ne hT h3 =>
    refine wpAny_bind (wpAny_field he rfl h1 ?_)
    rw [if_pos (show (Value.ref T != Value.none) = true by simp)]
    refine wpAny_bind (wpAny_field hT rfl h3 ?_)
    rw [if_neg (show ¬ ((Value.none == rawInt L) = true) by simp [rawInt])]
    have h3s : 3 < ts.size := (Array.getElem?_eq_some_iff.mp h3).1
    refine wpAny_bind (wpAny_setField hT rfl h3s ?_)
    have oth : ∀ b, b ≠ T → (s.heap.update T (Obj.mapFields (·.setIfInBounds 3 Value.none))).get? b = s.heap.get? b := fun b hb => Heap.get?_update_other _ _ (Ne.symm hb)
    have nT := frame_ne F hT
    have F1 : (s.heap.update T (Obj.mapFields (·.setIfInBounds 3 Value.none))).FunFrames base (env :: outer) := F.of_keeps fun b o hb hn => ⟨o, (oth b fun z => by rw [z, hT] at hb; cases hb; exact hn ts rfl).trans hb, rfl⟩
    refine entry_laid (s := { s with heap := s.heap.update T (Obj.mapFields (·.setIfInBounds 3 Value.none)) }) hA F1 hL ((oth e (Ne.symm ne)).trans he) h1s fun m T' oc' ts' z1 z2 z3 z4 z5 => k m T' oc' ts' ?_ ?_ z3 z4 z5
    · have zz : (s.heap.update T (Obj.mapFields (·.setIfInBounds 3 Value.none))).objs.size = s.heap.objs.size := (Heap.SameBut.update (h := s.heap) (a := T) (f := Obj.mapFields (·.setIfInBounds 3 Value.none))).1
      rw [← zz]; exact z1
    · have kk : Kept (framesOf (env :: outer)) [T] s.heap (s.heap.update T (Obj.mapFields (·.setIfInBounds 3 Value.none))) :=
        ⟨fun b o q _ hx => (oth b fun z => hx (by rw [z]; exact List.mem_singleton.mpr rfl)).trans q, fun b o q _ hx => ⟨o.slots, (oth b fun z => hx (by rw [z]; exact List.mem_singleton.mpr rfl)).trans q⟩⟩
      refine (kk.trans z2).weak fun b o _ q => ?_
      simp only [List.mem_append, List.mem_singleton] at q
      simp only [Option.toList_some, List.mem_cons, List.not_mem_nil, or_false]
      exact q.symm

/-- setFlight none at an exception whose entry stands -/
theorem flight_off {T : Addr} {oc : Value} {ts : Array Value} {d : Option Addr} {sm : Array (Option Value)} {Q : Unit → Shared → Prop} (he : s.heap.get? e = some (excRec c od fs sl)) (h1 : fs[1]? = some (.ref T)) (ne : T ≠ e)
    (hT : s.heap.get? T = some (excRec oc d ts sm)) (h3 : 3 < ts.size)
    (k : ∀ m, (∀ b o, b ≠ T → s.heap.get? b = some o → m.get? b = some o) → Trail m e fs (some T) → m.get? e = some (excRec c od fs sl) → Q () { s with heap := m }) : wpAny M A (setFlight (.ref e) none) Q E s := by
  unfold setFlight
  refine wpAny_bind (wpAny_field he rfl h1 ?_)
  rw [if_pos (show (Value.ref T != Value.none) = true by simp)]
  have oth : ∀ b o, b ≠ T → s.heap.get? b = some o → (s.heap.update T (Obj.mapFields (·.setIfInBounds 3 Value.none))).get? b = some o := fun b o hb q => (Heap.get?_update_other _ _ (Ne.symm hb)).trans q
  exact wpAny_setField hT rfl h3 (k _ oth (.some h1 ne (upd_rec hT) (by simp [h3])) (oth e _ (Ne.symm ne) he))

/-- an exception leaves a frame -/
theorem leaves {T0 : Option Addr} {Q : Unit → Shared → Prop} (hA : A.frames = some (env :: outer)) (F : s.heap.FunFrames base (env :: outer)) (hL : env.frame = some L) (he : s.heap.get? e = some (excRec c od fs sl)) (t : Trail s.heap e fs T0)
    (k : ∀ m T fs', s.heap.objs.size ≤ T → Kept (framesOf (env :: outer)) (e :: T0.toList) s.heap m → m.get? e = some (excRec c od fs' sl) → fs'[0]? = fs[0]? → Trail m e fs' (some T) → Q () { s with heap := m }) :
    wpAny M A (leaving env (.ref e)) Q E s := by
  unfold leaving
  refine wpAny_bind (note_on hA F hL he t fun m T oc ts z1 z2 z3 z4 z5 => ?_)
  have Te : T ≠ e := Nat.ne_of_gt (Nat.lt_of_lt_of_le (Heap.lt_size he) z1)
  have f1 : (fs.setIfInBounds 1 (Value.ref T))[1]? = some (.ref T) := by
    have := t.size
    simp [this]
  refine flight_off (s := { s with heap := m }) z3 f1 Te z4 (Array.getElem?_eq_some_iff.mp z5).1 fun m' q1 q2 q3 => k m' T _ z1 ⟨fun b o q hb hx => ?_, fun b o q hb hx => ?_⟩ q3 (by simp) q2
  · exact q1 b o (Nat.ne_of_lt (Nat.lt_of_lt_of_le (Heap.lt_size q) z1)) (z2.plain b o q hb hx)
  · obtain ⟨sm, r⟩ := z2.frame b o q hb hx
    exact ⟨sm, q1 b _ (Nat.ne_of_lt (Nat.lt_of_lt_of_le (Heap.lt_size q) z1)) r⟩
end
end LX
end
section
set_option Elab.async false
set_option linter.all false
set_option maxRecDepth 100000
set_option maxHeartbeats 4000000
namespace L2
open PySem PySem.Spec PyProof.Rows LX

/-! ### an exception as a tracked thing -/
/-- class C, the dict of its attributes at od; fresh: not raised yet -/
def ExP (fresh : Bool) (C e : Addr) (od : Option Addr) (h : Heap) : Prop := ∃ fs sl t0, h.get? e = some (excRec (.ref C) od fs sl) ∧ fs[0]? = some (.ref t0) ∧ (fresh = true → fs[1]? = some .none)
def exo (fresh : Bool) (C e : Addr) (od : Option Addr) : HO := .ext (ExP fresh C e od)
section
variable {P : Program} {w : World} {H : Hp} {h : Heap} {b : Bool} {C e : Addr} {od : Option Addr}
theorem exo_ok (x : ExP b C e od h) : ObjOk P w H h e (exo b C e od) := by
  refine ⟨x, ?_, fun h1 h2 p k => ?_⟩
  · obtain ⟨fs, sl, t0, z, _⟩ := x
    exact ⟨_, z⟩
  · obtain ⟨fs, sl, t0, z, r⟩ := p
    exact ⟨fs, sl, t0, k _ z, r⟩
theorem exo_get (ok : HOk P w H h) (z : H e = some (exo b C e od)) : ExP b C e od h := (show ObjOk P w H h e (exo b C e od) from ok e _ z).1
end
/-- no longer tracked -/
def del (H : Hp) (a : Addr) : Hp := fun b => if b = a then none else H b
theorem del_same {H : Hp} {a : Addr} : del H a a = none := by unfold del; rw [if_pos rfl]
theorem del_ne {H : Hp} {a b : Addr} (h : b ≠ a) : del H a b = H b := by unfold del; rw [if_neg h]
theorem del_some {H : Hp} {a b : Addr} {o : HO} (h : del H a b = some o) : H b = some o ∧ b ≠ a := by
  unfold del at h
  by_cases q : b = a
  · rw [if_pos q] at h; cases h
  · rw [if_neg q] at h; exact ⟨h, q⟩

/-! ### heaps that keep what is tracked -/
section
variable {P : Program} {w : World} {H H' : Hp} {h h' : Heap} {a : Addr}
theorem HOk.keeps (ok : HOk P w H h) (k : ∀ b u o, H b = some u → h.get? b = some o → h'.get? b = some o) : HOk P w H h' := fun b u q =>
  (ok b u q).stay (fun c v hc r => by
    rcases hc with rfl | hc
    · exact k c u v q r
    · exact k c _ v hc r) (fun _ z => z) fun _ _ z => z
theorem HOk.del (ok : HOk P w H h) (ha : ∀ y, H a ≠ some (.own y)) (hb : ∀ xs, H a ≠ some (.tup xs)) : HOk P w (del H a) h := fun b u q => by
  obtain ⟨q1, q2⟩ := del_some q
  refine (ok b u q1).stay (fun _ _ _ r => r) (fun c z => ?_) fun c xs z => ?_
  · rw [del_ne fun e => ha b (by rw [← e]; exact z)]; exact z
  · rw [del_ne fun e => hb xs (by rw [← e]; exact z)]; exact z
theorem HOk.add (ok : HOk P w H h) {o : HO} (ha : H a = none) (new : ObjOk P w (upd H a o) h a o) : HOk P w (upd H a o) h := fun b u q => by
  by_cases e : b = a
  · subst e
    rw [upd_same] at q
    cases q
    exact new
  · rw [upd_ne e] at q
    refine (ok b u q).stay (fun _ _ _ r => r) (fun c z => ?_) fun c xs z => ?_
    · rw [upd_ne fun e => by rw [e, ha] at z; cases z]; exact z
    · rw [upd_ne fun e => by rw [e, ha] at z; cases z]; exact z
end
theorem funFrames_kept {h k base : Heap} : ∀ {l : List Env}, h.FunFrames base l → (∀ b ∈ frs l, ∀ o, h.get? b = some o → ∃ sl, k.get? b = some { o with slots := sl }) → k.FunFrames base l
  | [], _, _ => True.intro
  | env :: r, ⟨h1, ⟨L, o, e1, e2, e3, e4⟩, h2⟩, q => by
    have hm : L ∈ frs (env :: r) := List.mem_filterMap.mpr ⟨env, List.mem_cons_self, e1⟩
    obtain ⟨sl, z⟩ := q L hm o e3
    refine ⟨h1, ⟨L, _, e1, e2, z, e4⟩, funFrames_kept h2 fun b hb o' z' => q b ?_ o' z'⟩
    obtain ⟨x, hx, hy⟩ := List.mem_filterMap.mp hb
    exact List.mem_filterMap.mpr ⟨x, List.mem_cons_of_mem _ hx, hy⟩

/-! ### how an exception lies behind a call -/
structure Lies (P : Program) (w : World) (outer : List Env) (H H' : Hp) (s : Shared) (ea C T : Addr) (od : Option Addr) (fs : Array Value) (sl : Array (Option Value)) (s' : Shared) : Prop where
  os : s'.os = s.os
  bare : AllBare s'.gens
  un : Un (frs outer) [] H H' s.heap s'.heap
  hok : HOk P w H' s'.heap
  newE : s.heap.get? ea = none
  newT : s.heap.get? T = none
  freeE : H' ea = none
  freeT : H' T = none
  at_ : s'.heap.get? ea = some (excRec (.ref C) od fs sl)
  args : ∃ t0, fs[0]? = some (.ref t0)
  trail : Trail s'.heap ea fs (some T)
def CXE (P : Program) (w : World) : CXT := fun outer H s E e s' => ∃ ea C T od fs sl H', e = .ref ea ∧ Lies P w outer H H' s ea C T od fs sl s' ∧ E (.ref C) od H'

section
variable {X : Cx} {pins : List (Addr × Obj)} {σ : St} {H H' : Hp} {s s' : Shared} {ea C T : Addr} {od : Option Addr} {fs : Array Value} {sl : Array (Option Value)}
/-- the frames behind it -/
theorem Lies.frames (I : Inv X pins σ H s) (l : Lies X.prog X.w X.stack H H' s ea C T od fs sl s') : s'.heap.FunFrames X.base X.stack :=
  funFrames_kept I.stack fun b hb o z => l.un.any z (I.stkFree b hb) (by simp)
/-- what is kept of the state ahead of the call when the exception is noted in this frame -/
theorem Lies.on {m : Heap} {t' : Nat} (I : Inv X pins σ H s) (l : Lies X.prog X.w X.stack H H' s ea C T od fs sl s') (k : Kept (framesOf X.stack) [ea, T] s'.heap m) :
    Un (frs X.stack) [] H H' s.heap m ∧ HOk X.prog X.w H' m := by
  have fr : ∀ b, b ∈ frs X.stack → H' b = none := fun b hb => by
    obtain ⟨_, o, z, _⟩ := I.stack.mem hb
    exact l.un.free b o z (I.stkFree b hb) (by simp)
  have ne : ∀ b o, s.heap.get? b = some o → b ∉ [ea, T] := fun b o z q => by
    rcases List.mem_cons.mp q with e | q
    · rw [e, l.newE] at z; cases z
    · rw [List.mem_singleton.mp q, l.newT] at z; cases z
  refine ⟨⟨fun b o z n hb hx => ?_, fun b o z n hb hx => ?_, l.un.free, fun b o z hx => ?_, l.un.tups, l.un.frzs, l.un.tbls⟩, ?_⟩
  · exact k.plain b o (l.un.keep b o z n hb hx) hb (ne b o z)
  · obtain ⟨s1, z1⟩ := l.un.slot b o z n hb hx
    obtain ⟨s2, z2⟩ := k.frame b _ z1 hb (ne b o z)
    exact ⟨s2, z2⟩
  · obtain ⟨o1, z1⟩ := l.un.there b o z hx
    by_cases hb : b ∈ framesOf X.stack
    · obtain ⟨s2, z2⟩ := k.frame b _ z1 hb (ne b o z)
      exact ⟨_, z2⟩
    · exact ⟨_, k.plain b _ z1 hb (ne b o z)⟩
  · refine l.hok.keeps fun b u o z q => k.plain b o q (fun hb => ?_) fun hx => ?_
    · rw [fr b hb] at z; cases z
    · rcases List.mem_cons.mp hx with e | hx
      · rw [e, l.freeE] at z; cases z
      · rw [List.mem_singleton.mp hx, l.freeT] at z; cases z
end
end L2
end
section
set_option Elab.async false
set_option linter.all false
set_option maxRecDepth 100000
set_option maxHeartbeats 4000000
namespace L2
open PySem PySem.Spec PyProof.Rows LX

/-! ### an exception passes a def's frame -/
section
variable {P : Program} {w : World} {K : PySem.W.Frag} {mg : Str → Option Value} {base : Heap} {N : List Str} {qual : Str} {scope : Scope} {f : Addr} {cdv : Value} {A : Around} {outer : List Env} {s₀ : Shared} {H₀ : Hp} {E₀ : XK}
abbrev cxE (P : Program) (w : World) (K : PySem.W.Frag) (mg : Str → Option Value) (base : Heap) (N : List Str) (qual : Str) (scope : Scope) (f : Addr) (cdv : Value) (A : Around) (outer : List Env) (s₀ : Shared) (H₀ : Hp) (E₀ : XK) : Cx :=
  cxOf (CXE P w) P w K mg base N qual scope f cdv A outer s₀ H₀ E₀

theorem leave_lies {pins : List (Addr × Obj)} {σ : St} {H H' : Hp} {s s' : Shared} {ea C T : Addr} {od : Option Addr} {fs : Array Value} {sl : Array (Option Value)} (I : Inv (cxE P w K mg base N qual scope f cdv A outer s₀ H₀ E₀) pins σ H s)
    (l : Lies P w (cxE P w K mg base N qual scope f cdv A outer s₀ H₀ E₀).stack H H' s ea C T od fs sl s') (hE : E₀ (.ref C) od H') : (cxE P w K mg base N qual scope f cdv A outer s₀ H₀ E₀).xe (.ref ea) s' := by
  refine leaves I.ok.frames (Lies.frames I l) rfl l.at_ l.trail fun m T' fs' z1 z2 z3 z4 z5 => ?_
  obtain ⟨un, hok⟩ := l.on (t' := s'.toks) I z2
  have J : Inv (cxE P w K mg base N qual scope f cdv A outer s₀ H₀ E₀) pins σ H' { s' with heap := m } := I.call' l.os un hok l.bare (fun b z => absurd z (by simp))
  have old : ∀ b o, s₀.heap.get? b = some o → ∃ o', s.heap.get? b = some o' := fun b o z => I.base.there b o z (List.not_mem_nil)
  have e0 : s₀.heap.get? ea = none := by
    cases q : s₀.heap.get? ea with
    | none => rfl
    | some o =>
      obtain ⟨o', z⟩ := old ea o q
      rw [l.newE] at z; cases z
  have t0 : s₀.heap.get? T' = none := by
    cases q : s₀.heap.get? T' with
    | none => rfl
    | some o =>
      obtain ⟨o1, y1⟩ := old T' o q
      obtain ⟨o2, y2⟩ := l.un.there T' o1 y1 (by simp)
      exact absurd (Heap.lt_size y2) (Nat.not_lt.mpr z1)
  obtain ⟨a0, ha⟩ := l.args
  exact ⟨ea, C, T', od, fs', sl, H', rfl, ⟨J.os, J.bare, J.base, J.hok, e0, t0, l.freeE, l.hok.fresh z1, z3, ⟨a0, by rw [z4]; exact ha⟩, z5⟩, hE⟩
theorem passE {E : XK} (hE : ∀ c od H', E c od H' → E₀ c od H') : Passes (CXE P w) (cxE P w K mg base N qual scope f cdv A outer s₀ H₀ E₀) E := fun pins σ H s e s' I h => by
  obtain ⟨ea, C, T, od, fs, sl, H', rfl, l, q⟩ := h
  exact leave_lies I l (hE _ _ _ q)

end
end L2
end
section
set_option Elab.async false
set_option linter.all false
set_option maxRecDepth 100000
set_option maxHeartbeats 4000000
namespace L2
open PySem PySem.Spec PyProof.Rows LX

/-! ### a def, with exceptions -/
theorem Fun.okE {P : Program} {w : World} {K : PySem.W.Frag} {mg : Str → Option Value} {base : Heap} {x qual : Str} {st : Stmt} {f : Addr} {fd : FuncData} {N ps : List Str} {k : Nat} {sp : Sp} (F : Fun K x qual st f fd) (S : FnScope N ps (defScope st)) (len : ∀ vs H Q E, sp vs H Q E → vs.length = ps.length)
    (hbody : ∀ (cdv : Value) (A : Around) (outer : List Env) (s : Shared) (H : Hp) (vs : List V) (Q : VK) (E : XK), Room k (A.deeper (envOfC qual (defScope st) s.heap.objs.size f cdv)) → sp vs H Q E →
      ∃ t, PSs (cxE P w K mg base N qual (defScope st) f cdv A outer s H E) (defBody st) t ∧ t { nx := fun _ H' => Q .non H', rt := Q } (start N vs) H) : FnOk P w K mg base (CXE P w) (k + 1) f fd ps sp := by
  obtain ⟨oc, od, kV, doc, pm, an, cdv, ct, osl, rfl, lk, hcd⟩ := F.ex
  exact fn_of lk hcd S len fun A outer s H vs Q E hr hsp => hbody cdv A outer s H vs Q E hr hsp

/-! ### raise -/
def RaisesTo (X : Cx) (E : XK) : Prop := ∀ (pins : List (Addr × Obj)) (σ : St) (H : Hp) (s : Shared) (ea C : Addr) (od : Option Addr), Inv X pins σ H s → H ea = some (exo true C ea od) → X.H₀ ea = none → E (.ref C) od (del H ea) → X.xe (.ref ea) s
def tRaise (H₀ : Hp) (K : PySem.W.Frag) (E : XK) (te : TE) : TS := fun _ σ H => te σ H fun v H1 => ∃ ea C od, v = .ref ea ∧ H1 ea = some (exo true C ea od) ∧ (∃ cd, XCls K C cd) ∧ H₀ ea = none ∧ E (.ref C) od (del H1 ea)
section
variable {X : Cx}
theorem ps_raise {e : Expr} {te : TE} {pos : Pos} {E : XK} (hc : X.calm = true) (hx : RaisesTo X E) (he : PE X e te) : PS X (.Raise (some e) none pos) (tRaise X.H₀ X.K E te) := by
  intro pins s σ H D I h
  refine raise_own (K := X.K) (I.ok.hd hc) (thn (he pins s σ H _ I h) fun u s1 ⟨v, H1, I1, r, ea, C, od, ev, h1, ⟨cd, xc⟩, h0, q⟩ => ?_)
  subst ev
  obtain rfl : u = Value.ref ea := r
  obtain ⟨fs, sl, a0, z, ha, hf⟩ := exo_get I1.hok h1
  exact ⟨ea, C, cd, od, fs, sl, rfl, z, hf rfl, xc, I1.kIn, hx pins σ H1 s1 ea C od I1 h1 h0 q⟩

/-! ### calls whose exceptions this body wants, by the names' values at the call -/
def PassesX (CX : CXT) (X : Cx) (EK : St → XK) : Prop := ∀ (pins : List (Addr × Obj)) (σ : St) (H : Hp) (s : Shared) (e : Value) (s' : Shared), Inv X pins σ H s → CX X.stack H s (EK σ) e s' → X.xe e s'
theorem Passes.x {CX : CXT} {E : XK} (h : Passes CX X E) : PassesX CX X (fun _ => E) := fun pins σ H s e s' I q => h pins σ H s e s' I q

def xCall (sp : Sp) (dvs : List V) (EK : St → XK) (t : TA) : TE := fun σ H Q => t σ H fun vs H1 => sp (vs ++ dvs) H1 Q (EK σ)
/-- C(..), C a class of errors -/
def xErr (C : Addr) (sp : Sp) (EK : St → XK) (t : TA) : TE := fun σ H Q => t σ H fun vs H1 => ∀ ea, H1 ea = none → sp (.ref ea :: vs) (upd H1 ea (exo true C ea none)) (fun v H2 => v = .non ∧ Q (.ref ea) H2) (EK σ)

variable {CX : CXT} {k : Nat} {f C : Addr} {fd : FuncData} {ps : List Str} {sp : Sp} {dvs : List V} {ds : List Value} {EK : St → XK} {x m : Str} {p pos apos : Pos} {e o : Expr} {es : List Expr} {ta : TE} {t : TA}

theorem xrun {pins : List (Addr × Obj)} {σ : St} {H : Hp} {s : Shared} {Q : VK} {us : List Value} {vs : List V} (F : FnOk X.prog X.w X.K X.mg X.base CX k f fd ps sp) (hr : Room k X.A) (hb : Binds X.K fd ps ds) (hd : Vals dvs ds) (hx : PassesX CX X EK)
    (I : Inv X pins σ H s) (r : Vals vs us) (h : sp (vs ++ dvs) H Q (EK σ)) : wpAny (model X.prog X.w) X.A (call (.ref f) us) (EP X pins σ Q) X.xe s := by
  have r2 : Vals (vs ++ dvs) (us ++ ds) := r.append hd
  have hl : (us ++ ds).length = ps.length := by rw [← r2.length]; exact F.len _ _ _ _ h
  refine wpAny_call (codeAny_mono (F.run X.A X.stack s H ⟨us, []⟩ (us ++ ds) (vs ++ dvs) Q (EK σ) hr I.env0 (hb s us I.kIn hl) r2 h) fun r s' hq => ?_)
  cases r with
  | error e => exact hx pins σ H s e s' I hq
  | ok fl =>
    cases fl with
    | ret u => exact I.after hq
    | _ => exact False.elim hq
theorem xe_call (F : FnOk X.prog X.w X.K X.mg X.base CX k f fd ps sp) (hr : Room k X.A) (hg : Gl X x) (hm : X.mg x = some (.ref f)) (hk : PySem.W.keepIn X.K (.ref f) = true) (hb : Binds X.K fd ps ds) (hd : Vals dvs ds) (hx : PassesX CX X EK)
    (ha : PA X (e :: es) t) (hdb : (x == ("__debug__" : Str)) = false := by decide) (he : starEach (e :: es) X.env = (false, eval e X.env) :: starEach es X.env := by rfl) (hpl : (backTo pos (starEach es X.env)).any (·.1) = false := by rfl) :
    PE X (.Call (.Name x p) (e :: es) [] pos) (xCall sp dvs EK t) := by
  intro pins s σ H Q I h
  refine wpAny_Call_Name_kw (ld_glob I hg hm ?_ hdb)
  exact PySem.W.callWith_K (h₀ := X.base) I.ok.mod.kin hk (thn (ha pos pins s σ H _ I h) fun us s1 ⟨vs, H1, I1, r, q⟩ => ⟨I1.kIn, xrun F hr hb hd hx I1 r q⟩) he hpl

/-- what a class of errors must have to be made -/
structure MkX (K : PySem.W.Frag) (C f : Addr) : Prop where
  cls : ∃ cd, XCls K C cd
  init : PySem.W.findIn K (.ref C) "__init__" = some (some (.ref f))
  fn : PySem.W.isFn K (.ref f) = true
  kp : PySem.W.keepIn K (.ref C) = true
theorem xrunErr {pins : List (Addr × Obj)} {σ : St} {H : Hp} {s : Shared} {Q : VK} {us : List Value} {vs : List V} (M : MkX X.K C f) (F : FnOk X.prog X.w X.K X.mg X.base CX k f fd ps sp) (hr : Room (k + 1) X.A) (hb : Binds X.K fd ps []) (hx : PassesX CX X EK) (hps : ps.length ≤ 1000)
    (I : Inv X pins σ H s) (r : Vals vs us) (h : ∀ ea, H ea = none → sp (.ref ea :: vs) (upd H ea (exo true C ea none)) (fun v H2 => v = .non ∧ Q (.ref ea) H2) (EK σ)) :
    wpAny (model X.prog X.w) X.A (call (.ref C) us) (EP X pins σ Q) X.xe s := by
  have hq := h (s.heap.objs.size + 1) (I.hok.fresh (Nat.le_succ _))
  obtain ⟨cd, xc⟩ := M.cls
  have r2 : Vals (V.ref (s.heap.objs.size + 1) :: vs) (Value.ref (s.heap.objs.size + 1) :: us) := .cons rfl r
  have hl : (Value.ref (s.heap.objs.size + 1) :: us).length = ps.length := by rw [← r2.length]; exact F.len _ _ _ _ hq
  have hz : us.length ≤ sizeLine := by rw [List.length_cons] at hl; rw [sizeLine_eq]; omega
  have I2 : Inv X pins σ (upd H (s.heap.objs.size + 1) (exo true C (s.heap.objs.size + 1) none)) { s with heap := withNew s.heap C us } := by
    refine I.laid (t' := s.toks) (fun b u q => Heap.get?_push_of_some _ (Heap.get?_push_of_some _ q)) (Nat.le_succ _) (exo_ok ⟨#[.ref s.heap.objs.size, .none, .none, .none, .bool false, .none], #[], s.heap.objs.size, ?_, rfl, fun _ => rfl⟩)
    show (withNew s.heap C us).get? (s.heap.objs.size + 1) = some (newRec C s.heap.objs.size)
    heap_get
  obtain ⟨hh, g, d, tk, os⟩ := s
  refine wpAny_call (exc_made xc I.kIn M.init (beq_iff_eq.mp M.fn) hz (codeAny_mono (F.run _ X.stack _ _ ⟨Value.ref (hh.objs.size + 1) :: us, []⟩ (Value.ref (hh.objs.size + 1) :: us) _ _ (EK σ) (hr.make C us []) (I2.env0.make C us [])
    (by have := hb _ (Value.ref (hh.objs.size + 1) :: us) I2.kIn (by rw [List.append_nil]; exact hl); rw [List.append_nil] at this; exact this) r2 hq) fun r s' hq' => ?_))
  cases r with
  | error e => exact hx pins σ _ _ e s' I2 hq'
  | ok fl =>
    cases fl with
    | ret u =>
      obtain ⟨v, H', I3, rv, ev, q3⟩ := I2.after hq'
      subst ev
      exact ⟨rv, ⟨V.ref (hh.objs.size + 1), H', I3, rfl, q3⟩⟩
    | _ => exact False.elim hq'
theorem xe_err (M : MkX X.K C f) (F : FnOk X.prog X.w X.K X.mg X.base CX k f fd ps sp) (hr : Room (k + 1) X.A) (hg : Gl X x) (hm : X.mg x = some (.ref C)) (hb : Binds X.K fd ps []) (hx : PassesX CX X EK)
    (ha : PA X (e :: es) t) (hps : ps.length ≤ 1000 := by decide) (hdb : (x == ("__debug__" : Str)) = false := by decide) (he : starEach (e :: es) X.env = (false, eval e X.env) :: starEach es X.env := by rfl) (hpl : (backTo pos (starEach es X.env)).any (·.1) = false := by rfl) :
    PE X (.Call (.Name x p) (e :: es) [] pos) (xErr C sp EK t) := by
  intro pins s σ H Q I h
  refine wpAny_Call_Name_kw (ld_glob I hg hm ?_ hdb)
  exact PySem.W.callWith_K (h₀ := X.base) I.ok.mod.kin M.kp (thn (ha pos pins s σ H _ I h) fun us s1 ⟨vs, H1, I1, r, q⟩ => ⟨I1.kIn, xrunErr M F hr hb hx hps I1 r q⟩) he hpl
end
end L2
end
section
set_option Elab.async false
set_option linter.all false
set_option maxRecDepth 100000
set_option maxHeartbeats 4000000
namespace L2
open PySem PySem.Spec PyProof.Rows LX

theorem upd_self {H : Hp} {a : Addr} {o : HO} (h : H a = some o) : upd H a o = H := by
  funext b
  by_cases e : b = a
  · rw [e, upd_same, h]
  · rw [upd_ne e]
section
variable {X : Cx}
/-! ### ValueError.__init__(self, ..) -/
def tVe (K : PySem.W.Frag) (t : TA) : TE := fun σ H Q => t σ H fun vs H1 => ∃ ea C od r, vs = .ref ea :: r ∧ r.length ≤ 1000 ∧ H1 ea = some (exo true C ea od) ∧ (∃ cd, XCls K C cd) ∧ Q .non H1
theorem pe_ve {p apos pos : Pos} {e : Expr} {es : List Expr} {t : TA} {pl : Sem Bool} (hg : Gl X "ValueError") (hm : X.mg "ValueError" = none) (ha : PA X (e :: es) t)
    (hst : starEach (e :: es) X.env = (false, eval e X.env) :: starEach es X.env := by rfl) (hpl : (backTo pos (starEach es X.env)).any (·.1) = false := by rfl)
    (ht : eval (.Call (.Attribute (.Name "ValueError" p) "__init__" apos) (e :: es) [] pos) X.env = (do
      let ov ← eval (.Name "ValueError" p) X.env
      standAt apos.atName
      let (f, first) ← holding [ov] (getMethod ov "__init__" pl)
      callWith pos f first (backTo pos (starEach (e :: es) X.env)) (backToKw pos (keywordEach [] X.env))) := by rfl) :
    PE X (.Call (.Attribute (.Name "ValueError" p) "__init__" apos) (e :: es) [] pos) (tVe X.K t) := by
  intro pins s σ H Q I h
  refine PySem.W.methodCall_KW (pl := pl) (ld_blt I hg hm PyProof.Rows.Boot.«ValueError» ?_) ht
  refine ve_init I.kIn ?_
  refine PyProof.Rows.callWith_builtin1 (thn (ha pos pins _ σ H _ (I.tok _) h) fun us s1 ⟨vs, H1, I1, r, ea, C, od, rr, ev, hl, h1, ⟨cd, xc⟩, q⟩ => ?_) hst hpl
  subst ev
  cases r with
  | @cons _ u _ us' r1 r2 =>
  obtain rfl : u = Value.ref ea := r1
  obtain ⟨fs, sl, a0, z, ha, hf⟩ := exo_get I1.hok h1
  have hz : us'.length ≤ sizeLine := by rw [← r2.length, sizeLine_eq]; omega
  have I2 : Inv X pins σ H1 { s1 with heap := s1.heap.push (tupRec us') } := I1.kept (t' := s1.toks) fun b u q => Heap.get?_push_of_some _ q
  have z2 := Heap.get?_push_of_some (h := s1.heap) (tupRec us') z
  have hs0 : 0 < fs.size := (Array.getElem?_eq_some_iff.mp ha).1
  have I3 : Inv X pins σ (upd H1 ea (exo true C ea od)) { s1 with heap := (s1.heap.push (tupRec us')).update ea (Obj.mapFields (·.setIfInBounds 0 (.ref s1.heap.objs.size))) } := by
    refine I2.write (x := ea) (e := ea) (t' := s1.toks) (by rw [h1]; exact True.intro) (.inl rfl) (fun b u hb q => (Heap.get?_update_other _ _ (Ne.symm hb)).trans q) ⟨_, upd_rec z2⟩ (exo_ok ⟨_, _, s1.heap.objs.size, upd_rec z2, by simp [hs0], fun _ => ?_⟩)
    have := hf rfl
    simpa using this
  rw [upd_self h1] at I3
  obtain ⟨hh, g, d, tk, os⟩ := s1
  exact init_called xc I1.kIn z ha hz ⟨.non, H1, I3, rfl, q⟩

/-! ### f-strings: some text -/
abbrev TF := St → Hp → (Hp → Prop) → Prop
/-- a part of an f-string: a text of at most 2000 signs -/
def PF (X : Cx) (e : Expr) (t : TF) : Prop :=
  ∀ (pins : List (Addr × Obj)) (s : Shared) (σ : St) (H : Hp) (Q : Hp → Prop), Inv X pins σ H s → t σ H Q → wpAny (model X.prog X.w) X.A (eval e X.env) (fun v s1 => ∃ y tk H1, v = .str y tk ∧ y.length ≤ 2000 ∧ Inv X pins σ H1 s1 ∧ Q H1) X.xe s
def PFs (X : Cx) (es : List Expr) (t : TF) : Prop :=
  ∀ (out : Str) (pins : List (Addr × Obj)) (s : Shared) (σ : St) (H : Hp) (Q : V → Hp → Prop), out.length + 2000 * es.length ≤ 100000 → Inv X pins σ H s → t σ H (fun H1 => ∀ y, y.length ≤ 100000 → Q (.str y) H1) →
    wpAny (model X.prog X.w) X.A (joinParts out (evalEach es X.env)) (EP X pins σ Q) X.xe s
def tText : TF := fun _ H Q => Q H
def tNum (te : TE) : TF := fun σ H Q => te σ H fun v H1 => ∃ i, v = .int i ∧ i.natAbs.log2 < 1920 ∧ Q H1
def tParts (t u : TF) : TF := fun σ H Q => t σ H fun H1 => u σ H1 Q
theorem line_big : (100000 : Nat) ≤ sizeLine := by rw [sizeLine_eq]; omega
theorem pf_text {x j pos} (hl : x.length ≤ 2000 := by decide +kernel) : PF X (.Constant (.str x) j pos) tText := fun _ _ _ H _ I h => Calls.Constant_str ⟨_, _, H, rfl, hl, I.tok _, h⟩
theorem pf_num {e : Expr} {te : TE} {pos : Pos} (he : PE X e te) : PF X (.FormattedValue e (-1) none pos) (tNum te) := by
  intro pins s σ H Q I h
  refine FormattedValue_plain (thn (he pins s σ H _ I h) fun u s1 ⟨v, H1, I1, r, i, ev, hi, q⟩ => ?_)
  subst ev
  obtain ⟨t, rfl⟩ := (show ∃ t, u = Value.int i t from r)
  exact formatField_int_small hi ⟨_, _, H1, rfl, Nat.le_trans (int_text_len_1921 hi) (by decide), I1.tok _, q⟩
theorem pfs_nil : PFs X [] tText := fun out pins s σ H Q hl I h =>
  joinParts_nil ⟨.str out, H, I.tok _, ⟨_, rfl⟩, h out (by simpa using hl)⟩ (Nat.le_trans (by simpa using hl) line_big)
theorem pfs_cons {e : Expr} {es : List Expr} {t u : TF} (h1 : PF X e t) (h2 : PFs X es u) : PFs X (e :: es) (tParts t u) := by
  intro out pins s σ H Q hl I h
  rw [List.length_cons] at hl
  refine joinParts_consE (joinParts_cons (thn (h1 pins s σ H _ I h) fun v s1 ⟨y, tk, H1, ev, hy, I1, q⟩ => ?_))
  subst ev
  have hz : (out ++ y).length + 2000 * es.length ≤ 100000 := by rw [strLen_append]; omega
  exact ⟨Nat.le_trans (by omega) line_big, h2 (out ++ y) pins s1 σ H1 Q hz I1 q⟩
def tFstr (t : TF) : TE := fun σ H Q => t σ H fun H1 => ∀ y, y.length ≤ 100000 → Q (.str y) H1
theorem pe_fstr {e e' : Expr} {es : List Expr} {t : TF} {pos : Pos} (h : PFs X (e :: e' :: es) t) (hl : 2000 * (e :: e' :: es).length ≤ 100000 := by decide) : PE X (.JoinedStr (e :: e' :: es) pos) (tFstr t) :=
  fun pins s σ H Q I q => JoinedStr_many (h Str.empty pins s σ H Q (by have z : Str.empty.length = 0 := rfl; rw [z]; omega) I q)

/-! ### isinstance, of exceptions too -/
inductive TyX (K : PySem.W.Frag) (H : Hp) : V → Value → Prop where
  | of {x : V} {t : Value} (h : TyOf K H x t) : TyX K H x t
  | exc {b : Bool} {a C : Addr} {od : Option Addr} {cd : ClassData} (e : H a = some (exo b C a od)) (hd : od = none ∨ ∃ dx fs, od = some dx ∧ H dx = some (.xd fs)) (x : XCls K C cd) (g : XGet K C)
      (hc : PySem.W.findIn K (.ref C) "__class__" = some (some (.builtin "object.__class__"))) : TyX K H (.ref a) (.ref C)
/-- a class as isinstance takes it -/
def clsV : V → Value
  | .ref a => .ref a
  | .ty n => .type n
  | _ => .none
theorem exo_inst {P : Program} {w : World} {H : Hp} {h : Heap} {b : Bool} {C a : Addr} {od : Option Addr} (ok : HOk P w H h) (e : H a = some (exo b C a od)) (hd : od = none ∨ ∃ dx fs, od = some dx ∧ H dx = some (.xd fs)) :
    ∃ ox o, PySem.W.InstAt h a ox C o := by
  obtain ⟨fs, sl, a0, z, _⟩ := exo_get ok e
  rcases hd with rfl | ⟨dx, gs, rfl, q⟩
  · exact ⟨_, _, inst_none z⟩
  · obtain ⟨mA, n, _⟩ := (show ObjOk P w H h dx (.xd gs) from ok dx _ q)
    obtain ⟨o, _, _, ho, _⟩ := n
    exact ⟨_, _, inst_some z ho⟩
def rIsi (K : PySem.W.Frag) : List V → Hp → VK → Prop := fun vs H Q => ∃ x c t b, vs = [x, c] ∧ TyX K H x t ∧ (∃ a, c = .ref a) ∧ PySem.W.kitOne K t (clsV c) = some b ∧ Q (.bl b) H
def rIsiT (K : PySem.W.Frag) : List V → Hp → VK → Prop := fun vs H Q => ∃ x c t b, vs = [x, c] ∧ TyX K H x t ∧ (∃ n, c = .ty n) ∧ PySem.W.kitOne K t (clsV c) = some b ∧ Q (.bl b) H
theorem isi_any {pins : List (Addr × Obj)} {s : Shared} {σ : St} {H : Hp} {x : V} {u c t : Value} {b : Bool} {Q : VK} (I : Inv X pins σ H s) (rx : RelV x u) (ty : TyX X.K H x t) (e : PySem.W.kitOne X.K t c = some b) (q : Q (.bl b) H) :
    wpAny (model X.prog X.w) X.A (call (.builtin "isinstance") [u, c]) (EP X pins σ Q) X.xe s := by
  have fin : ∀ tk, EP X pins σ Q (.bool b) { s with toks := tk } := fun tk => ⟨.bl b, H, I.tok tk, rfl, q⟩
  cases ty with
  | of h => exact isinst_ok I rx h e fin
  | exc ea hd xc g hc =>
    cases (show u = Value.ref _ from rx)
    obtain ⟨ox, o, J⟩ := exo_inst I.hok ea hd
    exact PySem.W.kia_one (kit_exc xc g hc) I.kIn ⟨ox, o, J⟩ e (fun z => nomatch z) fin
theorem call_isi : CallR X (.builtin "isinstance") (rIsi X.K) := by
  rintro pins s σ H xs us Q I r ⟨x, c, t, b, rfl, ty, ⟨a, rfl⟩, e, q⟩
  obtain ⟨u, v, rfl, ru, rv⟩ := vals2 r
  cases (show v = Value.ref a from rv)
  exact isi_any I ru ty e q
theorem call_isiT : CallR X (.builtin "isinstance") (rIsiT X.K) := by
  rintro pins s σ H xs us Q I r ⟨x, c, t, b, rfl, ty, ⟨n, rfl⟩, e, q⟩
  obtain ⟨u, v, rfl, ru, rv⟩ := vals2 r
  cases (show v = Value.type n from rv)
  exact isi_any I ru ty e q

/-! ### e.m() of an exception -/
end
end L2
end
section
set_option Elab.async false
set_option linter.all false
set_option maxRecDepth 100000
set_option maxHeartbeats 4000000
namespace L2
open PySem PySem.Spec PyProof.Rows LX

/-! ### try: .. except C as n: .. -/
/-- within the body of a try: another wish, the pins kept -/
abbrev Cx.tried (X : Cx) (pins : List (Addr × Obj)) (E : Value → Shared → Prop) : Cx := { X with xe := E, pn := X.pn ++ pins }
/-- within an except suite -/
abbrev Cx.caught (X : Cx) (ea : Addr) : Cx := { X with A := X.A.mark (some (.ref ea)), calm := false, xe := fun _ _ => False }
section
variable {X : Cx} {pins : List (Addr × Obj)} {σ : St} {H : Hp} {s : Shared} {E : Value → Shared → Prop} {ea : Addr}
theorem Inv.tried (I : Inv X pins σ H s) (E : Value → Shared → Prop) : Inv (X.tried pins E) [] σ H s :=
  ⟨⟨I.ok.mod, I.ok.kind, I.ok.glob, I.ok.blt, I.ok.above, I.ok.inj, I.ok.has, I.ok.cab, I.ok.hd, I.ok.frames, I.ok.stk, I.ok.exf, I.ok.bs, I.ok.bsz, I.ok.noex, I.ok.exfs, I.ok.funs, I.ok.frf⟩,
    I.os, I.bare, I.base, I.loc, I.cell, I.free, I.freeC, fun p hp => I.pin p (by simpa using hp), I.hok, I.len⟩
theorem Inv.untried {pins' : List (Addr × Obj)} (I : Inv (X.tried pins E) pins' σ H s) : Inv X pins σ H s :=
  ⟨⟨I.ok.mod, I.ok.kind, I.ok.glob, I.ok.blt, I.ok.above, I.ok.inj, I.ok.has, I.ok.cab, I.ok.hd, I.ok.frames, I.ok.stk, I.ok.exf, I.ok.bs, I.ok.bsz, I.ok.noex, I.ok.exfs, I.ok.funs, I.ok.frf⟩,
    I.os, I.bare, I.base, I.loc, I.cell, I.free, I.freeC, fun p hp => I.pin p (List.mem_append_left _ hp), I.hok, I.len⟩
theorem Inv.caught (I : Inv X pins σ H s) (ea : Addr) : Inv (X.caught ea) pins σ H s :=
  ⟨⟨I.ok.mod, I.ok.kind, I.ok.glob, I.ok.blt, I.ok.above, I.ok.inj, I.ok.has, I.ok.cab, (fun z => nomatch z), I.ok.frames, I.ok.stk, I.ok.exf, I.ok.bs, I.ok.bsz, I.ok.noex, I.ok.exfs, I.ok.funs, I.ok.frf⟩,
    I.os, I.bare, I.base, I.loc, I.cell, I.free, I.freeC, I.pin, I.hok, I.len⟩
theorem Inv.uncaught {Y : Cx} (I : Inv (Y.caught ea) pins σ H s) (ok : Y.Ok) : Inv Y pins σ H s := ⟨ok, I.os, I.bare, I.base, I.loc, I.cell, I.free, I.freeC, I.pin, I.hok, I.len⟩
/-- an untracked exception of ours is tracked from now on -/
theorem Inv.track {o : HO} {c : Value} {od : Option Addr} {fs : Array Value} {sl : Array (Option Value)} (I : Inv X pins σ H s) (hn : H ea = none) (h0 : X.s₀.heap.get? ea = none) (hr : s.heap.get? ea = some (excRec c od fs sl))
    (hp : ∀ p ∈ X.pn ++ pins, p.1 ≠ ea) (new : ObjOk X.prog X.w (upd H ea o) s.heap ea o) : Inv X pins σ (upd H ea o) s := by
  have ne : ∀ b u, H b = some u → b ≠ ea := fun b u q e => by rw [e, hn] at q; cases q
  refine ⟨I.ok, I.os, I.bare, ⟨I.base.keep, I.base.slot, fun b u q n hx => ?_, I.base.there, fun b xs q => ?_, fun b u v q => ?_, fun b ps q => ?_⟩, I.loc, I.cell, ?_, fun x c' q => ?_, fun p hq => ?_, I.hok.add hn new, I.len⟩
  · rw [upd_ne fun e => by rw [e, h0] at q; cases q]
    exact I.base.free b u q n hx
  · have r := I.base.tups b xs q
    rw [upd_ne (ne b _ r)]; exact r
  · have r := I.base.frzs b u v q
    rw [upd_ne (ne b _ r)]; exact r
  · obtain ⟨more, r⟩ := I.base.tbls b ps q
    exact ⟨more, by rw [upd_ne (ne b _ r)]; exact r⟩
  · rw [upd_ne fun e => ?_]
    · exact I.free
    · obtain ⟨m, ⟨oL, es, ep, ho, hd, _⟩, _⟩ := I.loc
      rw [e, hr] at ho
      cases ho
      cases hd
  · rw [upd_ne fun e => ?_]
    · exact I.freeC x c' q
    · obtain ⟨v, oc, ho, hd⟩ := I.cell x c' q
      rw [e, hr] at ho
      cases ho
      cases hd
  · obtain ⟨e, n, z⟩ := I.pin p hq
    exact ⟨e, by rw [upd_ne (hp p hq)]; exact n, z⟩
end
/-- the suite's ends: the name goes -/
def endsOff (i : Nat) (D : Ends) : Ends := { nx := fun σ H => D.nx (σ.set i none) H, rt := D.rt, bk := fun σ H => D.bk (σ.set i none) H, ct := fun σ H => D.ct (σ.set i none) H }
def tLand (K : PySem.W.Frag) (Dc : Addr) (i : Nat) (ts : TS) (D : Ends) : St → XK := fun σ c od H => ∃ C cd, c = .ref C ∧ XCls K C cd ∧ cd.mro.contains (.ref Dc) = true ∧ ∀ ea, H ea = none → ts (endsOff i D) (σ.set i (some (.ref ea))) (upd H ea (exo false C ea od))
def tTry (K : PySem.W.Frag) (Dc : Addr) (i : Nat) (tb : (St → XK) → TS) (ts : TS) : TS := fun D σ H => tb (tLand K Dc i ts D) D σ H

section
variable {X : Cx}
/-- the name of the exception goes -/
theorem name_off {pins : List (Addr × Obj)} {σ : St} {H : Hp} {s : Shared} {E : Value → Shared → Prop} {n : Str} {i : Nat} {pos : Pos} {Q : Unit → Shared → Prop} (I : Inv X pins σ H s) (hN : X.N.Nodup) (hi : X.N[i]? = some n) (hx : X.env.scope.names.lookup n = some .local)
    (k : ∀ s', Inv X pins (σ.set i none) H s' → Q () s') : wpAny (model X.prog X.w) X.A (do bindName X.env n .none; unbindBehindTheSuite X.env n pos) Q E s := by
  obtain ⟨m, hn, hl⟩ := id I.loc
  have hcls : (X.env.scope.kind == .class || (X.env.scope.kind == .module && X.env.locals != X.env.globals)) = false := by rw [I.ok.kind]; rfl
  refine wpAny_nameGoes_keeps hx hn hcls fun h' v hn' hs => k _ ?_
  obtain ⟨oL, _, _, hoL, _⟩ := id hn
  have tr : HOk X.prog X.w H h' := I.hok.keeps fun b u o q r => (hs.2 b fun e => by rw [e, I.free] at q; cases q).trans r
  refine ⟨I.ok, I.os, I.bare, ⟨fun b o e n hb hx => ?_, fun b o e n hb hx => ?_, I.base.free, fun b o e hx => ?_, I.base.tups, I.base.frzs, I.base.tbls⟩, ⟨_, hn', fun j y v' e1 e2 e3 => ?_⟩, fun y c e => ?_, I.free, I.freeC, fun p hp => ?_, tr, by simpa using I.len⟩
  · exact (hs.2 b (Nat.ne_of_lt (Nat.lt_of_lt_of_le (Heap.lt_size e) I.ok.above))).trans (I.base.keep b o e n hb hx)
  · obtain ⟨sl, e1⟩ := I.base.slot b o e n hb hx
    exact ⟨sl, (hs.2 b (Nat.ne_of_lt (Nat.lt_of_lt_of_le (Heap.lt_size e) I.ok.above))).trans e1⟩
  · obtain ⟨o', e1⟩ := I.base.there b o e hx
    exact ⟨o', (hs.2 b (Nat.ne_of_lt (Nat.lt_of_lt_of_le (Heap.lt_size e) I.ok.above))).trans e1⟩
  · by_cases hj : j = i
    · subst hj
      rw [List.getElem?_set] at e2
      simp only [if_true] at e2
      split at e2 <;> cases e2
    · rw [List.getElem?_set_ne (Ne.symm hj)] at e2
      obtain ⟨u', r', q⟩ := hl j y v' e1 e2 e3
      refine ⟨u', r', ?_⟩
      rcases q with ⟨kk, e⟩ | ⟨kk, c, e, z⟩
      · refine .inl ⟨kk, ?_⟩
        have : y ≠ n := fun e => hj (nodup_ix hN e1 (e ▸ hi))
        simp [this, e]
      · exact .inr ⟨kk, c, e, z.sameBut hs (I.cne y c e)⟩
  · obtain ⟨w', z⟩ := I.cell y c e
    exact ⟨w', z.sameBut hs (I.cne y c e)⟩
  · obtain ⟨e, n, ne, nf, d⟩ := I.pin p hp
    exact ⟨(hs.2 p.1 ne).trans e, n, ne, nf, d⟩

theorem ps_try {body suite : List Stmt} {b₀ : Stmt} {x n : Str} {np hpos pos : Pos} {i : Nat} {Dc : Addr} {cdD : ClassData} {tb : (St → XK) → TS} {ts : TS} (hex : X.ex = []) (hst : X.stack = X.env :: X.outer) (hfr : X.env.frame = some X.env.locals) (hg : Gl X x) (hm : X.mg x = some (.ref Dc))
    (hD : XCls X.K Dc cdD) (hN : X.N.Nodup) (hi : X.N[i]? = some n) (hx : X.env.scope.names.lookup n = some .local)
    (hb : ∀ (pins : List (Addr × Obj)) (E : Value → Shared → Prop) (EK : St → XK), PassesX (CXE X.prog X.w) (X.tried pins E) EK → PSs (X.tried pins E) body (tb EK))
    (hs : ∀ ea, PSs (X.caught ea) (b₀ :: suite) ts) (hdb : (x == ("__debug__" : Str)) = false := by decide) :
    PS X (.Try body [.ExceptHandler (some (.Name x np)) (some n) (b₀ :: suite) hpos] [] [] pos) (tTry X.K Dc i tb ts) := by
  intro pins s σ H D I h
  refine wpAny_Try_except ?_
  refine wpAny_mono (hb pins (fun e s₁ => ∃ σ' H1 sc, Inv X pins σ' H1 sc ∧ CXE X.prog X.w X.stack H1 sc (tLand X.K Dc i ts D σ') e s₁) (tLand X.K Dc i ts D)
    (fun pins' σ' H1 sc e s' J q => ⟨σ', H1, sc, J.untried, q⟩) [] s σ H D (I.tried _) h) (fun fl s1 q => ?_) fun e s1 q => ?_
  · cases fl with
    | next =>
      obtain ⟨σ', H', J, q⟩ := q
      exact wpAny_execs_nil ⟨σ', H', J.untried, q⟩
    | brk => obtain ⟨σ', H', J, q⟩ := q; exact ⟨σ', H', J.untried, q⟩
    | cont => obtain ⟨σ', H', J, q⟩ := q; exact ⟨σ', H', J.untried, q⟩
    | ret u => obtain ⟨v, σ', H', J, r, q⟩ := q; exact ⟨v, σ', H', J.untried, r, q⟩
  · obtain ⟨σ', H1, sc, J, ea, Cv, T, od, fs, sl, H', rfl, l, C, cd, ec, xc, hmr, q⟩ := q
    cases ec
    have hA : X.A.frames = some (X.env :: X.outer) := by rw [J.ok.frames, hst]
    have hF : s1.heap.FunFrames X.base (X.env :: X.outer) := by rw [← hst]; exact l.frames J
    have e0 : X.s₀.heap.get? ea = none := by
      cases z : X.s₀.heap.get? ea with
      | none => rfl
      | some o =>
        obtain ⟨o', z'⟩ := J.base.there ea o z (by rw [hex]; exact List.not_mem_nil)
        rw [l.newE] at z'; cases z'
    -- the state behind each step
    have st : ∀ (m : Heap) (tk : Nat), Kept (framesOf X.stack) [ea, T] s1.heap m → Inv X pins σ' H' { s1 with heap := m, toks := tk } := fun m tk k => by
      obtain ⟨un, hok⟩ := l.on (t' := s1.toks) J k
      exact J.call' l.os un hok l.bare fun b z => absurd z (by simp)
    have pn : ∀ p ∈ X.pn ++ pins, p.1 ≠ ea := fun p hp e => by
      obtain ⟨z, _⟩ := J.pin p hp
      rw [e, l.newE] at z; cases z
    refine note_on hA hF hfr l.at_ l.trail fun m T' oc tsx z1 z2 z3 z4 z5 => ?_
    have Te : T' ≠ ea := Nat.ne_of_gt (Nat.lt_of_lt_of_le (Heap.lt_size l.at_) z1)
    have f1 : (fs.setIfInBounds 1 (Value.ref T'))[1]? = some (.ref T') := by
      have := l.trail.size
      simp [this]
    have k1 : Kept (framesOf X.stack) [ea, T] s1.heap m := by rw [hst]; exact z2
    refine flight_off (s := { s1 with heap := m }) z3 f1 Te z4 (Array.getElem?_eq_some_iff.mp z5).1 fun m' q1 q2 q3 => ?_
    have nT : ∀ b o, s1.heap.get? b = some o → b ≠ T' := fun b o q => Nat.ne_of_lt (Nat.lt_of_lt_of_le (Heap.lt_size q) z1)
    have k2 : Kept (framesOf X.stack) [ea, T] s1.heap m' := ⟨fun b o q hb hx => q1 b o (nT b o q) (k1.plain b o q hb hx), fun b o q hb hx => by
      obtain ⟨sm, r⟩ := k1.frame b o q hb hx
      exact ⟨sm, q1 b _ (nT b o q) r⟩⟩
    have J2 := st m' s1.toks k2
    refine wpAny_handleBy_cons (codeAny_handlers_test ?_) (by intro z; cases z)
    refine ld_glob (X := X.caught ea) (J2.caught ea) hg hm ?_ hdb
    refine matches_own xc hD J2.kIn q3 ?_
    rw [hmr]
    refine codeAny_handlers_suite_as ?_
    cases q2 with
    | @some _ oc2 ts2 d2 sm2 y1 y2 y3 y4 =>
    refine flight_off (s := { s1 with heap := m' }) q3 y1 y2 y3 (Array.getElem?_eq_some_iff.mp y4).1 fun m3 r1 r2 r3 => ?_
    have k3 : Kept (framesOf X.stack) [ea, T] s1.heap m3 := ⟨fun b o q hb hx => r1 b o (nT b o q) (k2.plain b o q hb hx), fun b o q hb hx => by
      obtain ⟨sm, r⟩ := k2.frame b o q hb hx
      exact ⟨sm, r1 b _ (nT b o q) r⟩⟩
    have J3 := st m3 s1.toks k3
    obtain ⟨a0, ha⟩ := l.args
    have J4 : Inv X pins σ' (upd H' ea (exo false Cv ea od)) { s1 with heap := m3 } := J3.track l.freeE e0 r3 pn (exo_ok ⟨_, _, a0, r3, by simpa using ha, fun z => nomatch z⟩)
    refine store_ok (X := X.caught ea) (J4.caught ea) hN hi (.inl hx) (v := .ref ea) rfl (fun s5 J5 => ?_) (.inr hx)
    refine wpAny_mono (hs ea pins s5 _ _ (endsOff i D) J5 (q ea l.freeE)) (fun fl s6 w => ?_) fun _ _ z => False.elim z
    have off : ∀ {σ6 : St} {H6 : Hp} {Q6 : Unit → Shared → Prop}, Inv (X.caught ea) pins σ6 H6 s6 → (∀ s7, Inv X pins (σ6.set i none) H6 s7 → Q6 () s7) → wpAny (model X.prog X.w) X.A (do bindName X.env n .none; unbindBehindTheSuite X.env n hpos) Q6 X.xe s6 :=
      fun J6 k => name_off (J6.uncaught J.ok) hN hi hx k
    cases fl with
    | next => obtain ⟨σ6, H6, J6, w⟩ := w; exact off J6 fun s7 J7 => ⟨_, _, J7, w⟩
    | brk => obtain ⟨σ6, H6, J6, w⟩ := w; exact off J6 fun s7 J7 => ⟨_, _, J7, w⟩
    | cont => obtain ⟨σ6, H6, J6, w⟩ := w; exact off J6 fun s7 J7 => ⟨_, _, J7, w⟩
    | ret u => obtain ⟨v, σ6, H6, J6, r, w⟩ := w; exact off J6 fun s7 J7 => ⟨v, _, _, J7, r, w⟩
end
end L2
end
section
set_option Elab.async false
set_option linter.all false
set_option maxRecDepth 100000
set_option maxHeartbeats 4000000
namespace L2
open PySem PySem.Spec PyProof.Rows LX

/-! ### lists: + of any two, count of flat items -/
section
variable {X : Cx}
end
/-! ### what is tracked stays -/
theorem Same.upd {H : Hp} {a : Addr} {o : HO} (h : H a = none) : Same H (L2.upd H a o) := fun b u q => by rw [upd_ne fun e => by rw [e, h] at q; cases q]; exact q

/-! ### the classes of errors that the text has, and HeapError.__init__ -/
/-- a class of errors: its name's address, what the walk asks of it -/
structure ErrC (K : PySem.W.Frag) (C : Addr) : Prop where
  cls : ∃ cd, XCls K C cd
  get : XGet K C
  own : PySem.W.findIn K (.ref C) "__class__" = some (some (.builtin "object.__class__"))
/-- __init__(self, text) of HeapError -/
def spXI (K : PySem.W.Frag) : Sp := fun vs H Q _ => ∃ ea C od x, vs = [.ref ea, x] ∧ H ea = some (exo true C ea od) ∧ (∃ cd, XCls K C cd) ∧ Q .non H
/-- isinstance(e, D), e the first name -/
theorem isi_read {K : PySem.W.Frag} {i : Nat} {σ : St} {H : Hp} {Q : VK} {x : V} {D : Addr} {t : Value} {b : Bool} (h0 : σ[i]? = some (some x)) (ty : TyX K H x t) (hk : PySem.W.kitOne K t (.ref D) = some b) (q : Q (.bl b) H) :
    tCB (rIsi K) (tCons (tVar i) (tCons (tC (.ref D)) tNil)) σ H Q := ⟨x, h0, x, .ref D, t, b, rfl, ty, ⟨_, rfl⟩, hk, q⟩
theorem isi_readT {K : PySem.W.Frag} {i : Nat} {σ : St} {H : Hp} {Q : VK} {x : V} {D : String} {t : Value} {b : Bool} (h0 : σ[i]? = some (some x)) (ty : TyX K H x t) (hk : PySem.W.kitOne K t (.type D) = some b) (q : Q (.bl b) H) :
    tCB (rIsiT K) (tCons (tVar i) (tCons (tC (.ty D)) tNil)) σ H Q := ⟨x, h0, x, .ty D, t, b, rfl, ty, ⟨_, rfl⟩, hk, q⟩
/-- a built-in's name as a value -/
theorem pe_ty {X : Cx} {x : Str} {T : String} {pos : Pos} (hg : Gl X x) (hm : X.mg x = none) (hv : bootBuiltins x = some (.type T)) (hn : x ≠ "__name__" := by decide) (hd : (x == ("__debug__" : Str)) = false := by decide) : PE X (.Name x pos) (tC (.ty T)) :=
  fun _ _ _ H _ I h => ld_blt I hg hm hv ⟨.ty T, H, I, rfl, h⟩ hn hd
/-- no exception leaves: calls in a body under nox -/
theorem passN {P : Program} {w : World} {X : Cx} : PassesX (CXE P w) X.nox (fun _ _ _ _ => False) := fun _ _ _ _ _ _ _ ⟨_, _, _, _, _, _, _, _, _, q⟩ => q.elim
theorem noneE {P : Program} {w : World} {outer : List Env} {H : Hp} {s : Shared} {e : Value} {s' : Shared} (h : CXE P w outer H s (fun _ _ _ => False) e s') : False := by
  obtain ⟨_, _, _, _, _, _, _, _, _, q⟩ := h
  exact q
end L2
end
section
set_option Elab.async false
set_option linter.all false
set_option maxRecDepth 100000
set_option maxHeartbeats 4000000
namespace L2
open PySem PySem.Spec PyProof.Rows LX
/-! ### == of two lists of flat items, as long as one another -/
end L2
end
section
set_option Elab.async false
set_option linter.all false
set_option maxRecDepth 100000
set_option maxHeartbeats 4000000
namespace L2
open PySem PySem.Spec PyProof.Rows LX
/-! ### attributes of an exception -/
/-- a class of errors whose instances get the attribute f -/
structure XSet (K : PySem.W.Frag) (C : Addr) (f : Str) : Prop where
  cls : ∃ cd CH, XCls K C cd ∧ cd.hasDict = true ∧ cd.mro = [.ref C, .ref CH, .type "ValueError", .type "Exception", .type "BaseException", .type "object"]
  get : XGet K C
  sa : PySem.W.findIn K (.ref C) "__setattr__" = some (some (.builtin "object.__setattr__"))
  no : PySem.W.findIn K (.ref C) f = some none
section
variable {X : Cx}
theorem setx_ok {pins : List (Addr × Obj)} {σ : St} {H : Hp} {s : Shared} {a C : Addr} {b : Bool} {f : Str} {y : V} {u : Value} {A : Around} {E : Value → Shared → Prop} {Q : Unit → Shared → Prop} (I : Inv X pins σ H s) (e : H a = some (exo b C a none)) (c : XSet X.K C f) (ry : RelV y u)
    (k : ∀ dx s', H dx = none → Inv X pins σ (upd (upd H dx (.xd [(f, y)])) a (exo b C a (some dx))) s' → Q () s') : wpAny (model X.prog X.w) A (setAttr (.ref a) f u) Q E s := by
  obtain ⟨cd, CH, xc, hh, hm⟩ := c.cls
  obtain ⟨fs, sl, a0, z, ha, hf⟩ := exo_get I.hok e
  obtain ⟨h, g, d, t, os⟩ := s
  refine set_exc xc hm hh I.kIn z c.sa c.no fun m hn he hk => k h.objs.size _ (I.hok.fresh (Nat.le_refl _)) ?_
  have fr : H h.objs.size = none := I.hok.fresh (Nat.le_refl _)
  have ne : a ≠ h.objs.size := fun q => by rw [q, fr] at e; cases e
  have nD : ∀ c o, h.get? c = some o → c ≠ h.objs.size := fun c o q => Nat.ne_of_lt (Heap.lt_size q)
  have up : ∀ c, c ≠ a → c ≠ h.objs.size → upd (upd H h.objs.size (.xd [(f, y)])) a (exo b C a (some h.objs.size)) c = H c := fun c h1 h2 => by rw [upd_ne h1, upd_ne h2]
  have na : ∀ c v, H c = some v → v ≠ exo b C a none → c ≠ a := fun c v q n z => n (by rw [z, e] at q; exact (Option.some.inj q).symm)
  have nd : ∀ c v, H c = some v → c ≠ h.objs.size := fun c v q z => by rw [z, fr] at q; cases q
  have nn : ∀ c, H c = none → c ≠ a := fun c n z => by rw [z, e] at n; cases n
  refine I.un (t' := t + 2) ⟨fun c o q n _ _ => ?_, fun c o q n _ _ => ?_, fun c o q n _ => ?_, fun c o q _ => ?_, fun c xs q => ?_, fun c o v q => ?_, fun c ps q => ?_⟩ fun c o q => ?_
  · exact hk c o (nn c n) q
  · exact ⟨o.slots, hk c o (nn c n) q⟩
  · rw [up c (nn c n) (nD c o q)]; exact n
  · by_cases z : c = a
    · rw [z]; exact ⟨_, he⟩
    · exact ⟨_, hk c o z q⟩
  · rw [up c (na c _ q fun z => nomatch z) (nd c _ q)]; exact q
  · rw [up c (na c _ q fun z => nomatch z) (nd c _ q)]; exact q
  · exact ⟨#[], by rw [up c (na c _ q fun z => nomatch z) (nd c _ q), q]; simp⟩
  · by_cases za : c = a
    · subst za
      rw [upd_same] at q
      cases q
      exact exo_ok ⟨fs, sl, a0, he, ha, hf⟩
    · rw [upd_ne za] at q
      by_cases zd : c = h.objs.size
      · rw [zd] at q ⊢
        rw [upd_same] at q
        cases q
        refine ⟨_, hn, fun g => ?_⟩
        show RelO (List.lookup g [(f, y)]) (if g = f then some u else none)
        by_cases hg : g = f
        · have hb : (g == f) = true := beq_iff_eq.mpr hg
          simp only [List.lookup, hb, if_pos hg]
          exact ry
        · have hb : (g == f) = false := beq_eq_false_iff_ne.mpr hg
          simp only [List.lookup, hb, if_neg hg]
          trivial
      · rw [upd_ne zd] at q
        refine (I.hok c o q).stay (fun r v hr w => hk r v (fun z => ?_) w) (fun r w => ?_) fun r xs w => ?_
        · rcases hr with rfl | hr
          · exact za z
          · rw [z, e] at hr; cases hr
        · rw [up r (na r _ w fun z => nomatch z) (nd r _ w)]; exact w
        · rw [up r (na r _ w fun z => nomatch z) (nd r _ w)]; exact w
variable {o e value : Expr} {f : Str} {pos pos' : Pos} {ta tv : TE}
def sFldX (K : PySem.W.Frag) (ta tv : TE) (f : Str) : TS := fun D σ H => tv σ H fun y H1 => ta σ H1 fun x H2 => ∃ b a C, x = .ref a ∧ H2 a = some (exo b C a none) ∧ XSet K C f ∧ ∀ dx, H2 dx = none → D.nx σ (upd (upd H2 dx (.xd [(f, y)])) a (exo b C a (some dx)))
theorem ps_fldX (ha : PE X o ta) (hv : PE X value tv) (hs : swapsWith value (some (.Attribute o f pos')) pos.line X.env = pure false) : PS X (.Assign [.Attribute o f pos'] value pos) (sFldX X.K ta tv f) := by
  intro pins s σ H D I h
  refine plainObj_wpAny_Assign_Attribute (thn (hv pins s σ H _ I h) fun u s1 ⟨y, H1, I1, ry, q⟩ => thn (ha pins s1 σ H1 _ I1 q) fun ov s2 ⟨x, H2, I2, rx, b, a, C, ex, ea, c, q2⟩ => ?_) hs
  subst ex
  obtain rfl : ov = Value.ref a := rx
  exact setx_ok I2 ea c ry fun dx s3 hd I3 => ⟨σ, _, I3, q2 dx hd⟩
def tFldX (K : PySem.W.Frag) (ta : TE) (f : Str) : TE := fun σ H Q => ta σ H fun x H1 => ∃ b a C dx fs v, x = .ref a ∧ H1 a = some (exo b C a (some dx)) ∧ H1 dx = some (.xd fs) ∧ XSet K C f ∧ fs.lookup f = some v ∧ Q v H1
theorem pe_fldX (he : PE X e ta) (hb : attributeBase e f X.env (eval e X.env) = eval e X.env) : PE X (.Attribute e f pos) (tFldX X.K ta f) := by
  intro pins s σ H Q I h
  refine attr_of hb (thn (he pins s σ H _ I h) fun u s1 ⟨x, H1, I1, rx, b, a, C, dx, fs, v, ex, ea, ed, c, l, q⟩ => ?_)
  subst ex
  obtain rfl : u = Value.ref a := rx
  obtain ⟨cd, CH, xc, hh, hm⟩ := c.cls
  obtain ⟨gs, sl, a0, z, ha, hf⟩ := exo_get I1.hok ea
  obtain ⟨mA, n, r⟩ := (show ObjOk X.prog X.w H1 s1.heap dx (.xd fs) from I1.hok dx _ ed)
  obtain ⟨u, hu, ru⟩ := RelO.some_of (v := v) (o := mA f) (by rw [← l]; exact r f)
  obtain ⟨hh2, g, d, t, os⟩ := s1
  exact get_exc xc c.get hh I1.kIn z n c.no hu (handed_of ru) ⟨v, H1, I1.tok _, ru, q⟩

/-! ### C.f(..): a def of a class, called by the class's name -/
structure ClsFn (K : PySem.W.Frag) (C : Addr) (m : Str) (f : Addr) : Prop where
  rd : PySem.W.readsIn K C (.type "type") = true
  fc : PySem.W.findCls K (.ref C) (.type "type") m = some (.val (.ref f))
  ga : PySem.W.specialIn K (.ref C) "__getattribute__" = some (some (.builtin "type.__getattribute__"))
  kp : PySem.W.keepIn K (.ref f) = true
theorem xe_cls {CX : CXT} {k : Nat} {f C : Addr} {fd : FuncData} {ps : List Str} {sp : Sp} {EK : St → XK} {x m : Str} {p apos pos : Pos} {e : Expr} {es : List Expr} {t : TA} {pl : Sem Bool} (hg : Gl X x) (hm : X.mg x = some (.ref C)) (c : ClsFn X.K C m f) (F : FnOk X.prog X.w X.K X.mg X.base CX k f fd ps sp) (hr : Room k X.A) (hb : Binds X.K fd ps [])
    (hx : PassesX CX X EK) (ha : PA X (e :: es) t) (hdb : (x == ("__debug__" : Str)) = false := by decide) (hst : starEach (e :: es) X.env = (false, eval e X.env) :: starEach es X.env := by rfl) (hpl : (backTo pos (starEach es X.env)).any (·.1) = false := by rfl)
    (ht : eval (.Call (.Attribute (.Name x p) m apos) (e :: es) [] pos) X.env = (do
      let ov ← eval (.Name x p) X.env
      standAt apos.atName
      let (f, first) ← holding [ov] (getMethod ov m pl)
      callWith pos f first (backTo pos (starEach (e :: es) X.env)) (backToKw pos (keywordEach [] X.env))) := by rfl) :
    PE X (.Call (.Attribute (.Name x p) m apos) (e :: es) [] pos) (xCall sp [] EK t) := by
  intro pins s σ H Q I h
  refine PySem.W.methodCall_KW (pl := pl) (ld_glob I hg hm ?_ hdb) ht
  refine PySem.W.method_cls I.kIn c.ga (PySem.W.cls_value I.kIn c.rd c.fc rfl ?_)
  exact PySem.W.callWith_K (first := []) (h₀ := X.base) I.ok.mod.kin c.kp (thn (ha pos pins _ σ H _ (I.tok _) h) fun us s1 ⟨vs, H1, I1, r, q⟩ => ⟨I1.kIn, xrun F hr hb .nil hx I1 r q⟩) hst hpl

/-! ### e.m() of an exception, whichever its class -/
/-- of each class C the method m, with the promise sp C -/
structure MethD (P : Program) (w : World) (K : PySem.W.Frag) (mg : Str → Option Value) (base : Heap) (CX : CXT) (k : Nat) (m : Str) (C : Addr) (sp : Sp) : Prop where
  ex : ∃ f fd ps, Meth K C m f ∧ FnOk P w K mg base CX k f fd ps sp ∧ Binds K fd ps []
def xMethD (P : Program) (w : World) (K : PySem.W.Frag) (mg : Str → Option Value) (base : Heap) (CX : CXT) (k : Nat) (m : Str) (EK : St → XK) (ta : TE) : TE := fun σ H Q => ta σ H fun x H1 => ∃ b a C od sp, x = .ref a ∧ H1 a = some (exo b C a od) ∧ (od = none ∨ ∃ dx fs, od = some dx ∧ H1 dx = some (.xd fs) ∧ fs.lookup m = none) ∧ XGet K C ∧
  MethD P w K mg base CX k m C sp ∧ sp [x] H1 Q (EK σ)
theorem xe_methD {CX : CXT} {k : Nat} {EK : St → XK} {m : Str} {pos apos : Pos} {pl : Sem Bool} (he : PE X o ta) (hr : Room k X.A) (hx : PassesX CX X EK)
    (ht : eval (.Call (.Attribute o m apos) [] [] pos) X.env = (do
      let ov ← eval o X.env
      standAt apos.atName
      let (f, first) ← holding [ov] (getMethod ov m pl)
      callWith pos f first (backTo pos (starEach [] X.env)) (backToKw pos (keywordEach [] X.env))) := by rfl) :
    PE X (.Call (.Attribute o m apos) [] [] pos) (xMethD X.prog X.w X.K X.mg X.base CX k m EK ta) := by
  intro pins s σ H Q I h
  refine PySem.W.methodCall_KW (pl := pl) (thn (he pins s σ H _ I h) fun u s1 ⟨x, H1, I1, rx, b, a, C, od, sp, ex, ea, hd, g, md, q⟩ => ?_) ht
  subst ex
  obtain rfl : u = Value.ref a := rx
  obtain ⟨f, fd, ps, mt, F, hb⟩ := md.ex
  obtain ⟨fs, sl, a0, z, _⟩ := exo_get I1.hok ea
  have fin : wpAny (model X.prog X.w) X.A (callWith pos (.ref f) [.ref a] (backTo pos (starEach [] X.env)) (backToKw pos (keywordEach [] X.env))) (EP X pins σ Q) X.xe s1 :=
    PySem.W.callWith_K0 (first := [.ref a]) I1.kIn mt.kp (xrun (us := [.ref a]) (vs := [.ref a]) (dvs := []) (ds := []) F hr hb .nil hx I1 (.cons rfl .nil) q)
  rcases hd with rfl | ⟨dx, gs, rfl, ed, l⟩
  · exact meth_exc I1.kIn (inst_none z) g.ga g.gt mt.at_ (beq_iff_eq.mp mt.fn) rfl fin
  · obtain ⟨mA, n, r⟩ := (show ObjOk X.prog X.w H1 s1.heap dx (.xd gs) from I1.hok dx _ ed)
    obtain ⟨od, ho, hl⟩ := lookIn_ns n
    have hn : mA m = none := RelO.none_of (by rw [← l]; exact r m)
    exact meth_exc I1.kIn (inst_some z ho) g.ga g.gt mt.at_ (beq_iff_eq.mp mt.fn) (by show (PySem.W.lookIn m od).map (·.isSome) = some false; rw [hl, hn]; rfl) fin

/-! ### a short text times a small number: some text -/
end
end L2
end
section
set_option Elab.async false
set_option linter.all false
set_option maxRecDepth 100000
set_option maxHeartbeats 4000000
namespace L2
open PySem PySem.Spec PyProof.Rows LX
/-! ### a list comprehension of one clause, its target a name, no test; nothing leaves it -/
theorem compLoop_any {prog : Program} {w : World} {A : Around} {R : Result → Shared → Prop} {s : Shared} {elt target iter : Expr} {scope : Scope} {pos : Pos} {it acc : Value} {env : Env} (I : Nat → Shared → Prop)
    (turn : ∀ n s, I n s → wpAny (model prog w) A (pyNext it) (fun r s₁ => match r with
      | none => R (.ok .next) s₁
      | some v => wpAny (model prog w) A (letOwnedTupleGo target it v) (fun _ s5 => wpAny (model prog w) A (assign target env v) (fun _ s₂ => wpAny (model prog w) A (eval elt env) (fun x s₃ =>
          wpAny (model prog w) A (call (.builtin "list.append") [acc, x]) (fun _ s₄ => ∃ m, m < n ∧ I m s₄) (notedBy (model prog w) A env fun e s' => R (.error e) s') s₃)
          (notedBy (model prog w) A env fun e s' => R (.error e) s') s₂) (notedBy (model prog w) A env fun e s' => R (.error e) s') s5) (notedBy (model prog w) A env fun e s' => R (.error e) s') s₁) (notedBy (model prog w) A env fun e s' => R (.error e) s') s)
    (n : Nat) (h : I n s) : codeAny (model prog w) A (.compLoop (.ListComp elt [⟨target, iter, [], 0⟩] scope pos) 0 it acc env) R s := by
  refine codeAny_loop rfl I (fun n s hI => ?_) n h
  show wpAny _ _ ((compTurn (.ListComp elt [⟨target, iter, [], 0⟩] scope pos) 0 it acc env).onRaise (fun x => do noteFrame x env; theTreesLotGoes x)) _ _ s
  refine wpAny_noted ?_
  rw [compTurn_list1]
  refine wpAny_bind (wpAny_standAt (wpAny_bind (wpAny_mono (turn n s hI) (fun r s₁ h₁ => ?_) fun _ _ h' => h')))
  cases r with
  | none => exact wpAny_pure h₁
  | some v =>
    refine wpAny_bind (wpAny_mono h₁ (fun _ s5 h5 => ?_) fun _ _ h' => h')
    exact wpAny_bind (wpAny_mono h5 (fun _ s₂ h₂ => wpAny_bind (wpAny_bind (wpAny_mono h₂ (fun x s₃ h₃ => wpAny_bind (wpAny_mono h₃
      (fun _ s₄ h₄ => wpAny_pure (wpAny_pure ⟨rfl, h₄⟩)) fun _ _ h' => h')) fun _ _ h' => h'))) fun _ _ h' => h')

/-- the block's context -/
abbrev cxC (X : Cx) (scope : Scope) (cl : List (Str × Addr)) (NC : List Str) (C : Addr) (fp : List Addr) (s₀ : Shared) (H₀ : Hp) : Cx :=
  { X with N := NC, s₀ := s₀, H₀ := H₀, env := compEnvC scope cl C X.env, outer := X.stack, ex := fp, fn := fun _ => false, pn := [], xe := fun _ _ => False }
def caps (σ : St) (idx : List Nat) : St := idx.map fun i => (σ[i]?).getD none
/-- what the block's scope has: its own name, and those of the def that it reads -/
structure CompOk (X : Cx) (scope : Scope) (cl : List (Str × Addr)) (x : Str) (idx : List Nat) (NC : List Str) : Prop where
  clos : closureFor scope X.env = pure cl
  sub : ∀ y c, cl.lookup y = some c → X.env.cells.lookup y = some c
  has : ∀ y, ((relabel scope X.env).names.lookup y = some .cell ∨ (relabel scope X.env).names.lookup y = some .free) → ∃ c, cl.lookup y = some c
  nocell : ∀ y ∈ scope.names, y.2 ≠ .cell
  kind : scope.kind = .function
  loc : ∀ y ∈ scope.names, y.2 = .local → scope.names.lookup y.1 = some .local
  xl : scope.names.lookup x = some .local
  nc : NC = x :: idx.map fun i => X.N.getD i x
  nd : NC.Nodup
  cap : ∀ i ∈ idx, i < X.N.length ∧ ((X.env.scope.names.lookup (X.N.getD i x) = some .cell ∨ X.env.scope.names.lookup (X.N.getD i x) = some .free) ∧ ((relabel scope X.env).names.lookup (X.N.getD i x) = some .cell ∨ (relabel scope X.env).names.lookup (X.N.getD i x) = some .free))
section
variable {X : Cx} {scope : Scope} {cl : List (Str × Addr)} {x : Str} {idx : List Nat} {NC : List Str} {C : Addr} {fp : List Addr} {pins : List (Addr × Obj)} {σ : St} {H : Hp} {s : Shared}
theorem inv_comp {h1 : Heap} {t' : Nat} (c : CompOk X scope cl x idx NC) (I : Inv X pins σ H s) (hf : ∀ b ∈ fp, FpOk X pins H b) (hlt : ∀ b ∈ fp, b < s.heap.objs.size) (ns : h1.Ns s.heap.objs.size (fun _ => none))
    (k : ∀ b o, s.heap.get? b = some o → h1.get? b = some o) : Inv (cxC X scope cl NC s.heap.objs.size fp s H) [] (none :: caps σ idx) H { s with heap := h1, toks := t' } := by
  have sub : ∀ b, b ∈ frs X.stack → b ∈ X.env.locals :: X.fs := I.stkSub
  refine ⟨⟨I.ok.mod, c.kind, I.ok.glob, I.ok.blt, Nat.le_refl _, fun y z a h1 h2 => I.ok.inj y z a (c.sub _ _ h1) (c.sub _ _ h2), c.has, fun y a z => (by cases z), I.ok.hd, I.ok.frames, .inl rfl, fun b hb => ⟨Nat.ne_of_lt (hlt b hb), fun y a q => (hf b hb).2.2.2.2.1 y a (c.sub _ _ q)⟩,
    fun b o q => I.bs b o q, Nat.le_trans I.ok.bsz I.sz, fun b o q hb => ?_, fun b hb z => ?_, I.stack, I.stkFree⟩, rfl, I.bare, Un.kept k, ⟨_, ns, fun i y v e1 e2 e3 => ?_⟩, fun y a q => ?_, I.hok.fresh (Nat.le_refl _), fun y a q => I.freeC _ _ (c.sub _ _ q), fun p hp => (by cases hp), I.hok.keeps fun b u o _ q => k b o q, ?_⟩
  · rcases (hf b hb).2.2.2.1 with z | z
    · exact I.ok.noex b o q z
    · exact absurd (Nat.lt_of_lt_of_le (Heap.lt_size (I.ok.bs b o q).1) z) (Nat.lt_irrefl _)
  · rcases List.mem_cons.mp (sub b z) with r | r
    · exact (hf b hb).2.1 r
    · exact (hf b hb).2.2.1 r
  · cases i with
    | zero => cases e2
    | succ j =>
      have e1' : (idx.map fun i => X.N.getD i x)[j]? = some y := by
        have : (cxC X scope cl NC s.heap.objs.size fp s H).N = NC := rfl
        rw [this, c.nc] at e1
        exact e1
      have e2' : (caps σ idx)[j]? = some (some v) := e2
      rw [List.getElem?_map] at e1'
      unfold caps at e2'
      rw [List.getElem?_map] at e2'
      cases ei : idx[j]? with
      | none => rw [ei] at e1'; cases e1'
      | some i =>
        rw [ei] at e1' e2'
        simp only [Option.map_some, Option.some.injEq] at e1' e2'
        obtain ⟨hi, h2, h3⟩ := c.cap i (List.mem_of_getElem? ei)
        rw [e1'] at h2 h3
        have hN : X.N[i]? = some y := by
          rw [← e1']
          simp [List.getD, List.getElem?_eq_getElem hi]
        have hσ : σ[i]? = some (some v) := by
          cases q : σ[i]? with
          | none => rw [q] at e2'; cases e2'
          | some o => rw [q] at e2'; simp only [Option.getD_some] at e2'; rw [e2']
        obtain ⟨m, hn, hl⟩ := I.loc
        obtain ⟨u, r, l⟩ := hl i y v hN hσ (h2.elim (fun z => .inr (.inl z)) fun z => .inr (.inr z))
        refine ⟨u, r, .inr ⟨h3, ?_⟩⟩
        rcases l with ⟨l, _⟩ | ⟨_, a, ha, hc⟩
        · exfalso
          have l' : X.env.scope.names.lookup y = some .local := l
          rcases h2 with z | z <;> (rw [l'] at z; cases z)
        · obtain ⟨a', ha'⟩ := c.has y h3
          have := c.sub _ _ ha'
          rw [ha] at this
          cases this
          exact ⟨a, ha', hc.keeps k⟩
  · obtain ⟨v, z⟩ := I.cell _ _ (c.sub _ _ q)
    exact ⟨v, z.keeps k⟩
  · show _ = NC.length
    rw [c.nc]
    simp [caps]
/-- the list at D grows by an item a turn -/
def CompTo (J : It) (D : Addr) (τ : St) (te : TE) (Q : VK) (H : Hp) : Prop := ∃ W : Nat → Nat → List V → Hp → Prop, (∃ m, W 0 m [] H) ∧ ∀ i m ys H2, W i m ys H2 → H2 D = some (.lst ys) ∧
  ((J.stop i H2 ∧ Q (.ref D) H2) ∨ (J.go i H2 ∧ ys.length < sizeLine ∧ ∃ N : List V → Hp → Prop, (∀ zs H', N zs H' → ∃ m', m' < m ∧ W (i + 1) m' zs H') ∧ ∀ y H3, J.yld i H2 y H3 → te (some y :: τ) H3 fun v H4 => H4 D = some (.lst ys) ∧ N (ys ++ [v]) (upd H4 D (.lst (ys ++ [v])))))
def tComp (wi : TI) (idx : List Nat) (te : TE) : TE := fun σ H Q => wi σ H fun J H1 => ∀ D, H1 D = none → CompTo J D (caps σ idx) te Q (upd H1 D (.lst []))
theorem appended {X : Cx} {pins : List (Addr × Obj)} {σ : St} {H : Hp} {s : Shared} {D : Addr} {ys : List V} {v : V} {u : Value} (I : Inv X pins σ H s) (h : H D = some (.lst ys)) (hz : ys.length < sizeLine) (r : RelV v u) :
    wpAny (model X.prog X.w) X.A (call (.builtin "list.append") [.ref D, u]) (fun _ s' => Inv X pins σ (upd H D (.lst (ys ++ [v]))) s') X.xe s := by
  refine thn (mt_append pins s σ H (.ref D) [v] (.ref D) [u] (fun _ H' => H' = upd H D (.lst (ys ++ [v]))) I rfl (.cons r .nil) ⟨D, ys, v, rfl, rfl, h, hz, rfl⟩) fun w s' ⟨_, H', I', _, e⟩ => ?_
  rw [← e]
  exact I'
theorem pe_comp {elt iter : Expr} {px pos : Pos} {wi : TI} {te : TE} (c : CompOk X scope cl x idx NC) (hc : X.calm = true) (hi : PI X (.Name x px) iter wi) (he : ∀ C fp s₀ H₀, PE (cxC X scope cl NC C fp s₀ H₀) elt te)
    (hs : ∀ x, foldedSetIterable iter X.env x = pure x := by intro _; rfl) : PE X (.ListComp elt [⟨.Name x px, iter, [], 0⟩] scope pos) (tComp wi idx te) := by
  intro pins s σ H Q I h
  rw [eval_ListComp]
  refine wpAny_comprehension_free (use := none) rfl hs c.clos c.kind c.loc (thn (hi pins s σ H _ I h) fun v s1 h1 => thn h1 fun itv s2 h2 => ?_)
  obtain ⟨it, fp, tn, J, H2, rfl, I2, T, st2, f2, q⟩ := h2
  refine wpAny_newObj_type (wpAny_newFunctionEnv c.nocell (by intro y hy; simp at hy) (fun h₁ hns₁ hsb₁ => ?_) c.kind)
  dsimp only at hns₁ hsb₁ ⊢
  have I3 : Inv X pins σ (upd H2 s2.heap.objs.size (.lst [])) { s2 with heap := s2.heap.push { cls := .type "list", data := .seq ([] : List Value).toArray }, toks := s2.toks } := I2.lnew (ys := []) (its := []) .nil (Nat.zero_le _)
  obtain ⟨W, ⟨m0, w0⟩, turn⟩ := q s2.heap.objs.size I2.fresh
  generalize hD : s2.heap.objs.size = D at *
  generalize hH : s2.heap.push { cls := .type "list", data := .seq ([] : List Value).toArray } = h3 at *
  have hlt2 : ∀ b ∈ fp, b < D := fun b hb => by
    obtain ⟨o, e, _⟩ := T.obj _ _ st2 b hb
    rw [← hD]
    exact Heap.lt_size e
  have hlt : ∀ b ∈ fp, b < h3.objs.size := fun b hb => by
    rw [← hH, Heap.size_push, hD]
    exact Nat.lt_succ_of_lt (hlt2 b hb)
  have hf : ∀ b ∈ fp, FpOk X pins (upd H2 D (.lst [])) b := fun b hb => ⟨by rw [upd_ne (Nat.ne_of_lt (hlt2 b hb))]; exact (f2 b hb).1, (f2 b hb).2⟩
  have kp : ∀ b o, h3.get? b = some o → h₁.get? b = some o := fun b o e => hsb₁.extBut b o (Nat.ne_of_lt (Heap.lt_size e)) (Heap.get?_push_of_some _ e)
  have I4 : Inv (cxC X scope cl NC h3.objs.size fp { s2 with heap := h3, toks := s2.toks } (upd H2 D (.lst []))) [] (none :: caps σ idx) (upd H2 D (.lst [])) { s2 with heap := h₁, toks := s2.toks + ([] : List (Str × Value)).length } :=
    inv_comp (s := { s2 with heap := h3, toks := s2.toks }) c I3 hf hlt hns₁ kp
  have stat : ∀ {H' : Hp}, (∀ b ∈ fp, H' b = none) → ∀ b ∈ fp, FpOk (cxC X scope cl NC h3.objs.size fp { s2 with heap := h3, toks := s2.toks } (upd H2 D (.lst []))) [] H' b := fun hn b hb =>
    ⟨hn b hb, Nat.ne_of_lt (hlt b hb), fun z => (List.mem_cons.mp (I3.stkSub b z)).elim (hf b hb).2.1 (hf b hb).2.2.1, .inl hb, fun y a q => (hf b hb).2.2.2.2.1 y a (c.sub _ _ q), fun p hp => (by cases hp)⟩
  have st1 : tn 0 h₁ := T.keep 0 _ _ st2 fun b hb o e => kp b o (by rw [← hH]; exact Heap.get?_push_of_some _ e)
  have loop : ∀ s4 : Shared, s4 = { s2 with heap := h₁, toks := s2.toks + ([] : List (Str × Value)).length } →
      codeAny (model X.prog X.w) X.A (.compLoop (.ListComp elt [⟨.Name x px, iter, [], 0⟩] scope pos) 0 (.ref it) (.ref D) (compEnvC scope cl h3.objs.size X.env)) (compPost (model X.prog X.w) X.A X.xe none (EP X pins σ Q) (.ref D) h3.objs.size) s4 := by
    rintro s4 rfl
    refine compLoop_any (fun n s' => ∃ i ys H' v0, Inv (cxC X scope cl NC h3.objs.size fp { s2 with heap := h3, toks := s2.toks } (upd H2 D (.lst []))) [] (v0 :: caps σ idx) H' s' ∧ tn i s'.heap ∧ (∀ b ∈ fp, H' b = none) ∧ W i n ys H')
      ?_ m0 ⟨0, [], _, none, I4, st1, fun b hb => (hf b hb).1, w0⟩
    rintro n s5 ⟨i, ys, H5, v0, I5, st5, fr5, w5⟩
    obtain ⟨hDl, alt⟩ := turn i n ys H5 w5
    rcases alt with ⟨stop, qn⟩ | ⟨go, hz, N, hN, step⟩
    · refine thn (T.done (cxC X scope cl NC h3.objs.size fp { s2 with heap := h3, toks := s2.toks } (upd H2 D (.lst []))) rfl rfl rfl hc i [] s5 _ H5 _ I5 (stat fr5) st5 stop) fun r s6 ⟨hr, I6⟩ => ?_
      subst hr
      obtain ⟨m, ns6, _⟩ := id I6.loc
      refine ⟨m, ns6, fun h' hs' => ⟨.ref D, H5, ?_, rfl, qn⟩⟩
      have J6 : Inv X pins σ H5 s6 := I3.call' (ch := fp) I6.os I6.base I6.hok I6.bare fun b hb => ⟨(hf b hb).2.2.2.1, (hf b hb).2.1, (hf b hb).2.2.2.2.1, (hf b hb).2.2.2.2.2⟩
      refine J6.turned (t' := s6.toks) (it := h3.objs.size) (fun b o hb e => hs'.extBut b o hb e) I6.free (Nat.ne_of_gt I3.lt) (.inr I3.sz) (fun y a q z => ?_) (fun p hp z => ?_)
      · obtain ⟨v, q'⟩ := I3.cell y a q
        exact absurd q'.lt (by rw [z]; exact Nat.lt_irrefl _)
      · exact absurd (Heap.lt_size (I3.pin p hp).1) (by rw [z]; exact Nat.lt_irrefl _)
    · refine thn (T.item (cxC X scope cl NC h3.objs.size fp { s2 with heap := h3, toks := s2.toks } (upd H2 D (.lst []))) rfl rfl rfl hc i [] s5 _ H5 _ I5 (stat fr5) st5 go) fun r s6 ⟨u, hr, h6⟩ => ?_
      subst hr
      refine thn h6 fun _ s7 ⟨y, H7, I7, r7, y7, st7, fr7⟩ => ?_
      have I7' := I7.pinned (stat fr7) (T.obj _ _ st7)
      have hnl : (relabel scope X.env).names.lookup x = some .local := lookup_relabel_local c.xl
      refine wpAny_mono (pg_name (X := cxC X scope cl NC h3.objs.size fp { s2 with heap := h3, toks := s2.toks } (upd H2 D (.lst []))) (i := 0) (x := x) (pos := px) c.nd (by show NC[0]? = some x; rw [c.nc]; rfl) (.inl hnl) (.inr hnl) _ s7 _ H7 y u
        (fun σ' H' => σ' = some y :: caps σ idx ∧ H' = H7) I7' r7 ⟨rfl, rfl⟩) (fun _ s8 ⟨σ8, H8, I8, e8, e8'⟩ => ?_) fun _ _ z => z.elim
      subst e8 e8'
      refine wpAny_mono (he _ _ _ _ _ s8 _ H8 _ I8 (step y H8 y7)) (fun w s9 ⟨v, H9, I9, r9, hD9, n9⟩ => ?_) fun _ _ z => z.elim
      obtain ⟨m', hm, w9⟩ := hN _ _ n9
      refine wpAny_mono (appended (X := (cxC X scope cl NC h3.objs.size fp { s2 with heap := h3, toks := s2.toks } (upd H2 D (.lst [])))) I9 hD9 hz r9) (fun _ s10 I10 => ?_) fun _ _ z => z.elim
      refine ⟨m', hm, i + 1, ys ++ [v], _, some y, I10.unpinned, T.keep _ _ _ st7 fun b hb o e => (I10.pin (b, o) (List.mem_append_right _ (List.mem_append_right _ (mem_pinsAt hb e)))).1, fun b hb => ?_, w9⟩
      obtain ⟨o, e, d⟩ := T.obj _ _ st7 b hb
      exact (I10.pin (b, o) (List.mem_append_right _ (List.mem_append_right _ (mem_pinsAt hb e)))).2.1
  exact codeAny_compStart_list (loop _ rfl) (T.self _ 0 _ _ _ st1 (loop _ rfl))
end
end L2
end
section
set_option Elab.async false
set_option linter.all false
set_option maxRecDepth 100000
set_option maxHeartbeats 4000000
namespace L2
open PySem PySem.Spec PyProof.Rows LX
section
variable {X : Cx}
/-! ### all of a list of bools -/
theorem bools_of : ∀ {bs : List Bool} {us : List Value}, Vals (bs.map V.bl) us → us = bs.map Value.bool
  | [], _, .nil => rfl
  | b :: r, _, .cons h t => by
    cases h
    rw [bools_of t]
    rfl
def rAll (K : PySem.W.Frag) : List V → Hp → VK → Prop := fun vs H Q => ∃ (p : Addr) (bs : List Bool), vs = [.ref p] ∧ SqL K H p (bs.map V.bl) ∧ Q (.bl (bs.all id)) H
theorem call_all (hc : X.calm = true) : CallR X (.builtin "all") (rAll X.K) := by
  rintro pins s σ H xs us Q I r ⟨p, bs, rfl, hq, q⟩
  obtain ⟨u, rfl, ru⟩ := r.one
  cases (show u = Value.ref p from ru)
  obtain ⟨its, rv, ⟨o, n, e1, e2, e3, e4⟩, hz⟩ := I.list hq
  have e := bools_of rv
  have hl : s.heap.IsList p (bs.map Value.bool).toArray := by
    rw [← e]
    exact ⟨o, e1, e2, n, e4⟩
  have hlt : p < s.heap.objs.size := Heap.lt_size e1
  refine call_all_walk (wpAny_pyIter_list hl ?_)
  refine ⟨s.heap.objs.size, [s.heap.objs.size, p], [s.heap.objs.size], (bs.map Value.bool).toArray.size, _, _, fun i => (bs[i]?).getD true, rfl, Walks.list (A := X.A.in1) (I.ok.hd hc) _ p (Nat.ne_of_lt hlt) _,
    ⟨⟨_, Heap.get?_push_size _ rfl, rfl, rfl⟩, hl.push _⟩, fun i v s' Q' E' hP hQ => ?_, fun h' tk hk => ?_⟩
  · simp only [List.getElem?_toArray, List.getElem?_map] at hP
    cases eb : bs[i]? with
    | none => rw [eb] at hP; cases hP
    | some b =>
      rw [eb] at hP
      cases hP
      simp only [eb, Option.getD_some] at hQ
      exact wpAny_truthy_bool hQ
  · have e : ((List.range (bs.map Value.bool).toArray.size).all fun i => (bs[i]?).getD true) = bs.all id := by
      rw [List.size_toArray, List.length_map]
      exact LSm.range_all bs
    rw [e]
    refine ⟨.bl _, H, I.kept (t' := tk) fun b x q => hk b x (fun hm => ?_) (Heap.get?_push_of_some _ q), rfl, q⟩
    rw [List.mem_singleton.mp hm] at q
    exact Nat.lt_irrefl _ (Heap.lt_size q)
/-! ### a comprehension with one test -/
variable {scope : Scope} {cl : List (Str × Addr)} {x : Str} {idx : List Nat} {NC : List Str} {C : Addr} {fp : List Addr} {pins : List (Addr × Obj)} {σ : St} {H : Hp} {s : Shared}
end
end L2
end
section
set_option Elab.async false
set_option linter.all false
set_option maxRecDepth 100000
set_option maxHeartbeats 4000000
namespace L2
open PySem PySem.Spec PyProof.Rows LX
/-! ### enumerate of a list, unpacked -/
section
variable {X : Cx} {es : List Expr} {x1 : Nat} {tp : Pos}
end
end L2
namespace L2
open PySem
end L2
end
section
set_option Elab.async false
set_option linter.all false
set_option maxRecDepth 100000
set_option maxHeartbeats 4000000
namespace L2
open PySem PySem.Spec PyProof.Rows LX
/-! ### CompOk by what can be looked up -/
def relN (sc : Scope) (names : List (Str × NameKind)) : List (Str × NameKind) := names.map fun (n, k) => if (k == .free && sc.kind == .function && sc.names.lookup n == some .cell) then (n, .cell) else (n, k)
def CompP (sc scope : Scope) (x : Str) (ns N : List Str) (idx : List Nat) : Prop :=
  (∀ y ∈ scope.names, y.2 ≠ .cell) ∧ (∀ y ∈ scope.names, y.2 = .local → scope.names.lookup y.1 = some .local) ∧ scope.names.lookup x = some .local ∧ (∀ p ∈ relN sc scope.names, p.2 = .cell ∨ p.2 = .free → p.1 ∈ ns) ∧ (x :: idx.map fun i => N.getD i x).Nodup ∧
  ∀ i ∈ idx, i < N.length ∧ ((sc.names.lookup (N.getD i x) = some .cell ∨ sc.names.lookup (N.getD i x) = some .free) ∧ ((relN sc scope.names).lookup (N.getD i x) = some .cell ∨ (relN sc scope.names).lookup (N.getD i x) = some .free))
instance (sc scope : Scope) (x : Str) (ns N : List Str) (idx : List Nat) : Decidable (CompP sc scope x ns N idx) := by unfold CompP; infer_instance
theorem some_of_mem {y : Str} : ∀ {cl : List (Str × Addr)}, y ∈ cl.map (·.1) → ∃ c, cl.lookup y = some c
  | [], h => by simp at h
  | (n, c) :: r, h => by
    by_cases e : y = n
    · exact ⟨c, by simp [List.lookup, e]⟩
    · have h' : y ∈ r.map (·.1) := by
        rw [List.map_cons] at h
        rcases List.mem_cons.mp h with z | z
        · exact absurd z e
        · exact z
      obtain ⟨c', q⟩ := some_of_mem h'
      have hb : (y == n) = false := beq_eq_false_iff_ne.mpr e
      exact ⟨c', by simp only [List.lookup, hb]; exact q⟩
theorem comp_ok {X : Cx} {sc scope : Scope} {cl : List (Str × Addr)} {x : Str} {ns N : List Str} {idx : List Nat} (hsc : X.env.scope = sc) (hN : X.N = N) (hk : scope.kind = .function) (p : CompP sc scope x ns N idx) (hn : cl.map (·.1) = ns)
    (hclos : closureFor scope X.env = pure cl) (hsub : ∀ q ∈ cl, X.env.cells.lookup q.1 = some q.2) : CompOk X scope cl x idx (x :: idx.map fun i => N.getD i x) := by
  obtain ⟨p1, p2, p3, p4, p5, p6⟩ := p
  have re : (relabel scope X.env).names = relN sc scope.names := by subst hsc; rfl
  subst hsc hN hn
  refine ⟨hclos, fun y c q => hsub (y, c) (PySem.mem_of_lookup q), fun y h => ?_, p1, hk, p2, p3, rfl, p5, fun i hi => ?_⟩
  · rw [re] at h
    refine some_of_mem ?_
    rcases h with h | h
    · exact p4 (y, .cell) (PySem.mem_of_lookup h) (.inl rfl)
    · exact p4 (y, .free) (PySem.mem_of_lookup h) (.inr rfl)
  · rw [re]
    exact p6 i hi
/-- a call out of which nothing comes -/
theorem passF {P : Program} {w : World} {X : Cx} : PassesX (CXE P w) X (fun _ _ _ _ => False) := fun _ _ _ _ _ _ _ ⟨_, _, _, _, _, _, _, _, _, q⟩ => q.elim
end L2
end
section
set_option Elab.async false
set_option linter.all false
set_option maxRecDepth 100000
set_option maxHeartbeats 4000000
namespace L2
open PySem PySem.Spec PyProof.Rows LX
section
variable {X : Cx} {scope : Scope} {cl : List (Str × Addr)} {x : Str} {idx : List Nat} {NC : List Str} {pins : List (Addr × Obj)} {σ : St} {H : Hp} {s : Shared}
/-! ### name = [comprehension]: the store comes ahead of the going of the block's names -/
/-! ### != of two lists of flat items, as long as one another -/
/-! ### sum of a list of numbers -/
/-! ### isinstance with a tuple of classes -/
theorem cls_of : ∀ {cs : List V} {its : List Value}, Vals cs its → (∀ c ∈ cs, ∃ a, c = .ref a) → its = cs.map clsV
  | [], _, .nil, _ => rfl
  | c :: r, _, .cons h t, hc => by
    obtain ⟨a, rfl⟩ := hc c (List.mem_cons_self ..)
    cases h
    rw [cls_of t fun d hd => hc d (List.mem_cons_of_mem _ hd)]
    rfl
def rIsiTup (K : PySem.W.Frag) : List V → Hp → VK → Prop := fun vs H Q => ∃ (k : Bool) (a C tp : Addr) (od : Option Addr) (cd : ClassData) (cs : List V) (b : Bool), vs = [.ref a, .ref tp] ∧ H a = some (exo k C a od) ∧ (od = none ∨ ∃ dx fs, od = some dx ∧ H dx = some (.xd fs)) ∧ XCls K C cd ∧ XGet K C ∧
  PySem.W.findIn K (.ref C) "__class__" = some (some (.builtin "object.__class__")) ∧ SqT K H tp cs ∧ (∀ c ∈ cs, ∃ a, c = .ref a) ∧ PySem.W.kitAny K (.ref C) (cs.map clsV) = some b ∧ Q (.bl b) H
theorem call_isiTup : CallR X (.builtin "isinstance") (rIsiTup X.K) := by
  rintro pins s σ H xs us Q I r ⟨k, a, C, tp, od, cd, cs, b, rfl, ea, hd, xc, g, hc, ht, hcs, e, q⟩
  obtain ⟨u, v, rfl, ru, rv⟩ := vals2 r
  cases (show v = Value.ref tp from rv)
  cases (show u = Value.ref a from ru)
  obtain ⟨its, rvs, ⟨⟨cls, dd, data, sl⟩, ho, hcl, n, hda⟩, hz⟩ := I.tuple ht
  simp only at hcl hda
  subst hcl hda
  rw [← cls_of rvs hcs] at e
  obtain ⟨ox, o, J⟩ := exo_inst I.hok ea hd
  exact PySem.W.kia_tup (kit_exc xc g hc) I.kIn ⟨ox, o, J⟩ ho e (fun z => nomatch z) fun tk => ⟨.bl b, H, I.tok tk, rfl, q⟩
end
end L2
end
section
set_option Elab.async false
set_option linter.all false
set_option maxRecDepth 100000
set_option maxHeartbeats 4000000
namespace L2
open PySem PySem.Spec PyProof.Rows LX
/-! ### sorted(x) of a list of numbers, of a dict whose keys are numbers -/
section
variable {X : Cx}
end
/-! ### ==, != of things that are the same through and through -/
section
variable {X : Cx}
end
end L2
end
section
set_option Elab.async false
set_option linter.all false
set_option maxRecDepth 100000
set_option maxHeartbeats 4000000
namespace L2
open PySem PySem.Spec PyProof.Rows LX
section
variable {X : Cx} {tg : Expr}
/-! ### range(a, b, c), c a written positive number -/
end
end L2
end
section
set_option Elab.async false
set_option linter.all false
set_option maxRecDepth 100000
set_option maxHeartbeats 4000000
namespace L2
open PySem PySem.Spec PyProof.Rows LX
section
variable {X : Cx} {scope : Scope} {cl : List (Str × Addr)} {x : Str} {idx : List Nat} {NC : List Str} {pins : List (Addr × Obj)} {σ : St} {H : Hp} {s : Shared}
/-! ### name = [comprehension with one test] -/
end
/-! ### a comprehension with a test over a range -/
end L2
end
section
set_option Elab.async false
set_option linter.all false
set_option maxRecDepth 100000
set_option maxHeartbeats 4000000
namespace L2
open PySem PySem.Spec PyProof.Rows LX
/-! ### a set's table: its places rise -/
/-! ### orders -/
end L2
end
section
set_option Elab.async false
set_option linter.all false
set_option maxRecDepth 100000
set_option maxHeartbeats 4000000
namespace L2
open PySem PySem.Spec PyProof.Rows LX
section
variable {P : Program} {w : World} {A : Around} {E : Value → Shared → Prop} {s : Shared} {a : Addr} {S : Int → Bool} {n : Nat}
end
end L2
end
section
set_option Elab.async false
set_option linter.all false
set_option maxRecDepth 100000
set_option maxHeartbeats 4000000
namespace L2
open PySem PySem.Spec PyProof.Rows LX
section
variable {P : Program} {w : World} {A : Around} {R : Result → Shared → Prop} {I : Addr} {fp wr : List Addr} {G : Array GenState → Array GenState → Prop} {n : Nat} {p : Nat → Value → Prop} {St : Nat → Shared → Prop}
end
section
variable {P : Program} {w : World} {A : Around} {E : Value → Shared → Prop} {s : Shared}
end
end L2
end
section
set_option Elab.async false
set_option linter.all false
set_option maxRecDepth 100000
set_option maxHeartbeats 4000000
namespace L2
open PySem PySem.Spec PyProof.Rows LX
/-! ### what the library has of a set's iterator -/
section
variable {P : Program} {w : World} {A : Around} {E : Value → Shared → Prop} {s : Shared} {it a : Addr} {first : Value} {i n ep : Nat}
/-- StopIteration flies -/
theorem stop_flies {α : Type} {Q : α → Shared → Prop} (hh : A.handled = none) (q : ∀ h' e, (∀ b o, s.heap.get? b = some o → h'.get? b = some o) → (∃ o, h'.get? e = some o ∧ o.cls = .type "StopIteration") → E (.ref e) { s with heap := h' }) :
    wpAny (model P w) A (newExc (.type "StopIteration") [] >>= fun e => (raiseNew e : Sem α)) Q E s := by
  refine wpAny_bind ?_
  simp only [newExc, newTuple]
  refine wpAny_bind (wpAny_newObj_type ?_ (by size_fits))
  refine wpAny_bind (m := firstArgMember _ _) (wpAny_of_eq (a := Value.none) (by first | rfl | (simp only [firstArgMember]; rfl)) (wpAny_newObj_type ?_ (by size_fits)))
  simp only [raiseNew]
  refine wpAny_bind (wpAny_handled ?_)
  rw [hh]
  exact wpAny_bind (wpAny_pure (wpAny_throw (q _ _ (fun b o e => Heap.get?_push_of_some _ (Heap.get?_push_of_some _ e)) ⟨_, Heap.get?_push_size _ rfl, rfl⟩)))
end
end L2
end
section
set_option Elab.async false
set_option linter.all false
set_option maxRecDepth 100000
set_option maxHeartbeats 4000000
namespace L2
open PySem PySem.Spec PyProof.Rows LX
section
variable {P : Program} {w : World} {A : Around} {E : Value → Shared → Prop} {s : Shared} {it a : Addr} {first : Value} {i n ep : Nat} {es : Array (Int × Value)} {t : SetTable}
end
section
variable {P : Program} {w : World} {A : Around} {E : Value → Shared → Prop} {s : Shared} {I a : Addr} {ep : Nat} {es : Array (Int × Value)} {t : SetTable} {sl : Nat → Nat} {vs : List Value}
/-! the drawn way: the places lie in a tuple -/
end
end L2
end
section
set_option Elab.async false
set_option linter.all false
set_option maxRecDepth 100000
set_option maxHeartbeats 4000000
namespace L2
open PySem PySem.Spec PyProof.Rows LX PySem.W
section
variable {P : Program} {w : World} {A : Around} {E : Value → Shared → Prop} {s : Shared} {a : Addr} {ep : Nat} {es : Array (Int × Value)} {t : SetTable}
end
end L2
end
section
set_option Elab.async false
set_option linter.all false
set_option maxRecDepth 100000
set_option maxHeartbeats 4000000
namespace L2
open PySem PySem.Spec PyProof.Rows LX PySem.W
section
variable {P : Program} {w : World} {A : Around} {E : Value → Shared → Prop} {s : Shared} {a : Addr} {ep : Nat} {es : Array (Int × Value)} {t : SetTable}
end
end L2
end
section
set_option Elab.async false
set_option linter.all false
set_option maxRecDepth 100000
set_option maxHeartbeats 4000000
namespace L2
open PySem PySem.Spec PyProof.Rows LX PySem.W
/-! ### numbers without doubles -/
/-! ### set(l), sorted(s) -/
section
variable {X : Cx}
end
end L2
end
section
set_option Elab.async false
set_option linter.all false
set_option maxRecDepth 100000
set_option maxHeartbeats 4000000
namespace L2
open PySem PySem.Spec PyProof.Rows LX
section
variable {X : Cx} {pins : List (Addr × Obj)} {σ : St} {H : Hp} {s : Shared} {d : Addr} {kvs : List (Key × V)}
/-! ### a dict that is read only from here on -/
/-! ### for k in d -/
end
section
variable {X : Cx}
/-! ### len(d), sorted(d) -/
end
end L2
end
section
set_option Elab.async false
set_option linter.all false
set_option maxRecDepth 100000
set_option maxHeartbeats 4000000
namespace L2
open PySem PySem.Spec PyProof.Rows LX
/-! ### == of two dicts, of two tuples of a list and a dict -/
section
variable {X : Cx} {pins : List (Addr × Obj)} {σ : St} {H : Hp} {s : Shared}
end
end L2
end
section
set_option Elab.async false
set_option linter.all false
set_option maxRecDepth 100000
set_option maxHeartbeats 4000000
namespace L2
open PySem PySem.Spec PyProof.Rows LX
/-! ### != of two lists of numbers, of any lengths -/
section
variable {X : Cx}
/-! ### l.insert(i, y) -/
/-! ### e[::-1] -/
end
end L2
end
section
set_option Elab.async false
set_option linter.all false
set_option maxRecDepth 100000
set_option maxHeartbeats 4000000
namespace L2
open PySem PySem.Spec PyProof.Rows LX
section
variable {X : Cx}
/-! ### list(d), d a dict whose keys are numbers -/
/-! ### != of two tuples of a list and a dict that are the same -/
end
end L2
end
section
set_option Elab.async false
set_option linter.all false
set_option maxRecDepth 100000
set_option maxHeartbeats 4000000
namespace L2
open PySem PySem.Spec PyProof.Rows LX
section
variable {X : Cx}
/-! ### dict(d) -/
end
/-! ### a comprehension with a test over a dict -/
end L2
end
section
set_option Elab.async false
set_option linter.all false
set_option maxRecDepth 100000
set_option maxHeartbeats 4000000
namespace L2
open PySem PySem.Spec PyProof.Rows LX
section
variable {P : Program} {w : World} {A : Around} {E : Value → Shared → Prop}
end
section
variable {P : Program} {w : World} {A : Around} {R : Result → Shared → Prop} {KK : Type} [DecidableEq KK] {knd : KeyKind P w KK}
end
section
variable {P : Program} {w : World} {A : Around} {E : Value → Shared → Prop} {KK : Type} [DecidableEq KK] {knd : KeyKind P w KK}
end
section
variable {P : Program} {w : World} {A : Around} {E : Value → Shared → Prop}
end
end L2
end
section
set_option Elab.async false
set_option linter.all false
set_option maxRecDepth 100000
set_option maxHeartbeats 4000000
namespace L2
open PySem PySem.Spec PyProof.Rows LX
section
variable {X : Cx}
/-! ### dict([(k, v), ..]) -/
/-! ### list(reversed(l)) -/
/-! ### == of two lists of numbers, of any lengths -/
/-! ### != of two tuples that are the same through and through -/
end
end L2
end
section
set_option Elab.async false
set_option linter.all false
set_option maxRecDepth 100000
set_option maxHeartbeats 4000000
namespace L2
open PySem PySem.Spec PyProof.Rows LX
/-! ### raising out of a loop of the def's own body -/
section
variable {P : Program} {w : World} {K : PySem.W.Frag} {mg : Str → Option Value} {base : Heap} {N : List Str} {qual : Str} {scope : Scope} {f : Addr} {cdv : Value} {A : Around} {outer : List Env} {s₀ : Shared} {H₀ : Hp} {E₀ : XK}
/-- an exception that the def's frame has not been noted at -/
def XO (P : Program) (w : World) (qual : Str) (scope : Scope) (f : Addr) (cdv : Value) (A : Around) (outer : List Env) (s₀ : Shared) (H₀ : Hp) (E₀ : XK) (base : Heap) (e : Value) (s : Shared) : Prop :=
  ∃ (ea : Addr) (c : Value) (od : Option Addr) (fs : Array Value) (sl : Array (Option Value)) (T0 : Option Addr), e = .ref ea ∧ (A.deeper (envOfC qual scope s₀.heap.objs.size f cdv)).frames = some (envOfC qual scope s₀.heap.objs.size f cdv :: outer) ∧ s.heap.FunFrames base (envOfC qual scope s₀.heap.objs.size f cdv :: outer) ∧ s.heap.get? ea = some (excRec c od fs sl) ∧ Trail s.heap ea fs T0 ∧
    ∀ (m : Heap) (T : Addr) (fs' : Array Value), s.heap.objs.size ≤ T → Kept (framesOf (envOfC qual scope s₀.heap.objs.size f cdv :: outer)) (ea :: T0.toList) s.heap m → m.get? ea = some (excRec c od fs' sl) → fs'[0]? = fs[0]? → Trail m ea fs' (some T) → CXE P w outer H₀ s₀ E₀ (.ref ea) { s with heap := m }
/-- one that came back from a loop -/
def XN (P : Program) (w : World) (outer : List Env) (s₀ : Shared) (H₀ : Hp) (E₀ : XK) (L : Addr) (e : Value) (s : Shared) : Prop :=
  ∃ (ea T : Addr) (c oc : Value) (od d : Option Addr) (fs ts : Array Value) (sl sm : Array (Option Value)), e = .ref ea ∧ s.heap.get? ea = some (excRec c od fs sl) ∧ fs[1]? = some (.ref T) ∧ T ≠ ea ∧ s.heap.get? T = some (excRec oc d ts sm) ∧ ts[3]? = some (rawInt L) ∧
    ∀ m : Heap, (∀ b o, b ≠ T → s.heap.get? b = some o → m.get? b = some o) → Trail m ea fs (some T) → m.get? ea = some (excRec c od fs sl) → CXE P w outer H₀ s₀ E₀ (.ref ea) { s with heap := m }
def XR (P : Program) (w : World) (qual : Str) (scope : Scope) (f : Addr) (cdv : Value) (A : Around) (outer : List Env) (s₀ : Shared) (H₀ : Hp) (E₀ : XK) (base : Heap) (e : Value) (s : Shared) : Prop :=
  XO P w qual scope f cdv A outer s₀ H₀ E₀ base e s ∨ XN P w outer s₀ H₀ E₀ s₀.heap.objs.size e s
theorem own_lies {pins : List (Addr × Obj)} {σ : St} {H H' : Hp} {s s' : Shared} {ea C T : Addr} {od : Option Addr} {fs : Array Value} {sl : Array (Option Value)} (I : Inv (cxE P w K mg base N qual scope f cdv A outer s₀ H₀ E₀) pins σ H s)
    (l : Lies P w (cxE P w K mg base N qual scope f cdv A outer s₀ H₀ E₀).stack H H' s ea C T od fs sl s') (hE : E₀ (.ref C) od H') : XO P w qual scope f cdv A outer s₀ H₀ E₀ base (.ref ea) s' := by
  refine ⟨ea, _, _, _, _, _, rfl, I.ok.frames, Lies.frames I l, l.at_, l.trail, fun m T' fs' z1 z2 z3 z4 z5 => ?_⟩
  obtain ⟨un, hok⟩ := l.on (t' := s'.toks) I z2
  have J : Inv (cxE P w K mg base N qual scope f cdv A outer s₀ H₀ E₀) pins σ H' { s' with heap := m } := I.call' l.os un hok l.bare (fun b z => absurd z (by simp))
  have old : ∀ b o, s₀.heap.get? b = some o → ∃ o', s.heap.get? b = some o' := fun b o z => I.base.there b o z (List.not_mem_nil)
  have e0 : s₀.heap.get? ea = none := by
    cases q : s₀.heap.get? ea with
    | none => rfl
    | some o =>
      obtain ⟨o', z⟩ := old ea o q
      rw [l.newE] at z; cases z
  have t0 : s₀.heap.get? T' = none := by
    cases q : s₀.heap.get? T' with
    | none => rfl
    | some o =>
      obtain ⟨o1, y1⟩ := old T' o q
      obtain ⟨o2, y2⟩ := l.un.there T' o1 y1 (by simp)
      exact absurd (Heap.lt_size y2) (Nat.not_lt.mpr z1)
  obtain ⟨a0, ha⟩ := l.args
  exact ⟨ea, C, T', od, fs', sl, H', rfl, ⟨J.os, J.bare, J.base, J.hok, e0, t0, l.freeE, l.hok.fresh z1, z3, ⟨a0, by rw [z4]; exact ha⟩, z5⟩, hE⟩
theorem own_new {pins : List (Addr × Obj)} {σ : St} {H : Hp} {s : Shared} {ea C : Addr} {od : Option Addr} (I : Inv (cxE P w K mg base N qual scope f cdv A outer s₀ H₀ E₀) pins σ H s) (h1 : H ea = some (exo true C ea od)) (h0 : H₀ ea = none)
    (hE : E₀ (.ref C) od (del H ea)) : XO P w qual scope f cdv A outer s₀ H₀ E₀ base (.ref ea) s := by
  obtain ⟨fs, sl, a0, z, ha, hf⟩ := exo_get I.hok h1
  have frz : ∀ b, b ∈ frs (cxE P w K mg base N qual scope f cdv A outer s₀ H₀ E₀).stack → H b = none := I.stkFree
  have e0 : s₀.heap.get? ea = none := by
    cases q : s₀.heap.get? ea with
    | none => rfl
    | some o =>
      have := I.base.free ea o q h0 List.not_mem_nil
      rw [h1] at this; cases this
  refine ⟨ea, _, _, _, _, _, rfl, I.ok.frames, I.stack, z, .none (hf rfl), fun m T' fs' z1 z2 z3 z4 z5 => ?_⟩
  have hd : HOk P w (del H ea) s.heap := I.hok.del (fun y q => by rw [h1] at q; cases q) fun xs q => by rw [h1] at q; cases q
  have hm : HOk P w (del H ea) m := hd.keeps fun b u o q r => by
    obtain ⟨q1, q2⟩ := del_some q
    exact z2.plain b o r (fun hb => by rw [frz b hb] at q1; cases q1) (by simpa using q2)
  have neE : ∀ b o, s₀.heap.get? b = some o → b ≠ ea := fun b o q r => by rw [r, e0] at q; cases q
  have t0 : s₀.heap.get? T' = none := by
    cases q : s₀.heap.get? T' with
    | none => rfl
    | some o =>
      obtain ⟨o2, y2⟩ := I.base.there T' o q List.not_mem_nil
      exact absurd (Heap.lt_size y2) (Nat.not_lt.mpr z1)
  have neL : ∀ b o, s₀.heap.get? b = some o → b ∈ framesOf (cxE P w K mg base N qual scope f cdv A outer s₀ H₀ E₀).stack → b ∈ frs outer := fun b o q hb => by
    rcases List.mem_cons.mp (I.stkSub b hb) with r | r
    · exact absurd (Heap.lt_size q) (by rw [r]; exact Nat.not_lt.mpr I.ok.above)
    · exact r
  have sub : ∀ b, b ∈ frs outer → b ∈ framesOf (cxE P w K mg base N qual scope f cdv A outer s₀ H₀ E₀).stack := fun b hb => by
    obtain ⟨x, hx, hy⟩ := List.mem_filterMap.mp hb
    exact List.mem_filterMap.mpr ⟨x, List.mem_cons_of_mem _ hx, hy⟩
  refine ⟨ea, C, T', od, fs', sl, del H ea, rfl, ⟨I.os, I.bare, ⟨fun b o q n hb hx => ?_, fun b o q n hb hx => ?_, fun b o q n hx => ?_, fun b o q hx => ?_, fun b xs q => ?_, fun b o u q => ?_, fun b ps q => ?_⟩, hm, e0, t0, del_same, ?_, z3, ⟨a0, by rw [z4]; exact ha⟩, z5⟩, hE⟩
  · exact z2.plain b o (I.base.keep b o q n hb hx) (fun z => hb (neL b o q z)) (by simpa using neE b o q)
  · obtain ⟨s1, y1⟩ := I.base.slot b o q n hb hx
    obtain ⟨s2, y2⟩ := z2.frame b _ y1 (sub b hb) (by simpa using neE b o q)
    exact ⟨s2, y2⟩
  · rw [del_ne (neE b o q)]
    exact I.base.free b o q n hx
  · obtain ⟨o1, y1⟩ := I.base.there b o q hx
    by_cases hb : b ∈ framesOf (cxE P w K mg base N qual scope f cdv A outer s₀ H₀ E₀).stack
    · obtain ⟨s2, y2⟩ := z2.frame b _ y1 hb (by simpa using neE b o q)
      exact ⟨_, y2⟩
    · exact ⟨_, z2.plain b _ y1 hb (by simpa using neE b o q)⟩
  · have r := I.base.tups b xs q
    rw [del_ne fun e => by rw [e, h1] at r; cases r]; exact r
  · have r := I.base.frzs b o u q
    rw [del_ne fun e => by rw [e, h1] at r; cases r]; exact r
  · obtain ⟨more, r⟩ := I.base.tbls b ps q
    exact ⟨more, by rw [del_ne fun e => by rw [e, h1] at r; cases r]; exact r⟩
  · by_cases q : T' = ea
    · rw [q]; exact del_same
    · rw [del_ne q]; exact I.hok.fresh z1

theorem XR.xe {e : Value} {s : Shared} (h : XR P w qual scope f cdv A outer s₀ H₀ E₀ base e s) : (cxE P w K mg base N qual scope f cdv A outer s₀ H₀ E₀).xe e s := by
  rcases h with ⟨ea, c, od, fs, sl, T0, rfl, hA, F, he, t, k⟩ | ⟨ea, T, c, oc, od, d, fs, ts, sl, sm, rfl, he, h1, ne, hT, h3, k⟩
  · exact leaves hA F rfl he t k
  · have h3s : 3 < ts.size := (Array.getElem?_eq_some_iff.mp h3).1
    show wpAny _ _ (leaving _ (.ref ea)) _ _ s
    unfold leaving noteFrame
    refine wpAny_bind ?_
    show wpAny _ _ (field (.ref ea) 1 >>= _) _ _ s
    refine wpAny_bind (wpAny_field he rfl h1 ?_)
    rw [if_pos (show (Value.ref T != Value.none) = true by simp)]
    refine wpAny_bind (wpAny_field hT rfl h3 ?_)
    rw [if_pos (by simp)]
    exact wpAny_pure (flight_off he h1 ne hT h3s k)
theorem own_passes : PassesOwn (model P w) (A.deeper (envOfC qual scope s₀.heap.objs.size f cdv)) (envOfC qual scope s₀.heap.objs.size f cdv) (XR P w qual scope f cdv A outer s₀ H₀ E₀ base) := by
  intro e s h
  have came : ∀ {s1 : Shared}, XN P w outer s₀ H₀ E₀ s₀.heap.objs.size e s1 → cameBackBy (model P w) (A.deeper (envOfC qual scope s₀.heap.objs.size f cdv)) (envOfC qual scope s₀.heap.objs.size f cdv) (XR P w qual scope f cdv A outer s₀ H₀ E₀ base) e s1 := by
    rintro s1 ⟨ea, T, c, oc, od, d, fs, ts, sl, sm, rfl, he, h1, ne, hT, h3, k⟩
    have h3s : 3 < ts.size := (Array.getElem?_eq_some_iff.mp h3).1
    unfold cameBackBy setFlight
    refine wpAny_bind (wpAny_field he rfl h1 ?_)
    dsimp only
    rw [if_neg (by simp)]
    refine wpAny_bind (wpAny_field he rfl h1 ?_)
    rw [if_pos (show (Value.ref T != Value.none) = true by simp)]
    refine wpAny_setField hT rfl h3s ?_
    have oth : ∀ b o, b ≠ T → s1.heap.get? b = some o → (s1.heap.update T (Obj.mapFields (·.setIfInBounds 3 (rawInt s₀.heap.objs.size)))).get? b = some o := fun b o hb q => (Heap.get?_update_other _ _ (Ne.symm hb)).trans q
    exact .inr ⟨ea, T, c, oc, od, d, fs, ts.setIfInBounds 3 (rawInt s₀.heap.objs.size), sl, sm, rfl, oth _ _ (Ne.symm ne) he, h1, ne, upd_rec hT, by simp [h3s], fun m q1 q2 q3 => k m (fun b o hb q => q1 b o hb (oth b o hb q)) q2 q3⟩
  rcases h with ⟨ea, c, od, fs, sl, T0, rfl, hA, F, he, t, k⟩ | ⟨ea, T, c, oc, od, d, fs, ts, sl, sm, rfl, he, h1, ne, hT, h3, k⟩
  · refine note_on hA F rfl he t fun m T oc ts z1 z2 z3 z4 z5 => came ?_
    have Te : T ≠ ea := Nat.ne_of_gt (Nat.lt_of_lt_of_le (Heap.lt_size he) z1)
    have f1 : (fs.setIfInBounds 1 (Value.ref T))[1]? = some (.ref T) := by
      have := t.size
      simp [this]
    refine ⟨ea, T, c, oc, od, none, _, ts, sl, #[], rfl, z3, f1, Te, z4, z5, fun m' q1 q2 q3 => k m' T _ z1 ⟨fun b o q hb hx => ?_, fun b o q hb hx => ?_⟩ q3 (by simp) q2⟩
    · exact q1 b o (Nat.ne_of_lt (Nat.lt_of_lt_of_le (Heap.lt_size q) z1)) (z2.plain b o q hb hx)
    · obtain ⟨sm, r⟩ := z2.frame b o q hb hx
      exact ⟨sm, q1 b _ (Nat.ne_of_lt (Nat.lt_of_lt_of_le (Heap.lt_size q) z1)) r⟩
  · have h3s : 3 < ts.size := (Array.getElem?_eq_some_iff.mp h3).1
    show wpAny _ _ (noteFrame (.ref ea) _) _ _ s
    unfold noteFrame
    show wpAny _ _ (field (.ref ea) 1 >>= _) _ _ s
    refine wpAny_bind (wpAny_field he rfl h1 ?_)
    rw [if_pos (show (Value.ref T != Value.none) = true by simp)]
    refine wpAny_bind (wpAny_field hT rfl h3 ?_)
    rw [if_pos (by simp)]
    exact wpAny_pure (came ⟨ea, T, c, oc, od, d, fs, ts, sl, sm, rfl, he, h1, ne, hT, h3, k⟩)
/-- the context in which the def's loops may raise -/
abbrev cxR (P : Program) (w : World) (K : PySem.W.Frag) (mg : Str → Option Value) (base : Heap) (N : List Str) (qual : Str) (scope : Scope) (f : Addr) (cdv : Value) (A : Around) (outer : List Env) (s₀ : Shared) (H₀ : Hp) (E₀ : XK) : Cx :=
  (cxE P w K mg base N qual scope f cdv A outer s₀ H₀ E₀).wish (XR P w qual scope f cdv A outer s₀ H₀ E₀ base)
theorem PSs.xr {st : List Stmt} {t : TS} (h : PSs (cxR P w K mg base N qual scope f cdv A outer s₀ H₀ E₀) st t) : PSs (cxE P w K mg base N qual scope f cdv A outer s₀ H₀ E₀) st t := fun pins s σ H D I hw =>
  wpAny_mono (h pins s σ H D (I.wish _) hw) (fun _ _ q => q.unwish) fun _ _ z => z.xe
theorem raiseR : RaisesTo (cxR P w K mg base N qual scope f cdv A outer s₀ H₀ E₀) E₀ := fun _ _ _ _ _ _ _ I h1 h0 q => .inl (own_new I.unwish h1 h0 q)
theorem passR {E : XK} (hE : ∀ c od H', E c od H' → E₀ c od H') : PassesX (CXE P w) (cxR P w K mg base N qual scope f cdv A outer s₀ H₀ E₀) (fun _ => E) := fun pins σ H s e s' I h => by
  obtain ⟨ea, C, T, od, fs, sl, H', rfl, l, q⟩ := h
  exact .inl (own_lies I.unwish l (hE _ _ _ q))
theorem ownR : PassesOwn (model P w) (cxR P w K mg base N qual scope f cdv A outer s₀ H₀ E₀).A (cxR P w K mg base N qual scope f cdv A outer s₀ H₀ E₀).env (cxR P w K mg base N qual scope f cdv A outer s₀ H₀ E₀).xe := own_passes
end
end L2
end
section
set_option Elab.async false
set_option linter.all false
set_option maxRecDepth 100000
set_option maxHeartbeats 4000000
namespace L2
open PySem PySem.Spec PyProof.Rows LX
/-! ### < of tuples as long as one another, items of any kind -/
section
open PySem.SeqAt
open PySem.AutoSeq1 (wpAny_loadPart')
open PySem.MeetsSeq PySem.MeetsSeq2 PySem.MeetsSeq3
end
section
variable {X : Cx}
end
end L2
end
section
set_option Elab.async false
set_option linter.all false
set_option maxRecDepth 100000
set_option maxHeartbeats 4000000
namespace L2
open PySem PySem.Spec PyProof.Rows LX
/-! ### t + u of tuples, of any lengths -/
/-! ### tuple(reversed(l)) -/
section
variable {P : Program} {w : World} {A : Around} {E : Value → Shared → Prop}
end
section
variable {X : Cx}
end
end L2
end
section
set_option Elab.async false
set_option linter.all false
set_option maxRecDepth 100000
set_option maxHeartbeats 4000000
namespace L2
open PySem PySem.Spec PyProof.Rows LX
/-! ### keys (number, number, tuple of numbers) -/
section
variable {P : Program} {w : World}
variable {A : Around} {E : Value → Shared → Prop} {s : Shared}
end
end L2
end
section
set_option Elab.async false
set_option linter.all false
set_option maxRecDepth 100000
set_option maxHeartbeats 4000000
namespace L2
open PySem PySem.Spec PyProof.Rows LX PySem.Builtin.Str
/-! ### texts joined, a text split -/
theorem strs_of : ∀ {ss : List Str} {us : List Value}, Vals (ss.map V.str) us → StrsAre us ss
  | [], us, r => by
    rw [List.map_nil] at r
    cases r
    exact .nil
  | x :: ss, us, r => by
    rw [List.map_cons] at r
    cases r with
    | cons r1 r2 =>
      obtain ⟨t, rfl⟩ := r1
      exact .cons x t (strs_of r2)
theorem of_strs : ∀ {ss : List Str} {us : List Value}, StrsAre us ss → Vals (ss.map V.str) us
  | [], us, r => by
    cases r
    exact .nil
  | x :: ss, us, r => by
    cases r with
    | cons _ t r2 => exact .cons ⟨t, rfl⟩ (of_strs r2)
section
variable {X : Cx}
def rJoin (K : PySem.W.Frag) : V → List V → Hp → VK → Prop := fun x vs H Q => ∃ (z : Str) (p : Addr) (ss : List Str), x = .str z ∧ vs = [.ref p] ∧ SqL K H p (ss.map V.str) ∧ (ss.map (·.length)).sum + ss.length * z.length ≤ 16777216 ∧ Q (.str (Txt.join z ss)) H
theorem mt_join : MtM X "str.join" (rJoin X.K) := by
  rintro pins s σ H x xs v us Q I rx rv ⟨z, p, ss, rfl, rfl, hp, hz, q⟩
  obtain ⟨t, rfl⟩ := rx
  obtain ⟨u, rfl, ru⟩ := rv.one
  cases (show u = Value.ref p from ru)
  obtain ⟨its, r1, pl, _⟩ := I.list hp
  exact join_list pl.isList (strs_of (by simpa using r1)) hz fun t' k => ⟨.str (Txt.join z ss), H, I.tok k, ⟨t', rfl⟩, q⟩
def rSplit : V → List V → Hp → VK → Prop := fun x vs H Q => ∃ z y : Str, x = .str z ∧ vs = [.str y] ∧ (y.length == 0) = false ∧ z.length + 2 ≤ sizeLine ∧ ∀ l, H l = none → Q (.ref l) (upd H l (.lst ((Txt.split z y).map V.str)))
theorem mt_split : MtM X "str.split" rSplit := by
  rintro pins s σ H x xs v us Q I rx rv ⟨z, y, rfl, rfl, hy, hz, q⟩
  obtain ⟨t, rfl⟩ := rx
  obtain ⟨w, rfl, tu, rfl⟩ := rv.one
  have hn : (partsBetween z (occurrences z y 0 z.length (z.length + 1)) y.length).length ≤ sizeLine := by
    have e1 := StrLaws.occ_length_le z y 0 z.length (z.length + 1)
    rw [length_partsBetween]
    omega
  have fin : ∀ (l : List (Str × Tok)) (k : Nat), l.map (·.1) = Txt.split z y → l.length ≤ sizeLine → EP X pins σ Q (.ref s.heap.objs.size) { s with heap := s.heap.push { cls := .type "list", data := .seq (strValues l).toArray }, toks := k } := fun l k e hl => by
    refine ⟨.ref s.heap.objs.size, _, I.laid (o := .lst ((Txt.split z y).map V.str)) (t' := k) (fun b ob z => Heap.get?_push_of_some _ z) (Nat.le_refl _) ?_, rfl, q _ (I.hok.fresh (Nat.le_refl _))⟩
    refine ⟨by rw [← e, List.length_map, List.length_map]; exact hl, strValues l, 0, ?_, Heap.get?_push_size _ rfl⟩
    rw [← e]
    exact of_strs (strsAre_of_values l)
  by_cases h1 : (decide (z.length < y.length) || decide (strKind z < strKind y)) = true
  · exact call_meets PySem.F.slot_str_split (typeIs_str _ _ _) PySem.F.entry_str_split (PySem.F.args_str_split_2 _ _) (meets_str_split_cannot_occur z y t tu h1) (fin [(z, t)] s.toks (if_pos h1).symm (by show 1 ≤ sizeLine; decide))
  · have h1' := eq_false_of_ne_true h1
    by_cases hf : (occurrences z y 0 z.length (z.length + 1)).isEmpty = true
    · exact call_meets PySem.F.slot_str_split (typeIs_str _ _ _) PySem.F.entry_str_split (PySem.F.args_str_split_2 _ _) (meets_str_split_not_found z y t tu h1' hy hf) (fin [(z, t)] s.toks ((if_neg h1).trans (if_pos hf)).symm (by show 1 ≤ sizeLine; decide))
    · refine call_meets PySem.F.slot_str_split (typeIs_str _ _ _) PySem.F.entry_str_split (PySem.F.args_str_split_2 _ _) (meets_str_split_sep z y t tu h1' hy (eq_false_of_ne_true hf) (by omega) hn) (?_ : wants (EP X pins σ Q) X.xe _ { s with toks := _, heap := s.heap.push { cls := .type "list", data := .seq (strsFrom s.toks (partsBetween z (occurrences z y 0 z.length (z.length + 1)) y.length)).toArray } })
      rw [strsFrom_eq]
      refine fin (numbered s.toks _) _ ((numbered_texts _ _).trans ((if_neg h1).trans (if_neg hf)).symm) ?_
      have := congrArg List.length (numbered_texts s.toks (partsBetween z (occurrences z y 0 z.length (z.length + 1)) y.length))
      rw [List.length_map] at this
      omega
/-- int(text) -/
def rIntT : List V → Hp → VK → Prop := fun vs H Q => ∃ (z : Str) (n : Int), vs = [.str z] ∧ PySem.intText? z = some n ∧ z.length ≤ 640 ∧ Q (.int n) H
theorem call_intT : CallR X (.type "int") rIntT := by
  rintro pins s σ H xs us Q I r ⟨z, n, rfl, hn, hl, q⟩
  obtain ⟨u, rfl, t, rfl⟩ := r.one
  exact PySem.W.KIN.call_text hn hl ⟨.int n, H, I.tok _, ⟨_, rfl⟩, q⟩
/-- x.startswith(y) -/
def rStarts : V → List V → Hp → VK → Prop := fun x vs H Q => ∃ z y : Str, x = .str z ∧ vs = [.str y] ∧ Q (.bl (decide (0 + y.length ≤ z.length) && subAt z y 0)) H
theorem mt_starts : MtM X "str.startswith" rStarts := by
  rintro pins s σ H x xs v us Q I rx rv ⟨z, y, rfl, rfl, q⟩
  obtain ⟨t, rfl⟩ := rx
  obtain ⟨w, rfl, tu, rfl⟩ := rv.one
  exact call_meets PySem.F.slot_str_startswith (typeIs_str _ _ _) PySem.F.entry_str_startswith (PySem.F.args_str_startswith_2 _ _) (gives_str_startswith z y t tu).meets ⟨.bl _, H, I, rfl, q⟩
end
end L2
end
section
set_option Elab.async false
set_option linter.all false
set_option maxRecDepth 100000
set_option maxHeartbeats 4000000
namespace L2
open PySem PySem.Spec PyProof.Rows LX
/-! ### a list comprehension whose target is a pair -/
/-- what the block's scope has: its own name, and those of the def that it reads -/
structure CompOk2 (X : Cx) (scope : Scope) (cl : List (Str × Addr)) (x x2 : Str) (idx : List Nat) (NC : List Str) : Prop where
  clos : closureFor scope X.env = pure cl
  sub : ∀ y c, cl.lookup y = some c → X.env.cells.lookup y = some c
  has : ∀ y, ((relabel scope X.env).names.lookup y = some .cell ∨ (relabel scope X.env).names.lookup y = some .free) → ∃ c, cl.lookup y = some c
  nocell : ∀ y ∈ scope.names, y.2 ≠ .cell
  kind : scope.kind = .function
  loc : ∀ y ∈ scope.names, y.2 = .local → scope.names.lookup y.1 = some .local
  xl : scope.names.lookup x = some .local
  xl2 : scope.names.lookup x2 = some .local
  nc : NC = x :: x2 :: idx.map fun i => X.N.getD i x
  nd : NC.Nodup
  cap : ∀ i ∈ idx, i < X.N.length ∧ ((X.env.scope.names.lookup (X.N.getD i x) = some .cell ∨ X.env.scope.names.lookup (X.N.getD i x) = some .free) ∧ ((relabel scope X.env).names.lookup (X.N.getD i x) = some .cell ∨ (relabel scope X.env).names.lookup (X.N.getD i x) = some .free))
section
variable {X : Cx} {scope : Scope} {cl : List (Str × Addr)} {x x2 : Str} {idx : List Nat} {NC : List Str} {C : Addr} {fp : List Addr} {pins : List (Addr × Obj)} {σ : St} {H : Hp} {s : Shared}
theorem inv_comp2 {h1 : Heap} {t' : Nat} (c : CompOk2 X scope cl x x2 idx NC) (I : Inv X pins σ H s) (hf : ∀ b ∈ fp, FpOk X pins H b) (hlt : ∀ b ∈ fp, b < s.heap.objs.size) (ns : h1.Ns s.heap.objs.size (fun _ => none))
    (k : ∀ b o, s.heap.get? b = some o → h1.get? b = some o) : Inv (cxC X scope cl NC s.heap.objs.size fp s H) [] (none :: none :: caps σ idx) H { s with heap := h1, toks := t' } := by
  have sub : ∀ b, b ∈ frs X.stack → b ∈ X.env.locals :: X.fs := I.stkSub
  refine ⟨⟨I.ok.mod, c.kind, I.ok.glob, I.ok.blt, Nat.le_refl _, fun y z a h1 h2 => I.ok.inj y z a (c.sub _ _ h1) (c.sub _ _ h2), c.has, fun y a z => (by cases z), I.ok.hd, I.ok.frames, .inl rfl, fun b hb => ⟨Nat.ne_of_lt (hlt b hb), fun y a q => (hf b hb).2.2.2.2.1 y a (c.sub _ _ q)⟩,
    fun b o q => I.bs b o q, Nat.le_trans I.ok.bsz I.sz, fun b o q hb => ?_, fun b hb z => ?_, I.stack, I.stkFree⟩, rfl, I.bare, Un.kept k, ⟨_, ns, fun i y v e1 e2 e3 => ?_⟩, fun y a q => ?_, I.hok.fresh (Nat.le_refl _), fun y a q => I.freeC _ _ (c.sub _ _ q), fun p hp => (by cases hp), I.hok.keeps fun b u o _ q => k b o q, ?_⟩
  · rcases (hf b hb).2.2.2.1 with z | z
    · exact I.ok.noex b o q z
    · exact absurd (Nat.lt_of_lt_of_le (Heap.lt_size (I.ok.bs b o q).1) z) (Nat.lt_irrefl _)
  · rcases List.mem_cons.mp (sub b z) with r | r
    · exact (hf b hb).2.1 r
    · exact (hf b hb).2.2.1 r
  · cases i with
    | zero => cases e2
    | succ i =>
     cases i with
     | zero => cases e2
     | succ j =>
      have e1' : (idx.map fun i => X.N.getD i x)[j]? = some y := by
        have : (cxC X scope cl NC s.heap.objs.size fp s H).N = NC := rfl
        rw [this, c.nc] at e1
        exact e1
      have e2' : (caps σ idx)[j]? = some (some v) := e2
      rw [List.getElem?_map] at e1'
      unfold caps at e2'
      rw [List.getElem?_map] at e2'
      cases ei : idx[j]? with
      | none => rw [ei] at e1'; cases e1'
      | some i =>
        rw [ei] at e1' e2'
        simp only [Option.map_some, Option.some.injEq] at e1' e2'
        obtain ⟨hi, h2, h3⟩ := c.cap i (List.mem_of_getElem? ei)
        rw [e1'] at h2 h3
        have hN : X.N[i]? = some y := by
          rw [← e1']
          simp [List.getD, List.getElem?_eq_getElem hi]
        have hσ : σ[i]? = some (some v) := by
          cases q : σ[i]? with
          | none => rw [q] at e2'; cases e2'
          | some o => rw [q] at e2'; simp only [Option.getD_some] at e2'; rw [e2']
        obtain ⟨m, hn, hl⟩ := I.loc
        obtain ⟨u, r, l⟩ := hl i y v hN hσ (h2.elim (fun z => .inr (.inl z)) fun z => .inr (.inr z))
        refine ⟨u, r, .inr ⟨h3, ?_⟩⟩
        rcases l with ⟨l, _⟩ | ⟨_, a, ha, hc⟩
        · exfalso
          have l' : X.env.scope.names.lookup y = some .local := l
          rcases h2 with z | z <;> (rw [l'] at z; cases z)
        · obtain ⟨a', ha'⟩ := c.has y h3
          have := c.sub _ _ ha'
          rw [ha] at this
          cases this
          exact ⟨a, ha', hc.keeps k⟩
  · obtain ⟨v, z⟩ := I.cell _ _ (c.sub _ _ q)
    exact ⟨v, z.keeps k⟩
  · show _ = NC.length
    rw [c.nc]
    simp [caps]
/-- the list at D grows by an item a turn; each thing met is a pair -/
def CompTo2 (K : PySem.W.Frag) (J : It) (D : Addr) (τ : St) (te : TE) (Q : VK) (H : Hp) : Prop := ∃ W : Nat → Nat → List V → Hp → Prop, (∃ m, W 0 m [] H) ∧ ∀ i m ys H2, W i m ys H2 → H2 D = some (.lst ys) ∧
  ((J.stop i H2 ∧ Q (.ref D) H2) ∨ (J.go i H2 ∧ ys.length < sizeLine ∧ ∃ N : List V → Hp → Prop, (∀ zs H', N zs H' → ∃ m', m' < m ∧ W (i + 1) m' zs H') ∧ ∀ y H3, J.yld i H2 y H3 → ∃ a v1 v2, y = .ref a ∧ SqT K H3 a [v1, v2] ∧ te (some v1 :: some v2 :: τ) H3 fun v H4 => H4 D = some (.lst ys) ∧ N (ys ++ [v]) (upd H4 D (.lst (ys ++ [v])))))
def tComp2 (K : PySem.W.Frag) (wi : TI) (idx : List Nat) (te : TE) : TE := fun σ H Q => wi σ H fun J H1 => ∀ D, H1 D = none → CompTo2 K J D (caps σ idx) te Q (upd H1 D (.lst []))
theorem pe_comp2 {elt iter : Expr} {px px2 pt pos : Pos} {kt : Nat} {wi : TI} {te : TE} (c : CompOk2 X scope cl x x2 idx NC) (hc : X.calm = true) (hi : PI X (.Tuple [.Name x px, .Name x2 px2] kt pt) iter wi) (he : ∀ C fp s₀ H₀, PE (cxC X scope cl NC C fp s₀ H₀) elt te)
    (hs : ∀ x, foldedSetIterable iter X.env x = pure x := by intro _; rfl) : PE X (.ListComp elt [⟨.Tuple [.Name x px, .Name x2 px2] kt pt, iter, [], 0⟩] scope pos) (tComp2 X.K wi idx te) := by
  intro pins s σ H Q I h
  rw [eval_ListComp]
  refine wpAny_comprehension_free (use := none) rfl hs c.clos c.kind c.loc (thn (hi pins s σ H _ I h) fun v s1 h1 => thn h1 fun itv s2 h2 => ?_)
  obtain ⟨it, fp, tn, J, H2, rfl, I2, T, st2, f2, q⟩ := h2
  refine wpAny_newObj_type (wpAny_newFunctionEnv c.nocell (by intro y hy; simp at hy) (fun h₁ hns₁ hsb₁ => ?_) c.kind)
  dsimp only at hns₁ hsb₁ ⊢
  have I3 : Inv X pins σ (upd H2 s2.heap.objs.size (.lst [])) { s2 with heap := s2.heap.push { cls := .type "list", data := .seq ([] : List Value).toArray }, toks := s2.toks } := I2.lnew (ys := []) (its := []) .nil (Nat.zero_le _)
  obtain ⟨W, ⟨m0, w0⟩, turn⟩ := q s2.heap.objs.size I2.fresh
  generalize hD : s2.heap.objs.size = D at *
  generalize hH : s2.heap.push { cls := .type "list", data := .seq ([] : List Value).toArray } = h3 at *
  have hlt2 : ∀ b ∈ fp, b < D := fun b hb => by
    obtain ⟨o, e, _⟩ := T.obj _ _ st2 b hb
    rw [← hD]
    exact Heap.lt_size e
  have hlt : ∀ b ∈ fp, b < h3.objs.size := fun b hb => by
    rw [← hH, Heap.size_push, hD]
    exact Nat.lt_succ_of_lt (hlt2 b hb)
  have hf : ∀ b ∈ fp, FpOk X pins (upd H2 D (.lst [])) b := fun b hb => ⟨by rw [upd_ne (Nat.ne_of_lt (hlt2 b hb))]; exact (f2 b hb).1, (f2 b hb).2⟩
  have kp : ∀ b o, h3.get? b = some o → h₁.get? b = some o := fun b o e => hsb₁.extBut b o (Nat.ne_of_lt (Heap.lt_size e)) (Heap.get?_push_of_some _ e)
  have I4 : Inv (cxC X scope cl NC h3.objs.size fp { s2 with heap := h3, toks := s2.toks } (upd H2 D (.lst []))) [] (none :: none :: caps σ idx) (upd H2 D (.lst [])) { s2 with heap := h₁, toks := s2.toks + ([] : List (Str × Value)).length } :=
    inv_comp2 (s := { s2 with heap := h3, toks := s2.toks }) c I3 hf hlt hns₁ kp
  have stat : ∀ {H' : Hp}, (∀ b ∈ fp, H' b = none) → ∀ b ∈ fp, FpOk (cxC X scope cl NC h3.objs.size fp { s2 with heap := h3, toks := s2.toks } (upd H2 D (.lst []))) [] H' b := fun hn b hb =>
    ⟨hn b hb, Nat.ne_of_lt (hlt b hb), fun z => (List.mem_cons.mp (I3.stkSub b z)).elim (hf b hb).2.1 (hf b hb).2.2.1, .inl hb, fun y a q => (hf b hb).2.2.2.2.1 y a (c.sub _ _ q), fun p hp => (by cases hp)⟩
  have st1 : tn 0 h₁ := T.keep 0 _ _ st2 fun b hb o e => kp b o (by rw [← hH]; exact Heap.get?_push_of_some _ e)
  have loop : ∀ s4 : Shared, s4 = { s2 with heap := h₁, toks := s2.toks + ([] : List (Str × Value)).length } →
      codeAny (model X.prog X.w) X.A (.compLoop (.ListComp elt [⟨.Tuple [.Name x px, .Name x2 px2] kt pt, iter, [], 0⟩] scope pos) 0 (.ref it) (.ref D) (compEnvC scope cl h3.objs.size X.env)) (compPost (model X.prog X.w) X.A X.xe none (EP X pins σ Q) (.ref D) h3.objs.size) s4 := by
    rintro s4 rfl
    refine compLoop_any (fun n s' => ∃ i ys H' v0 v1, Inv (cxC X scope cl NC h3.objs.size fp { s2 with heap := h3, toks := s2.toks } (upd H2 D (.lst []))) [] (v0 :: v1 :: caps σ idx) H' s' ∧ tn i s'.heap ∧ (∀ b ∈ fp, H' b = none) ∧ W i n ys H')
      ?_ m0 ⟨0, [], _, none, none, I4, st1, fun b hb => (hf b hb).1, w0⟩
    rintro n s5 ⟨i, ys, H5, v0, v1, I5, st5, fr5, w5⟩
    obtain ⟨hDl, alt⟩ := turn i n ys H5 w5
    rcases alt with ⟨stop, qn⟩ | ⟨go, hz, N, hN, step⟩
    · refine thn (T.done (cxC X scope cl NC h3.objs.size fp { s2 with heap := h3, toks := s2.toks } (upd H2 D (.lst []))) rfl rfl rfl hc i [] s5 _ H5 _ I5 (stat fr5) st5 stop) fun r s6 ⟨hr, I6⟩ => ?_
      subst hr
      obtain ⟨m, ns6, _⟩ := id I6.loc
      refine ⟨m, ns6, fun h' hs' => ⟨.ref D, H5, ?_, rfl, qn⟩⟩
      have J6 : Inv X pins σ H5 s6 := I3.call' (ch := fp) I6.os I6.base I6.hok I6.bare fun b hb => ⟨(hf b hb).2.2.2.1, (hf b hb).2.1, (hf b hb).2.2.2.2.1, (hf b hb).2.2.2.2.2⟩
      refine J6.turned (t' := s6.toks) (it := h3.objs.size) (fun b o hb e => hs'.extBut b o hb e) I6.free (Nat.ne_of_gt I3.lt) (.inr I3.sz) (fun y a q z => ?_) (fun p hp z => ?_)
      · obtain ⟨v, q'⟩ := I3.cell y a q
        exact absurd q'.lt (by rw [z]; exact Nat.lt_irrefl _)
      · exact absurd (Heap.lt_size (I3.pin p hp).1) (by rw [z]; exact Nat.lt_irrefl _)
    · refine thn (T.item (cxC X scope cl NC h3.objs.size fp { s2 with heap := h3, toks := s2.toks } (upd H2 D (.lst []))) rfl rfl rfl hc i [] s5 _ H5 _ I5 (stat fr5) st5 go) fun r s6 ⟨u, hr, h6⟩ => ?_
      subst hr
      refine thn h6 fun _ s7 ⟨y, H7, I7, r7, y7, st7, fr7⟩ => ?_
      have I7' := I7.pinned (stat fr7) (T.obj _ _ st7)
      have hnl : (relabel scope X.env).names.lookup x = some .local := lookup_relabel_local c.xl
      have hnl2 : (relabel scope X.env).names.lookup x2 = some .local := lookup_relabel_local c.xl2
      obtain ⟨ya, w1, w2, e7, hq7, st7'⟩ := step y H7 y7
      refine wpAny_mono (pg_tup (X := cxC X scope cl NC h3.objs.size fp { s2 with heap := h3, toks := s2.toks } (upd H2 D (.lst []))) (es := [.Name x px, .Name x2 px2]) (n := 2) hc
        (pgs_cons (pg_name (i := 0) (x := x) (pos := px) c.nd (by show NC[0]? = some x; rw [c.nc]; rfl) (.inl hnl) (.inr hnl)) (pgs_cons (pg_name (i := 1) (x := x2) (pos := px2) c.nd (by show NC[1]? = some x2; rw [c.nc]; rfl) (.inl hnl2) (.inr hnl2)) pgs_nil)) rfl rfl _ s7 _ H7 y u
        (fun σ' H' => σ' = some w1 :: some w2 :: caps σ idx ∧ H' = H7) I7' r7 ⟨ya, [w1, w2], e7, hq7, rfl, _, _, rfl, _, _, rfl, rfl, rfl, rfl⟩) (fun _ s8 ⟨σ8, H8, I8, e8, e8'⟩ => ?_) fun _ _ z => z.elim
      subst e8 e8'
      refine wpAny_mono (he _ _ _ _ _ s8 _ H8 _ I8 st7') (fun w s9 ⟨v, H9, I9, r9, hD9, n9⟩ => ?_) fun _ _ z => z.elim
      obtain ⟨m', hm, w9⟩ := hN _ _ n9
      refine wpAny_mono (appended (X := (cxC X scope cl NC h3.objs.size fp { s2 with heap := h3, toks := s2.toks } (upd H2 D (.lst [])))) I9 hD9 hz r9) (fun _ s10 I10 => ?_) fun _ _ z => z.elim
      refine ⟨m', hm, i + 1, ys ++ [v], _, some w1, some w2, I10.unpinned, T.keep _ _ _ st7 fun b hb o e => (I10.pin (b, o) (List.mem_append_right _ (List.mem_append_right _ (mem_pinsAt hb e)))).1, fun b hb => ?_, w9⟩
      obtain ⟨o, e, d⟩ := T.obj _ _ st7 b hb
      exact (I10.pin (b, o) (List.mem_append_right _ (List.mem_append_right _ (mem_pinsAt hb e)))).2.1
  exact codeAny_compStart_list (loop _ rfl) (T.self _ 0 _ _ _ st1 (loop _ rfl))
end
def CompP2 (sc scope : Scope) (x x2 : Str) (ns N : List Str) (idx : List Nat) : Prop :=
  (∀ y ∈ scope.names, y.2 ≠ .cell) ∧ (∀ y ∈ scope.names, y.2 = .local → scope.names.lookup y.1 = some .local) ∧ scope.names.lookup x = some .local ∧ scope.names.lookup x2 = some .local ∧ (∀ p ∈ relN sc scope.names, p.2 = .cell ∨ p.2 = .free → p.1 ∈ ns) ∧ (x :: x2 :: idx.map fun i => N.getD i x).Nodup ∧
  ∀ i ∈ idx, i < N.length ∧ ((sc.names.lookup (N.getD i x) = some .cell ∨ sc.names.lookup (N.getD i x) = some .free) ∧ ((relN sc scope.names).lookup (N.getD i x) = some .cell ∨ (relN sc scope.names).lookup (N.getD i x) = some .free))
instance (sc scope : Scope) (x x2 : Str) (ns N : List Str) (idx : List Nat) : Decidable (CompP2 sc scope x x2 ns N idx) := by unfold CompP2; infer_instance
theorem comp_ok2 {X : Cx} {sc scope : Scope} {cl : List (Str × Addr)} {x x2 : Str} {ns N : List Str} {idx : List Nat} (hsc : X.env.scope = sc) (hN : X.N = N) (hk : scope.kind = .function) (p : CompP2 sc scope x x2 ns N idx) (hn : cl.map (·.1) = ns)
    (hclos : closureFor scope X.env = pure cl) (hsub : ∀ q ∈ cl, X.env.cells.lookup q.1 = some q.2) : CompOk2 X scope cl x x2 idx (x :: x2 :: idx.map fun i => N.getD i x) := by
  obtain ⟨p1, p2, p3, p3', p4, p5, p6⟩ := p
  have re : (relabel scope X.env).names = relN sc scope.names := by subst hsc; rfl
  subst hsc hN hn
  refine ⟨hclos, fun y c q => hsub (y, c) (PySem.mem_of_lookup q), fun y h => ?_, p1, hk, p2, p3, p3', rfl, p5, fun i hi => ?_⟩
  · rw [re] at h
    refine some_of_mem ?_
    rcases h with h | h
    · exact p4 (y, .cell) (PySem.mem_of_lookup h) (.inl rfl)
    · exact p4 (y, .free) (PySem.mem_of_lookup h) (.inr rfl)
  · rw [re]
    exact p6 i hi
end L2
end
section
set_option Elab.async false
set_option linter.all false
set_option maxRecDepth 100000
set_option maxHeartbeats 4000000
namespace L2
open PySem PySem.Spec PyProof.Rows LX
/-! ### zip of two sequences, each a list or a tuple -/
/-- an iterator it over l, whose things are xs -/
structure Nx (P : Program) (w : World) (it l : Addr) (xs : Array Value) (St : Nat → Heap → Prop) (Li : Heap → Prop) : Prop where
  st : ∀ k h h', St k h → (∀ o, h.get? it = some o → h'.get? it = some o) → St k h'
  li : ∀ h h', Li h → (∀ o, h.get? l = some o → h'.get? l = some o) → Li h'
  obj : ∀ k h, St k h → ∃ o, h.get? it = some o ∧ ∀ v, o.data ≠ .cell v
  item : ∀ (A : Around) (E : Value → Shared → Prop) (s : Shared) (k : Nat) (x : Value) (Q : Value → Shared → Prop), St k s.heap → Li s.heap → xs[k]? = some x → (∀ h', St (k + 1) h' → Heap.SameBut it s.heap h' → Q x { s with heap := h' }) → wpAny (model P w) A (Builtin.SmallTypes.nextOf (.ref it)) Q E s
  stop : ∀ (A : Around) (E : Value → Shared → Prop) (s : Shared) (k : Nat) (Q : Value → Shared → Prop), A.handled = none → St k s.heap → Li s.heap → xs[k]? = none →
    (∀ h' e, Heap.ExtBut it s.heap h' → (∃ o, h'.get? e = some o ∧ o.cls = .type "StopIteration") → E (.ref e) { s with heap := h' }) → wpAny (model P w) A (Builtin.SmallTypes.nextOf (.ref it)) Q E s
section
variable {P : Program} {w : World} {A : Around} {E : Value → Shared → Prop} {s : Shared}
theorem nx_list (it l : Addr) (xs : Array Value) : Nx P w it l xs (fun k h => h.IsListIter it l k) (fun h => h.IsList l xs) where
  st := fun _ _ _ x k => x.at k
  li := fun _ _ x k => x.at k
  obj := fun _ _ ⟨o, e, _, d⟩ => ⟨o, e, fun v z => by rw [d] at z; cases z⟩
  item := fun _ _ _ _ _ _ st li hx q => wpAny_nextOf_list_item st li hx q
  stop := fun _ _ _ _ _ hh st li hx q => wpAny_nextOf_list_end hh st li hx q
theorem nx_tup (it l : Addr) (xs : Array Value) : Nx P w it l xs (fun k h => h.IsTupleIter it l k) (fun h => h.IsTuple l xs) where
  st := fun _ _ _ ⟨o, e, r⟩ k => ⟨o, k o e, r⟩
  li := fun _ _ ⟨o, e, r⟩ k => ⟨o, k o e, r⟩
  obj := fun _ _ ⟨o, e, _, d⟩ => ⟨o, e, fun v z => by rw [d] at z; cases z⟩
  item := fun A E s k x Q st li hx q => by
    obtain ⟨o, g, c, gd⟩ := id st
    obtain ⟨ol, gl, _, nl, gdl⟩ := li
    unfold Builtin.SmallTypes.nextOf
    refine wpAny_bind (wpAny_callSpecial?_slot (name := Str.ofString "__next__") st.typeIs PySem.F.slot_tuple_iterator_next (wpAny_call_entry PySem.F.slot_tuple_iterator_next st.typeIs PySem.F.entry_tuple_iterator_next (?_ : wpAny _ _ (field (.ref it) 0 >>= _) _ _ s) (PySem.F.args_tuple_iterator_next_1 _)))
    refine wpAny_bind (wpAny_field g gd (x := .ref l) rfl (?_ : wpAny _ _ (if (Value.ref l == Value.none) = true then _ else _) _ _ s))
    rw [if_neg (show ¬ (Value.ref l == Value.none) = true from Bool.false_ne_true)]
    refine (?_ : wpAny _ _ (field (.ref it) 1 >>= _) _ _ s)
    refine wpAny_bind (wpAny_field g gd (x := .int k 0) rfl (?_ : wpAny _ _ (seqItems? (.ref l) >>= _) _ _ s))
    refine wpAny_bind (wpAny_seqItems gl gdl ?_)
    simp only [Int.toNat_natCast, hx]
    refine wpAny_bind (wpAny_setField g gd (by simp) (wpAny_pure ⟨x, rfl, wpAny_pure (q _ ⟨_, Heap.get?_update_self _ g (Obj.isFreed_of_fields (Obj.data_mapFields gd _)), (Obj.cls_mapFields ..).trans c, by rw [Obj.data_mapFields gd]; simp [rawInt]⟩ (Heap.SameBut.update ..))⟩))
  stop := fun A E s k Q hh st li hx q => by
    obtain ⟨o, g, c, gd⟩ := id st
    obtain ⟨ol, gl, _, nl, gdl⟩ := li
    unfold Builtin.SmallTypes.nextOf
    refine wpAny_bind (wpAny_callSpecial?_slot (name := Str.ofString "__next__") st.typeIs PySem.F.slot_tuple_iterator_next (wpAny_call_entry PySem.F.slot_tuple_iterator_next st.typeIs PySem.F.entry_tuple_iterator_next (?_ : wpAny _ _ (field (.ref it) 0 >>= _) _ _ s) (PySem.F.args_tuple_iterator_next_1 _)))
    refine wpAny_bind (wpAny_field g gd (x := .ref l) rfl (?_ : wpAny _ _ (if (Value.ref l == Value.none) = true then _ else _) _ _ s))
    rw [if_neg (show ¬ (Value.ref l == Value.none) = true from Bool.false_ne_true)]
    refine (?_ : wpAny _ _ (field (.ref it) 1 >>= _) _ _ s)
    refine wpAny_bind (wpAny_field g gd (x := .int k 0) rfl (?_ : wpAny _ _ (seqItems? (.ref l) >>= _) _ _ s))
    refine wpAny_bind (wpAny_seqItems gl gdl ?_)
    simp only [Int.toNat_natCast, hx]
    refine wpAny_bind (wpAny_rule (wpAny_bind (wpAny_setField g gd (by simp) (?_ : wpAny _ _ (newExc (.type "StopIteration") [] >>= fun e => raiseNew e) _ _ _))))
    exact stop_flies hh fun h' e kk he => q h' e (fun b ob hb z => kk b ob ((Heap.SameBut.update ..).extBut b ob hb z)) he
variable {z TI TO i1 i2 l1 l2 : Addr} {k : Nat} {xs ys : Array Value} {a b : Value} {S1 S2 : Nat → Heap → Prop} {L1 L2 : Heap → Prop}
/-- zip's next, an item -/
theorem zip_item {x y : Value} {Q : Option Value → Shared → Prop} (N1 : Nx P w i1 l1 xs S1 L1) (N2 : Nx P w i2 l2 ys S2 L2) (D : ZipApart z TI TO i1 i2 l1 l2) (hz : IsZip s.heap z TI TO .none) (hTI : IsPair s.heap TI (.ref i1) (.ref i2)) (hTO : IsPair s.heap TO a b) (s1 : S1 k s.heap) (s2 : S2 k s.heap) (li1 : L1 s.heap) (li2 : L2 s.heap) (hx : xs[k]? = some x) (hy : ys[k]? = some y)
    (q : ∀ h', IsZip h' z TI TO (rawInt s.heap.objs.size) → IsPair h' TO x y → S1 (k + 1) h' → S2 (k + 1) h' → IsPair h' s.heap.objs.size x y → (∀ c o, c ≠ z → c ≠ TO → c ≠ i1 → c ≠ i2 → s.heap.get? c = some o → h'.get? c = some o) → Q (some (.ref s.heap.objs.size)) { s with heap := h' }) : wpAny (model P w) A (pyNext (.ref z)) Q E s := by
  have hT : s.TypeIs (.ref z) "zip" := ⟨_, hz, rfl⟩
  unfold pyNext
  refine wpAny_bind (wpAny_attempt (wpAny_callSpecial?_slot (name := Str.ofString "__next__") hT PySem.F.slot_zip_next (wpAny_call_entry PySem.F.slot_zip_next hT PySem.F.entry_zip_next (?_ : wpAny _ _ (field (.ref z) 2 >>= _) _ _ _) (PySem.F.args_zip_next_1 _))))
  refine wpAny_bind (wpAny_field hz rfl (x := .bool false) rfl (?_ : wpAny _ _ (field (.ref z) 3 >>= _) _ _ _))
  refine wpAny_bind (wpAny_field hz rfl (x := .ref TI) rfl (wpAny_bind (wpAny_seqItems hTI rfl (?_ : wpAny _ _ (Builtin.SmallTypes.ownedTupleIsFree (.ref z) >>= _) _ _ _))))
  refine wpAny_bind ?_
  unfold Builtin.SmallTypes.ownedTupleIsFree
  refine wpAny_bind (wpAny_field hz rfl (x := .none) rfl (wpAny_pure ?_))
  simp only [if_true]
  refine wpAny_bind (wpAny_rule (wpAny_bind (wpAny_field hz rfl (x := .ref TO) rfl (wpAny_bind (wpAny_setField_rec hz (by simp) fun g1 gz1 e1 => ?_)))))
  replace gz1 : IsZip g1 z TI TO .ellipsis := gz1
  refine wpAny_bind ?_
  simp only [List.zipIdx_cons, List.zipIdx_nil, List.forIn_cons, List.forIn_nil]
  refine wpAny_bind (wpAny_bind (wpAny_onRaise (?_ : wpAny _ _ (Builtin.SmallTypes.nextOf (.ref i1) >>= _) _ _ _)))
  refine (wpAny_bind (N1.item _ _ _ k x _ (N1.st _ _ _ s1 fun o r => e1.extBut _ o D.i1z r) (N1.li _ _ li1 fun o r => e1.extBut _ o D.l1z r) hx fun g2 t2 e2 => wpAny_pure ?_))
  have p2 : IsPair g2 TO a b := e2.extBut _ _ D.TOi1 (e1.extBut _ _ D.TOz hTO)
  refine wpAny_bind (wpAny_seqItems p2 rfl (wpAny_bind (wpAny_updateSeq_pair p2 fun g3 p3 e3 => ?_)))
  replace p3 : IsPair g3 TO x b := p3
  refine wpAny_bind (wpAny_letGo (wpAny_pure (wpAny_bind (wpAny_bind (wpAny_onRaise (wpAny_bind (N2.item _ _ _ k y _ (N2.st _ _ _ s2 fun o r => e3.extBut _ o D.TOi2.symm (e2.extBut _ o D.i12.symm (e1.extBut _ o D.i2z r))) (N2.li _ _ li2 fun o r => e3.extBut _ o D.l2TO (e2.extBut _ o D.l2i1 (e1.extBut _ o D.l2z r))) hy fun g4 t4 e4 => wpAny_pure ?_)))))))
  have p4 : IsPair g4 TO x b := e4.extBut _ _ D.TOi2 p3
  refine wpAny_bind (wpAny_seqItems p4 rfl (wpAny_bind (wpAny_updateSeq_pair p4 fun g5 p5 e5 => ?_)))
  replace p5 : IsPair g5 TO x y := p5
  refine wpAny_bind (wpAny_letGo (wpAny_pure (wpAny_pure (wpAny_bind (wpAny_seqItems p5 rfl (wpAny_bind (wpAny_newTuple (wpAny_bind ?_))))))))
  have sz : g5.objs.size = s.heap.objs.size := by rw [e5.1, e4.1, e3.1, e2.1, e1.1]
  have gz5 : IsZip g5 z TI TO .ellipsis := e5.extBut _ _ D.TOz.symm (e4.extBut _ _ D.i2z.symm (e3.extBut _ _ D.TOz.symm (e2.extBut _ _ D.i1z.symm gz1)))
  have k5 : ∀ c o, c ≠ z → c ≠ TO → c ≠ i1 → c ≠ i2 → s.heap.get? c = some o → g5.get? c = some o := fun c o c1 c2 c3 c4 e => e5.extBut _ _ c2 (e4.extBut _ _ c4 (e3.extBut _ _ c2 (e2.extBut _ _ c3 (e1.extBut _ _ c1 e))))
  have t5 : S1 (k + 1) g5 := N1.st _ _ _ t2 fun o r => e5.extBut _ o D.TOi1.symm (e4.extBut _ o D.i12 (e3.extBut _ o D.TOi1.symm r))
  have u5 : S2 (k + 1) g5 := N2.st _ _ _ t4 fun o r => e5.extBut _ o D.TOi2.symm r
  have zl : z < g5.objs.size := Heap.lt_size gz5
  unfold Builtin.SmallTypes.ownedTupleHandOut
  have gz6 : IsZip (g5.push { cls := .type "tuple", data := .seq #[x, y] }) z TI TO .ellipsis := Heap.get?_push_of_some _ gz5
  refine wpAny_bind (wpAny_setField_rec gz6 (by simp) fun g7 gz7 e7 => ?_)
  replace gz7 : IsZip g7 z TI TO (rawInt g5.objs.size) := gz7
  refine wpAny_setField_rec gz7 (by simp) fun g8 gz8 e8 => ?_
  replace gz8 : IsZip g8 z TI TO (rawInt g5.objs.size) := gz8
  have up : ∀ c o, c ≠ z → g5.get? c = some o → g8.get? c = some o := fun c o c1 e => e8.extBut _ _ c1 (e7.extBut _ _ c1 (Heap.get?_push_of_some _ e))
  have pt : IsPair g8 g5.objs.size x y := e8.extBut _ _ (Nat.ne_of_gt zl) (e7.extBut _ _ (Nat.ne_of_gt zl) (Heap.get?_push_size _ rfl))
  rw [sz] at gz8 pt
  refine wpAny_pure ⟨_, rfl, wpAny_pure ?_⟩
  show Q (some (.ref g5.objs.size)) _
  rw [sz]
  exact q g8 gz8 (up _ _ D.TOz p5) (N1.st _ _ _ t5 fun o e => up _ o D.i1z e) (N2.st _ _ _ u5 fun o e => up _ o D.i2z e) pt fun c o c1 c2 c3 c4 e => up c o c1 (k5 c o c1 c2 c3 c4 e)
/-- zip's next at the end: the first one ends -/
theorem zip_stop {Q : Option Value → Shared → Prop} (hh : A.handled = none) (N1 : Nx P w i1 l1 xs S1 L1) (N2 : Nx P w i2 l2 ys S2 L2) (D : ZipApart z TI TO i1 i2 l1 l2) (hz : IsZip s.heap z TI TO .none) (hTI : IsPair s.heap TI (.ref i1) (.ref i2)) (hTO : IsPair s.heap TO a b) (s1 : S1 k s.heap) (s2 : S2 k s.heap) (li1 : L1 s.heap) (li2 : L2 s.heap) (hend : xs[k]? = none ∨ ys[k]? = none)
    (q : ∀ h', (∀ c o, c ≠ z → c ≠ TO → c ≠ i1 → c ≠ i2 → s.heap.get? c = some o → h'.get? c = some o) → Q none { s with heap := h' }) : wpAny (model P w) A (pyNext (.ref z)) Q E s := by
  have hT : s.TypeIs (.ref z) "zip" := ⟨_, hz, rfl⟩
  unfold pyNext
  have fin : ∀ h' e, (∀ c o, c ≠ z → c ≠ TO → c ≠ i1 → c ≠ i2 → s.heap.get? c = some o → h'.get? c = some o) → (∃ o, h'.get? e = some o ∧ o.cls = .type "StopIteration") →
      wpAny (model P w) A (do if ← isInstance (.ref e) (.type "StopIteration") then pure none else throw (.ref e)) Q E { s with heap := h' } := fun h' e kk ⟨o, ho, hc⟩ => wpAny_bind (wpAny_isInstance (T := "StopIteration") (b := true) ⟨o, ho, hc⟩ isSubtype_stop (wpAny_pure (q _ kk)))
  refine wpAny_bind (wpAny_attempt (wpAny_callSpecial?_slot (name := Str.ofString "__next__") hT PySem.F.slot_zip_next (wpAny_call_entry PySem.F.slot_zip_next hT PySem.F.entry_zip_next (?_ : wpAny _ _ (field (.ref z) 2 >>= _) _ _ _) (PySem.F.args_zip_next_1 _))))
  refine wpAny_bind (wpAny_field hz rfl (x := .bool false) rfl (?_ : wpAny _ _ (field (.ref z) 3 >>= _) _ _ _))
  refine wpAny_bind (wpAny_field hz rfl (x := .ref TI) rfl (wpAny_bind (wpAny_seqItems hTI rfl (?_ : wpAny _ _ (Builtin.SmallTypes.ownedTupleIsFree (.ref z) >>= _) _ _ _))))
  refine wpAny_bind ?_
  unfold Builtin.SmallTypes.ownedTupleIsFree
  refine wpAny_bind (wpAny_field hz rfl (x := .none) rfl (wpAny_pure ?_))
  simp only [if_true]
  refine wpAny_bind (wpAny_rule (wpAny_bind (wpAny_field hz rfl (x := .ref TO) rfl (wpAny_bind (wpAny_setField_rec hz (by simp) fun g1 gz1 e1 => ?_)))))
  replace gz1 : IsZip g1 z TI TO .ellipsis := gz1
  refine wpAny_bind ?_
  simp only [List.zipIdx_cons, List.zipIdx_nil, List.forIn_cons, List.forIn_nil]
  refine wpAny_bind (wpAny_bind (wpAny_onRaise (?_ : wpAny _ _ (Builtin.SmallTypes.nextOf (.ref i1) >>= _) _ _ _)))
  cases hx : xs[k]? with
  | none =>
    refine wpAny_bind (N1.stop _ _ _ k _ hh (N1.st _ _ _ s1 fun o r => e1.extBut _ o D.i1z r) (N1.li _ _ li1 fun o r => e1.extBut _ o D.l1z r) hx fun g2 e e2 ⟨oe, ge, ce⟩ => ?_)
    have gz2 : IsZip g2 z TI TO .ellipsis := e2 _ _ D.i1z.symm gz1
    have hez : e ≠ z := fun r => by subst r; rw [gz2] at ge; cases ge; simp at ce
    refine wpAny_setField_rec gz2 (by simp) fun g3 _ e3 => fin g3 e (fun c o c1 _ c3 _ r => e3.extBut _ _ c1 (e2 _ _ c3 (e1.extBut _ _ c1 r))) ⟨oe, e3.extBut _ _ hez ge, ce⟩
  | some x =>
    have hy : ys[k]? = none := hend.resolve_left (by rw [hx]; exact fun r => nomatch r)
    refine wpAny_bind (N1.item _ _ _ k x _ (N1.st _ _ _ s1 fun o r => e1.extBut _ o D.i1z r) (N1.li _ _ li1 fun o r => e1.extBut _ o D.l1z r) hx fun g2 t2 e2 => wpAny_pure ?_)
    have p2 : IsPair g2 TO a b := e2.extBut _ _ D.TOi1 (e1.extBut _ _ D.TOz hTO)
    refine wpAny_bind (wpAny_seqItems p2 rfl (wpAny_bind (wpAny_updateSeq_pair p2 fun g3 p3 e3 => ?_)))
    refine wpAny_bind (wpAny_letGo (wpAny_pure (wpAny_bind (wpAny_bind (wpAny_onRaise (wpAny_bind (N2.stop _ _ _ k _ hh (N2.st _ _ _ s2 fun o r => e3.extBut _ o D.TOi2.symm (e2.extBut _ o D.i12.symm (e1.extBut _ o D.i2z r))) (N2.li _ _ li2 fun o r => e3.extBut _ o D.l2TO (e2.extBut _ o D.l2i1 (e1.extBut _ o D.l2z r))) hy fun g4 e e4 ⟨oe, ge, ce⟩ => ?_)))))))
    have gz4 : IsZip g4 z TI TO .ellipsis := e4 _ _ D.i2z.symm (e3.extBut _ _ D.TOz.symm (e2.extBut _ _ D.i1z.symm gz1))
    have hez : e ≠ z := fun r => by subst r; rw [gz4] at ge; cases ge; simp at ce
    refine wpAny_setField_rec gz4 (by simp) fun g5 _ e5 => fin g5 e (fun c o c1 c2 c3 c4 r => e5.extBut _ _ c1 (e4 _ _ c4 (e3.extBut _ _ c2 (e2.extBut _ _ c3 (e1.extBut _ _ c1 r))))) ⟨oe, e5.extBut _ _ hez ge, ce⟩
end
end L2
end
section
set_option Elab.async false
set_option linter.all false
set_option maxRecDepth 100000
set_option maxHeartbeats 4000000
namespace L2
open PySem PySem.Spec PyProof.Rows LX
/-- a list, or a tuple (b) -/
def SqA (K : PySem.W.Frag) (H : Hp) (b : Bool) (a : Addr) (xs : List V) : Prop := match b with
  | true => SqT K H a xs
  | false => SqL K H a xs
def ItA (b : Bool) (it a : Addr) (k : Nat) (h : Heap) : Prop := match b with
  | true => h.IsTupleIter it a k
  | false => h.IsListIter it a k
def LiA (b : Bool) (a : Addr) (xs : Array Value) (h : Heap) : Prop := match b with
  | true => h.IsTuple a xs
  | false => h.IsList a xs
theorem nx_any {P : Program} {w : World} (b : Bool) (it a : Addr) (xs : Array Value) : Nx P w it a xs (ItA b it a) (LiA b a xs) := match b with
  | true => nx_tup it a xs
  | false => nx_list it a xs
section
variable {X : Cx} {pins : List (Addr × Obj)} {σ : St} {H : Hp} {s : Shared} {a : Addr} {xs ys : List V} {b : Bool}
theorem Inv.seqA (I : Inv X pins σ H s) (h : SqA X.K H b a xs) : ∃ its : List Value, Vals xs its ∧ LiA b a its.toArray s.heap ∧ xs.length ≤ sizeLine := match b, h with
  | true, h => let ⟨its, r, t, z⟩ := I.tuple h; ⟨its, r, t, z⟩
  | false, h => let ⟨its, r, t, z⟩ := I.list h; ⟨its, r, t.isList, z⟩
theorem Inv.seqA_inj (I : Inv X pins σ H s) (h : SqA X.K H b a xs) (h' : SqA X.K H b a ys) : xs = ys := match b, h, h' with
  | true, h, h' => I.tuple_inj h h'
  | false, h, h' => I.list_inj h h'
end
def Itz (K : PySem.W.Frag) (b1 b2 : Bool) (a1 a2 : Addr) : It :=
  ⟨fun i H => ∃ xs ys x y, SqA K H b1 a1 xs ∧ SqA K H b2 a2 ys ∧ xs[i]? = some x ∧ ys[i]? = some y,
   fun i H v H' => ∃ t x y, H t = none ∧ v = .ref t ∧ (∀ xs, SqA K H b1 a1 xs → xs[i]? = some x) ∧ (∀ ys, SqA K H b2 a2 ys → ys[i]? = some y) ∧ H' = upd H t (.tup [x, y]),
   fun i H => ∃ xs ys, SqA K H b1 a1 xs ∧ SqA K H b2 a2 ys ∧ (xs.length ≤ i ∨ ys.length ≤ i)⟩
theorem turn_zip {P : Program} {w : World} {K : PySem.W.Frag} {es : List Expr} {x1 : Nat} {pos : Pos} {b1 b2 : Bool} {a1 a2 z TI TO i1 i2 : Addr} (D : ZipApart z TI TO i1 i2 a1 a2) :
    Turn P w K (.Tuple es x1 pos) (Itz K b1 b2 a1 a2) [z, TI, TO, i1, i2] z (fun i h => IsZip h z TI TO .none ∧ IsPair h TI (.ref i1) (.ref i2) ∧ (∃ a b, IsPair h TO a b) ∧ ItA b1 i1 a1 i h ∧ ItA b2 i2 a2 i h) where
  mem := by simp
  obj := fun i h ⟨hz, hTI, ⟨a, b, hTO⟩, t1, t2⟩ c hc => by
    simp only [List.mem_cons, List.not_mem_nil, or_false] at hc
    rcases hc with rfl | rfl | rfl | rfl | rfl
    · exact ⟨_, hz, fun v r => by have r' : Data.fields _ = Data.cell v := r; cases r'⟩
    · exact ⟨_, hTI, fun v r => by have r' : Data.seq _ _ = Data.cell v := r; cases r'⟩
    · exact ⟨_, hTO, fun v r => by have r' : Data.seq _ _ = Data.cell v := r; cases r'⟩
    · exact (nx_any (P := P) (w := w) b1 c a1 #[]).obj i h t1
    · exact (nx_any (P := P) (w := w) b2 c a2 #[]).obj i h t2
  keep := fun i h h' ⟨hz, hTI, ⟨a, b, hTO⟩, t1, t2⟩ k => ⟨k z (by simp) _ hz, k TI (by simp) _ hTI, ⟨a, b, k TO (by simp) _ hTO⟩, (nx_any (P := P) (w := w) b1 i1 a1 #[]).st _ _ _ t1 fun o r => k i1 (by simp) o r, (nx_any (P := P) (w := w) b2 i2 a2 #[]).st _ _ _ t2 fun o r => k i2 (by simp) o r⟩
  item := by
    intro X hP hw hK hc i pins s σ H E I hf st hg
    subst hP hw hK
    obtain ⟨xs, ys, x, y, hq1, hq2, hx, hy⟩ := hg
    obtain ⟨us, rv1, p1, hz1⟩ := I.seqA hq1
    obtain ⟨vs, rv2, p2, hz2⟩ := I.seqA hq2
    obtain ⟨u, hu, ru⟩ := rv1.get hx
    obtain ⟨v, hv, rv⟩ := rv2.get hy
    obtain ⟨hz, hTI, ⟨a, b, hTO⟩, t1, t2⟩ := st
    have fr : H s.heap.objs.size = none := I.hok.fresh (Nat.le_refl _)
    refine zip_item (nx_any b1 i1 a1 us.toArray) (nx_any b2 i2 a2 vs.toArray) D hz hTI hTO t1 t2 p1 p2 (x := u) (y := v) (by simpa using hu) (by simpa using hv) fun h1 gz gTO q1 q2 gt hk1 => ⟨_, rfl, wpAny_letOwnedTupleGo_zip gz fun h2 gz2 hs2 => ?_⟩
    replace hs2 : Heap.SameBut z h1 h2 := hs2
    have hzl : z < s.heap.objs.size := Heap.lt_size hz
    have k2 : ∀ c o, c ≠ z → c ≠ TO → c ≠ i1 → c ≠ i2 → s.heap.get? c = some o → h2.get? c = some o := fun c o z1 z2 z3 z4 q => (hs2.2 c z1).trans (hk1 c o z1 z2 z3 z4 q)
    have ht2 : h2.get? s.heap.objs.size = some { cls := .type "tuple", data := .seq #[u, v] } := (hs2.2 _ (Nat.ne_of_gt hzl)).trans gt
    have nt : ∀ c o, s.heap.get? c = some o → c ≠ s.heap.objs.size := fun c o q => Nat.ne_of_lt (Heap.lt_size q)
    have nh : ∀ c v, H c = some v → c ≠ s.heap.objs.size := fun c v q => ne_of_none q fr
    have ne' : ∀ c v, H c = some v → c ≠ z ∧ c ≠ TO ∧ c ≠ i1 ∧ c ≠ i2 := fun c v q => ⟨ne_of_none q (hf z (by simp)).1, ne_of_none q (hf TO (by simp)).1, ne_of_none q (hf i1 (by simp)).1, ne_of_none q (hf i2 (by simp)).1⟩
    have ko : ∀ c o, c ∉ [z, TI, TO, i1, i2] → s.heap.get? c = some o → h2.get? c = some o := fun c o hm q => k2 c o (fun e => hm (by simp [e])) (fun e => hm (by simp [e])) (fun e => hm (by simp [e])) (fun e => hm (by simp [e])) q
    refine ⟨.ref s.heap.objs.size, upd H s.heap.objs.size (.tup [x, y]), ?_, rfl, ⟨_, x, y, fr, rfl, fun zs hs => by rw [I.seqA_inj hs hq1]; exact hx, fun zs hs => by rw [I.seqA_inj hs hq2]; exact hy, rfl⟩, ⟨gz2, hs2.extBut _ _ D.TIz (hk1 _ _ D.TIz D.TITO D.TIi1 D.TIi2 hTI), ⟨u, v, hs2.extBut _ _ D.TOz gTO⟩, (nx_any (P := X.prog) (w := X.w) b1 i1 a1 #[]).st _ _ _ q1 fun o r => hs2.extBut _ o D.i1z r, (nx_any (P := X.prog) (w := X.w) b2 i2 a2 #[]).st _ _ _ q2 fun o r => hs2.extBut _ o D.i2z r⟩, fun c hc => ?_⟩
    · refine Inv.step (s := s) (h' := h2) (t' := s.toks) (H := H) (g' := s.gens) (d' := s.drawn) (ch := [z, TI, TO, i1, i2]) I (fun c hc => ⟨(hf c hc).2.2.2.1, (hf c hc).2.1, (hf c hc).2.2.2.2.1, (hf c hc).2.2.2.2.2⟩)
        (fun c o _ _ m q _ => ko c o m q) (fun c o _ _ m q _ => ⟨o.slots, ko c o m q⟩)
        (fun c o _ q n => by rw [upd_ne (nt c o q)]; exact n) (fun c o m q => ⟨o, ko c o m q⟩)
        (fun c xs q => by rw [upd_ne (nh c _ q)]; exact q) (fun c o v q => by rw [upd_ne (nh c _ q)]; exact q) (fun c ps q => ⟨#[], by rw [upd_ne (nh c _ q), q]; simp⟩) (fun m hm => ?_) (fun c v q => ?_) I.bare
      · obtain ⟨o, es', ep, ho, r⟩ := hm
        exact ⟨o, es', ep, k2 _ o (Ne.symm (hf z (by simp)).2.1) (Ne.symm (hf TO (by simp)).2.1) (Ne.symm (hf i1 (by simp)).2.1) (Ne.symm (hf i2 (by simp)).2.1) ho, r⟩
      · by_cases e : c = s.heap.objs.size
        · subst e
          rw [upd_same] at q
          cases q
          exact ⟨by show 2 ≤ sizeLine; decide, [u, _], .cons ru (.cons rv .nil), _, ht2, rfl, _, rfl⟩
        · rw [upd_ne e] at q
          obtain ⟨n1, n2, n3, n4⟩ := ne' c v q
          refine (I.hok c v q).stay (fun d o hd w => ?_) (fun d w => by rw [upd_ne (nh d _ w)]; exact w) fun d xs w => by rw [upd_ne (nh d _ w)]; exact w
          rcases hd with y | y
          · rw [y] at w ⊢
            exact k2 c o n1 n2 n3 n4 w
          · obtain ⟨m1, m2, m3, m4⟩ := ne' d _ y
            exact k2 d o m1 m2 m3 m4 w
    · have hc' : c < s.heap.objs.size := by
        simp only [List.mem_cons, List.not_mem_nil, or_false] at hc
        rcases hc with rfl | rfl | rfl | rfl | rfl
        · exact hzl
        · exact Heap.lt_size hTI
        · exact Heap.lt_size hTO
        · obtain ⟨o, e, _⟩ := (nx_any (P := X.prog) (w := X.w) b1 c a1 #[]).obj i _ t1
          exact Heap.lt_size e
        · obtain ⟨o, e, _⟩ := (nx_any (P := X.prog) (w := X.w) b2 c a2 #[]).obj i _ t2
          exact Heap.lt_size e
      rw [upd_ne (Nat.ne_of_lt hc')]
      exact (hf c hc).1
  done := by
    intro X hP hw hK hc i pins s σ H E I hf st hg
    subst hP hw hK
    obtain ⟨xs, ys, hq1, hq2, hx⟩ := hg
    obtain ⟨us, rv1, p1, hz1⟩ := I.seqA hq1
    obtain ⟨vs, rv2, p2, hz2⟩ := I.seqA hq2
    have l1 := rv1.length
    have l2 := rv2.length
    obtain ⟨hz, hTI, ⟨a, b, hTO⟩, t1, t2⟩ := st
    refine zip_stop (I.ok.hd hc) (nx_any b1 i1 a1 us.toArray) (nx_any b2 i2 a2 vs.toArray) D hz hTI hTO t1 t2 p1 p2 (hx.imp (fun r => by simp; omega) fun r => by simp; omega) fun h' kk => ⟨rfl, ?_⟩
    have ko : ∀ c o, c ∉ [z, TI, TO, i1, i2] → s.heap.get? c = some o → h'.get? c = some o := fun c o hm q => kk c o (fun e => hm (by simp [e])) (fun e => hm (by simp [e])) (fun e => hm (by simp [e])) (fun e => hm (by simp [e])) q
    refine Inv.step (s := s) (h' := h') (t' := s.toks) (H := H) (H' := H) (g' := s.gens) (d' := s.drawn) (ch := [z, TI, TO, i1, i2]) I (fun c hc => ⟨(hf c hc).2.2.2.1, (hf c hc).2.1, (hf c hc).2.2.2.2.1, (hf c hc).2.2.2.2.2⟩) (fun c o _ _ m q _ => ko c o m q) (fun c o _ _ m q _ => ⟨o.slots, ko c o m q⟩) (fun c o _ q n => n) (fun c o m q => ⟨o, ko c o m q⟩)
      (fun c xs q => q) (fun c o v q => q) (fun c ps q => ⟨#[], by rw [q]; simp⟩) (fun m hm => ?_) (fun c v q => ?_) I.bare
    · obtain ⟨o, es', ep, ho, r⟩ := hm
      exact ⟨o, es', ep, kk _ o (Ne.symm (hf z (by simp)).2.1) (Ne.symm (hf TO (by simp)).2.1) (Ne.symm (hf i1 (by simp)).2.1) (Ne.symm (hf i2 (by simp)).2.1) ho, r⟩
    · have ne' : ∀ c v, H c = some v → c ≠ z ∧ c ≠ TO ∧ c ≠ i1 ∧ c ≠ i2 := fun c v q => ⟨ne_of_none q (hf z (by simp)).1, ne_of_none q (hf TO (by simp)).1, ne_of_none q (hf i1 (by simp)).1, ne_of_none q (hf i2 (by simp)).1⟩
      obtain ⟨n1, n2, n3, n4⟩ := ne' c v q
      refine (I.hok c v q).stay (fun d o hd w => ?_) (fun d w => w) fun d xs w => w
      rcases hd with y | y
      · rw [y] at w ⊢
        exact kk c o n1 n2 n3 n4 w
      · obtain ⟨m1, m2, m3, m4⟩ := ne' d _ y
        exact kk d o m1 m2 m3 m4 w
  self := fun A i s Q E st h => wpAny_pyIter_zip st.1 h
abbrev itObj (b : Bool) (a : Addr) : Obj := { cls := .type (if b then "tuple_iterator" else "list_iterator"), data := .fields #[.ref a, .int 0 0] }
theorem iter_any {P : Program} {w : World} {A : Around} {E : Value → Shared → Prop} {s : Shared} {b : Bool} {a : Addr} {xs : Array Value} {Q : Value → Shared → Prop} (h : LiA b a xs s.heap) (q : Q (.ref s.heap.objs.size) { s with heap := s.heap.push (itObj b a) }) : wpAny (model P w) A (pyIter (.ref a)) Q E s := match b, h, q with
  | true, h, q => wpAny_pyIter_tuple h q
  | false, h, q => wpAny_pyIter_list h q
theorem LiA.push {b : Bool} {a : Addr} {xs : Array Value} {h : Heap} (x : LiA b a xs h) (o : Obj) : LiA b a xs (h.push o) := match b, x with
  | true, x => Heap.IsTuple.push x o
  | false, x => Heap.IsList.push x o
theorem ItA.new (b : Bool) (a : Addr) (h : Heap) {it : Addr} (e : h.get? it = some (itObj b a)) : ItA b it a 0 h := match b, e with
  | true, e => ⟨_, e, rfl, rfl⟩
  | false, e => ⟨_, e, rfl, rfl⟩
theorem zip_made (b1 b2 : Bool) (l1 l2 : Addr) (xs ys : Array Value) : Meets (Builtin.«zip.__new__» ⟨[.type "zip", .ref l1, .ref l2], []⟩) (fun _ R s => LiA b1 l1 xs s.heap ∧ LiA b2 l2 ys s.heap ∧
      R (.ok (.ret (.ref ((((s.heap.push (itObj b1 l1)).push (itObj b2 l2)).push { cls := .type "tuple", data := .seq #[.ref s.heap.objs.size, .ref (s.heap.push (itObj b1 l1)).objs.size] }).push { cls := .type "tuple", data := .seq #[.none, .none] }).objs.size))) { s with heap := ((((s.heap.push (itObj b1 l1)).push (itObj b2 l2)).push { cls := .type "tuple", data := .seq #[.ref s.heap.objs.size, .ref (s.heap.push (itObj b1 l1)).objs.size] }).push { cls := .type "tuple", data := .seq #[.none, .none] }).push { cls := .type "zip", data := .fields #[.none, .bool false, .bool false, .ref ((s.heap.push (itObj b1 l1)).push (itObj b2 l2)).objs.size, .ref (((s.heap.push (itObj b1 l1)).push (itObj b2 l2)).push { cls := .type "tuple", data := .seq #[.ref s.heap.objs.size, .ref (s.heap.push (itObj b1 l1)).objs.size] }).objs.size] } }) :=
  .of_wp fun prog w A R s h => by
    obtain ⟨hp, g, d, tk, os⟩ := s
    obtain ⟨h1, h2, h⟩ := h
    have hsub := sub_zip
    have j1 : LiA b1 l1 xs (Shared.heap ⟨hp, g, d, tk, os⟩) := h1
    have j2 : LiA b2 l2 ys (Shared.heap ⟨hp.push (itObj b1 l1), g, d, tk, os⟩) := h2.push _
    wp_walk using iter_any j1, iter_any j2
    exact ⟨_, rfl, h⟩
theorem call_zipA {P : Program} {w : World} {A : Around} {E : Value → Shared → Prop} {s : Shared} {b1 b2 : Bool} {l1 l2 : Addr} {xs ys : Array Value} {Q : Value → Shared → Prop} (h1 : LiA b1 l1 xs s.heap) (h2 : LiA b2 l2 ys s.heap)
    (q : ∀ h', IsZip h' (s.heap.objs.size + 4) (s.heap.objs.size + 2) (s.heap.objs.size + 3) .none → IsPair h' (s.heap.objs.size + 2) (.ref s.heap.objs.size) (.ref (s.heap.objs.size + 1)) → IsPair h' (s.heap.objs.size + 3) .none .none → ItA b1 s.heap.objs.size l1 0 h' → ItA b2 (s.heap.objs.size + 1) l2 0 h' → (∀ c o, s.heap.get? c = some o → h'.get? c = some o) → Q (.ref (s.heap.objs.size + 4)) { s with heap := h' }) :
    wpAny (model P w) A (call (.type "zip") [.ref l1, .ref l2]) Q E s := by
  refine callType_new PySem.F.called_zip (by decide) (PySem.F.typeCall_zip_2 _ _) (PySem.F.newCall_zip_2 _ _) (fun obj => PySem.F.args_object_init_3 obj _ _) PySem.F.entry_zip_new (zip_made b1 b2 l1 l2 xs ys) ⟨h1, h2, ?_⟩
  generalize e1 : s.heap.push (itObj b1 l1) = g1 at *
  have z1 : g1.objs.size = s.heap.objs.size + 1 := by rw [← e1, Heap.size_push]
  have k1 : ∀ c o, s.heap.get? c = some o → g1.get? c = some o := fun c o r => by rw [← e1]; exact Heap.get?_push_of_some _ r
  have n1 : g1.get? s.heap.objs.size = some (itObj b1 l1) := by rw [← e1]; exact Heap.get?_push_size _ rfl
  generalize e2 : g1.push (itObj b2 l2) = g2 at *
  have z2 : g2.objs.size = s.heap.objs.size + 2 := by rw [← e2, Heap.size_push, z1]
  have k2 : ∀ c o, g1.get? c = some o → g2.get? c = some o := fun c o r => by rw [← e2]; exact Heap.get?_push_of_some _ r
  have n2 : g2.get? (s.heap.objs.size + 1) = some (itObj b2 l2) := by rw [← e2, ← z1]; exact Heap.get?_push_size _ rfl
  rw [z1, z2]
  generalize e3 : g2.push { cls := .type "tuple", data := .seq #[.ref s.heap.objs.size, .ref (s.heap.objs.size + 1)] } = g3 at *
  have z3 : g3.objs.size = s.heap.objs.size + 3 := by rw [← e3, Heap.size_push, z2]
  have k3 : ∀ c o, g2.get? c = some o → g3.get? c = some o := fun c o r => by rw [← e3]; exact Heap.get?_push_of_some _ r
  have n3 : IsPair g3 (s.heap.objs.size + 2) (.ref s.heap.objs.size) (.ref (s.heap.objs.size + 1)) := by rw [← e3, ← z2]; exact Heap.get?_push_size _ rfl
  rw [z3]
  generalize e4 : g3.push { cls := .type "tuple", data := .seq #[.none, .none] } = g4 at *
  have z4 : g4.objs.size = s.heap.objs.size + 4 := by rw [← e4, Heap.size_push, z3]
  have k4 : ∀ c o, g3.get? c = some o → g4.get? c = some o := fun c o r => by rw [← e4]; exact Heap.get?_push_of_some _ r
  have n4 : IsPair g4 (s.heap.objs.size + 3) .none .none := by rw [← e4, ← z3]; exact Heap.get?_push_size _ rfl
  rw [z4]
  have k5 : ∀ c o, g4.get? c = some o → (g4.push { cls := .type "zip", data := .fields #[.none, .bool false, .bool false, .ref (s.heap.objs.size + 2), .ref (s.heap.objs.size + 3)] }).get? c = some o := fun c o r => Heap.get?_push_of_some _ r
  have n5 : IsZip (g4.push { cls := .type "zip", data := .fields #[.none, .bool false, .bool false, .ref (s.heap.objs.size + 2), .ref (s.heap.objs.size + 3)] }) (s.heap.objs.size + 4) (s.heap.objs.size + 2) (s.heap.objs.size + 3) .none := by rw [← z4]; exact Heap.get?_push_size _ rfl
  exact ⟨⟨_, n5, rfl⟩, q _ n5 (k5 _ _ (k4 _ _ n3)) (k5 _ _ n4) (.new _ _ _ (k5 _ _ (k4 _ _ (k3 _ _ (k2 _ _ n1))))) (.new _ _ _ (k5 _ _ (k4 _ _ (k3 _ _ n2)))) fun c o r => k5 _ _ (k4 _ _ (k3 _ _ (k2 _ _ (k1 c o r))))⟩
theorem zip_apart {n l1 l2 : Nat} (h1 : l1 < n) (h2 : l2 < n) : ZipApart (n + 4) (n + 2) (n + 3) n (n + 1) l1 l2 := by
  constructor <;> intro (e : (_ : Nat) = _) <;> omega
theorem zip_above {n b : Nat} (h : b ∈ [n + 4, n + 2, n + 3, n, n + 1]) : n ≤ b := by
  simp only [List.mem_cons, List.not_mem_nil, or_false] at h
  omega
section
variable {X : Cx} {es : List Expr} {x1 : Nat} {tp : Pos}
def iZip (K : PySem.W.Frag) (ta : TA) : TI := fun σ H R => ta σ H fun vs H1 => ∃ (b1 b2 : Bool) (a1 a2 : Addr), vs = [.ref a1, .ref a2] ∧ (∃ xs, SqA K H1 b1 a1 xs) ∧ (∃ ys, SqA K H1 b2 a2 ys) ∧ R (Itz K b1 b2 a1 a2) H1
theorem pi_zip {e1 e2 : Expr} {ta : TA} {p pos : Pos} (hg : Gl X "zip") (hm : X.mg "zip" = none) (ha : PA X [e1, e2] ta) (hs : starEach [e1, e2] X.env = (false, eval e1 X.env) :: starEach [e2] X.env := by rfl) (hp : (backTo pos (starEach [e2] X.env)).any (·.1) = false := by rfl) : PI X (.Tuple es x1 tp) (.Call (.Name "zip" p) [e1, e2] [] pos) (iZip X.K ta) := by
  intro pins s σ H R I h
  refine Call_ (ld_blt I hg hm PyProof.Rows.Boot.«zip» (PyProof.Rows.callWith_type1 (thn (ha pos pins s σ H _ I h) fun us s1 ⟨vs, H1, I1, r1, q1⟩ => ?_) hs hp))
  obtain ⟨b1, b2, l1, l2, e, ⟨xs, hq1⟩, ⟨ys, hq2⟩, q⟩ := q1
  subst e
  obtain ⟨u1, u2, rfl, r2, r3⟩ := vals2 r1
  cases r2
  cases r3
  obtain ⟨its1, rv1, p1, hz1⟩ := I1.seqA hq1
  obtain ⟨its2, rv2, p2, hz2⟩ := I1.seqA hq2
  have lt1 : l1 < s1.heap.objs.size := by
    match b1, p1 with
    | true, ⟨o, e, _⟩ => exact Heap.lt_size e
    | false, ⟨o, e, _⟩ => exact Heap.lt_size e
  have lt2 : l2 < s1.heap.objs.size := by
    match b2, p2 with
    | true, ⟨o, e, _⟩ => exact Heap.lt_size e
    | false, ⟨o, e, _⟩ => exact Heap.lt_size e
  refine call_zipA p1 p2 fun h' gz gI gO t1 t2 hk => wpAny_pyIter_zip gz ?_
  refine ⟨s1.heap.objs.size + 4, [s1.heap.objs.size + 4, s1.heap.objs.size + 2, s1.heap.objs.size + 3, s1.heap.objs.size, s1.heap.objs.size + 1], _, _, H1, rfl, I1.kept (t' := s1.toks) hk, turn_zip (a1 := l1) (a2 := l2) (zip_apart lt1 lt2), ⟨gz, gI, ⟨_, _, gO⟩, t1, t2⟩, fun b hb => ?_, q⟩
  have hb' : s1.heap.objs.size ≤ b := zip_above hb
  exact I1.fpOk hb' (I1.hok.fresh hb')
end
end L2
end
section
set_option Elab.async false
set_option linter.all false
set_option maxRecDepth 100000
set_option maxHeartbeats 4000000
namespace L2
open PySem PySem.Spec PyProof.Rows LX
/-! ### a comprehension over zip's pairs -/
theorem comp_zip {K : PySem.W.Frag} {b1 b2 : Bool} {a1 a2 : Addr} {xs ys : List V} {te : TE} {Q : VK} {D : Addr} {τ : St} {H : Hp} (Pv : Nat → List V → Hp → Prop) (he : xs.length = ys.length) (h0 : Pv 0 [] H) (hD : ∀ i zs H, i ≤ xs.length → Pv i zs H → H D = some (.lst zs) ∧ zs.length = i) (hl : ∀ i zs H, i ≤ xs.length → Pv i zs H → SqA K H b1 a1 xs ∧ SqA K H b2 a2 ys) (hn : xs.length ≤ sizeLine)
    (hs : ∀ i x y zs H t, xs[i]? = some x → ys[i]? = some y → Pv i zs H → H t = none → te (some x :: some y :: τ) (upd H t (.tup [x, y])) fun v H4 => H4 D = some (.lst zs) ∧ Pv (i + 1) (zs ++ [v]) (upd H4 D (.lst (zs ++ [v])))) (hd : ∀ zs H, Pv xs.length zs H → Q (.ref D) H) : CompTo2 K (Itz K b1 b2 a1 a2) D τ te Q H := by
  refine ⟨fun i m zs H => m = xs.length - i ∧ i ≤ xs.length ∧ Pv i zs H, ⟨xs.length, by simp, Nat.zero_le _, h0⟩, ?_⟩
  rintro i m zs H2 ⟨rfl, hi, p⟩
  obtain ⟨d1, d2⟩ := hD i zs H2 hi p
  obtain ⟨s1, s2⟩ := hl i zs H2 hi p
  refine ⟨d1, ?_⟩
  by_cases hlt : i < xs.length
  · refine .inr ⟨⟨xs, ys, xs[i], ys[i]'(by omega), s1, s2, List.getElem?_eq_getElem hlt, List.getElem?_eq_getElem (by omega)⟩, by omega, Pv (i + 1), fun zs H' p' => ⟨xs.length - (i + 1), by omega, rfl, hlt, p'⟩, fun y H3 e => ?_⟩
    obtain ⟨t, x, y', e1, e2, e3, e4, e5⟩ := e
    subst e2 e5
    exact ⟨t, x, y', rfl, SqT.of upd_same, hs i x y' zs H2 t (e3 xs s1) (e4 ys s2) p e1⟩
  · have e : i = xs.length := by omega
    subst e
    exact .inl ⟨⟨xs, ys, s1, s2, .inl (Nat.le_refl _)⟩, hd zs H2 p⟩
/-! ### a text's signs -/
def Its (z : Str) : It := ⟨fun i _ => i < z.cps.size, fun i H y H' => H' = H ∧ ∃ c, z.cps[i]? = some c ∧ y = .str ⟨#[c]⟩, fun i _ => z.cps.size ≤ i⟩
/-- an iterator over z's signs: its object is one with fields -/
def StrIt (z : Str) (it : Addr) (i : Nat) (h : Heap) : Prop := ∃ t, h.IsStrIter it "str_ascii_iterator" z t i ∨ h.IsStrIter it "str_iterator" z t i
theorem turn_str {P : Program} {w : World} {K : PySem.W.Frag} {tg : Expr} (it : Addr) (z : Str) : Turn P w K tg (Its z) [it] it (StrIt z it) where
  mem := by simp
  obj := fun i h ⟨t, st⟩ b hb => by
    have e : b = it := by simpa using hb
    subst e
    rcases st with ⟨o, g, c, d⟩ | ⟨o, g, c, d⟩ <;> exact ⟨o, g, fun v r => by rw [d] at r; cases r⟩
  keep := fun i h h' ⟨t, st⟩ k => ⟨t, st.imp (fun ⟨o, g, r⟩ => ⟨o, k it (by simp) o g, r⟩) fun ⟨o, g, r⟩ => ⟨o, k it (by simp) o g, r⟩⟩
  item := by
    intro X hP hw hK hc i pins s σ H E I hf st hg
    subst hP hw hK
    obtain ⟨f0, f1, f2, f3, f4, f5⟩ := hf it (by simp)
    obtain ⟨t, st | st⟩ := st
    · refine (Walks.strAscii (prog := X.prog) (w := X.w) (I.ok.hd hc) it z t).item i s _ _ hg st fun v h' tk hv st' kk => ?_
      obtain ⟨c, u, hc', rfl⟩ := hv
      have I1 : Inv X pins σ H { s with heap := h', toks := tk } := I.turned (fun b o hb e => kk b o (by simpa using hb) e) f0 f1 f3 f4 f5
      obtain ⟨o, g, cl, d⟩ := id st'
      exact ⟨_, rfl, go_of (s := { s with heap := h', toks := tk }) g cl d (by decide) ⟨.str ⟨#[c]⟩, H, I1, ⟨u, rfl⟩, ⟨rfl, c, hc', rfl⟩, ⟨t, .inl st'⟩, fun b hb => (hf b hb).1⟩⟩
    · refine (Walks.strWide (prog := X.prog) (w := X.w) (I.ok.hd hc) it z t).item i s _ _ hg st fun v h' tk hv st' kk => ?_
      obtain ⟨c, u, hc', rfl⟩ := hv
      have I1 : Inv X pins σ H { s with heap := h', toks := tk } := I.turned (fun b o hb e => kk b o (by simpa using hb) e) f0 f1 f3 f4 f5
      obtain ⟨o, g, cl, d⟩ := id st'
      exact ⟨_, rfl, go_of (s := { s with heap := h', toks := tk }) g cl d (by decide) ⟨.str ⟨#[c]⟩, H, I1, ⟨u, rfl⟩, ⟨rfl, c, hc', rfl⟩, ⟨t, .inr st'⟩, fun b hb => (hf b hb).1⟩⟩
  done := by
    intro X hP hw hK hc i pins s σ H E I hf st hg
    subst hP hw hK
    obtain ⟨f0, f1, f2, f3, f4, f5⟩ := hf it (by simp)
    have hn : z.cps[i]? = none := Array.getElem?_eq_none hg
    obtain ⟨t, st | st⟩ := st
    · exact wpAny_pyNext_ascii_end (I.ok.hd hc) st hn fun h' eb => ⟨rfl, I.turned (t' := s.toks) (fun b o hb e => eb b o hb e) f0 f1 f3 f4 f5⟩
    · exact wpAny_pyNext_wide_end (I.ok.hd hc) st hn fun h' eb => ⟨rfl, I.turned (t' := s.toks) (fun b o hb e => eb b o hb e) f0 f1 f3 f4 f5⟩
  self := fun _ _ _ _ _ ⟨_, st⟩ h => st.elim (fun st => wpAny_pyIter_striter_ascii st h) fun st => wpAny_pyIter_striter_wide st h
section
variable {X : Cx}
def iStr (tl : TE) : TI := fun σ H R => tl σ H fun x H1 => ∃ z, x = .str z ∧ R (Its z) H1
theorem pi_str {tg l : Expr} {tl : TE} (hl : PE X l tl) : PI X tg l (iStr tl) := by
  intro pins s σ H R I h
  refine thn (hl pins s σ H _ I h) fun v s1 ⟨x, H1, I1, r1, q1⟩ => ?_
  obtain ⟨z, e, q⟩ := q1
  subst e
  obtain ⟨t, rfl⟩ := r1
  have fin : ∀ o : Obj, StrIt z s1.heap.objs.size 0 (s1.heap.push o) → PIE X pins σ tg R (.ref s1.heap.objs.size) { s1 with heap := s1.heap.push o } := fun o st => by
    refine ⟨s1.heap.objs.size, [s1.heap.objs.size], _, _, H1, rfl, I1.kept (t' := s1.toks) fun b o e => Heap.get?_push_of_some _ e, turn_str _ z, st, fun b hb => ?_, q⟩
    have e : b = s1.heap.objs.size := by simpa using hb
    subst e
    exact I1.fpOk (Nat.le_refl _) (I1.hok.fresh (Nat.le_refl _))
  cases ha : z.cps.all (· < 128) with
  | true => exact wpAny_pyIter_ascii ha (fin _ ⟨t, .inl ⟨_, Heap.get?_push_size _ rfl, rfl, rfl⟩⟩)
  | false => exact wpAny_pyIter_wide ha (fin _ ⟨t, .inr ⟨_, Heap.get?_push_size _ rfl, rfl, rfl⟩⟩)
theorem comp_str {z : Str} {te : TE} {Q : VK} {D : Addr} {τ : St} {H : Hp} (Pv : Nat → List V → Hp → Prop) (h0 : Pv 0 [] H) (hD : ∀ i ys H, i ≤ z.cps.size → Pv i ys H → H D = some (.lst ys) ∧ ys.length = i) (hn : z.cps.size ≤ sizeLine)
    (hs : ∀ i c ys H, z.cps[i]? = some c → Pv i ys H → te (some (.str ⟨#[c]⟩) :: τ) H fun v H4 => H4 D = some (.lst ys) ∧ Pv (i + 1) (ys ++ [v]) (upd H4 D (.lst (ys ++ [v])))) (hd : ∀ ys H, Pv z.cps.size ys H → Q (.ref D) H) : CompTo (Its z) D τ te Q H := by
  refine ⟨fun i m ys H => m = z.cps.size - i ∧ i ≤ z.cps.size ∧ Pv i ys H, ⟨z.cps.size, by simp, Nat.zero_le _, h0⟩, ?_⟩
  rintro i m ys H2 ⟨rfl, hi, p⟩
  obtain ⟨d1, d2⟩ := hD i ys H2 hi p
  refine ⟨d1, ?_⟩
  by_cases hlt : i < z.cps.size
  · refine .inr ⟨hlt, by omega, Pv (i + 1), fun zs H' p' => ⟨z.cps.size - (i + 1), by omega, rfl, hlt, p'⟩, fun y H3 e => ?_⟩
    obtain ⟨e1, c, e2, e3⟩ := e
    subst e1 e3
    exact hs i c ys _ e2 p
  · have e : i = z.cps.size := by omega
    subst e
    exact .inl ⟨Nat.le_refl _, hd ys H2 p⟩
/-! ### is True, is False; str(text), int(bool), tuple(list), text[1:] -/
theorem call_intB : CallR X (.type "int") (fun xs H Q => ∃ b : Bool, xs = [.bl b] ∧ Q (.int (if b then 1 else 0)) H) := by
  rintro pins s σ H xs us Q I r ⟨b, rfl, q⟩
  obtain ⟨u, rfl, r1⟩ := r.one
  cases r1
  exact call_int_bool ⟨.int _, H, I.tok _, ⟨_, rfl⟩, q⟩
def rTupL (K : PySem.W.Frag) : List V → Hp → VK → Prop := fun vs H Q => ∃ p xs, vs = [.ref p] ∧ SqL K H p xs ∧ ∀ l, H l = none → Q (.ref l) (upd H l (.tup xs))
theorem call_tupL : CallR X (.type "tuple") (rTupL X.K) := by
  rintro pins s σ H xs us Q I r ⟨p, ys, rfl, hp, q⟩
  obtain ⟨u, rfl, ru⟩ := r.one
  cases (show u = Value.ref p from ru)
  obtain ⟨its, rv, pl, hz⟩ := I.list hp
  refine call_tuple_list pl.isList (fun h' kk => ?_) (by rw [List.size_toArray, ← rv.length]; exact hz)
  have I1 : Inv X pins σ H { s with heap := h', toks := s.toks } := I.kept (t' := s.toks) kk
  exact ⟨.ref h'.objs.size, _, I1.laid (a := h'.objs.size) (o := .tup ys) (t' := s.toks) (fun b o e => Heap.get?_push_of_some _ e) (Nat.le_refl _) ⟨hz, its, rv, IsTup.new _ _⟩, rfl, q _ (I1.hok.fresh (Nat.le_refl _))⟩
def tailS (z : Str) : Str := ⟨(z.cps.toList.drop 1).toArray⟩
theorem picked_tail (z : Str) (t : Tok) : (slicePicked z (some (1, t)) none none).filterMap (z.cps[·]?) = z.cps.toList.drop 1 := by
  have e : slicePicked z (some (1, t)) none none = (List.range (z.length - 1)).map (· + 1) := by
    unfold slicePicked Builtin.Str.strSliceIndices sliceRange
    simp only [Option.map_some, Option.map_none, Option.getD_none]
    rw [if_neg (show ¬ (1 : Int) < 0 by decide)]
    simp only [show (1 : Int) > 0 by decide, if_true]
    by_cases h : z.length = 0
    · rw [h]
      rfl
    · have h1 : max (0 : Int) (min 1 (z.length : Int)) = 1 := by omega
      rw [h1]
      by_cases h2 : (1 : Int) < (z.length : Int)
      · rw [if_pos h2]
        have h3 : (((z.length : Int) - 1 + 1 - 1) / 1).toNat = z.length - 1 := by omega
        rw [h3]
        refine List.map_congr_left fun k _ => ?_
        omega
      · rw [if_neg h2]
        have h4 : z.length - 1 = 0 := by omega
        rw [h4]
        rfl
  rw [e, List.filterMap_map]
  refine List.ext_getElem? fun i => ?_
  have h5 : ∀ n ≤ z.length - 1, (List.range n).filterMap ((fun x => z.cps[x]?) ∘ fun x => x + 1) = (z.cps.toList.drop 1).take n := by
    intro n
    induction n with
    | zero => intro _; rfl
    | succ n ih =>
      intro hn
      have hlt : n + 1 < z.cps.size := by
        have : z.length = z.cps.size := rfl
        omega
      rw [List.range_succ, List.filterMap_append, ih (by omega), List.take_succ]
      congr 1
      rw [List.getElem?_drop]
      simp [hlt, Nat.add_comm]
  rw [h5 _ (Nat.le_refl _), List.take_of_length_le]
  rw [List.length_drop, Array.length_toList]
  exact Nat.le_refl _
def rSl1 : V → Option Int → Option Int → Hp → VK → Prop := fun x lo hi H Q => ∃ z, x = .str z ∧ lo = some 1 ∧ hi = none ∧ 1 ≤ z.length ∧ z.length ≤ sizeLine ∧ Q (.str (tailS z)) H
theorem sl_str1 : SlR X rSl1 := by
  rintro pins s σ H x v vl vu lo hi sl Q I rx hs pl pu ⟨z, rfl, rfl, rfl, h1, hz, q⟩
  obtain ⟨t, rfl⟩ := rx
  cases pl with
  | int i u =>
    cases pu
    refine ⟨"str", _, PySem.F.slot_str_getitem.lookup, typeIs_str _ _ _, wpAny_getItem_str_slice (l := some (1, u)) (u := none) (st := none) hs rfl ?_⟩
    have e := picked_tail z u
    have el : (slicePicked z (some (1, u)) none none).length = z.length - 1 := by
      unfold slicePicked Builtin.Str.strSliceIndices sliceRange
      simp only [Option.map_some, Option.map_none, Option.getD_none]
      rw [if_neg (show ¬ (1 : Int) < 0 by decide)]
      simp only [show (1 : Int) > 0 by decide, if_true, List.length_map, List.length_range]
      split <;> omega
    unfold sliceMade
    rw [if_neg (by rw [el]; simp; omega), e]
    exact ⟨by show (z.cps.toList.drop 1).toArray.size ≤ sizeLine; rw [List.size_toArray, List.length_drop, Array.length_toList]; exact Nat.le_trans (Nat.sub_le _ _) hz, ⟨.str (tailS z), H, I.tok _, ⟨_, rfl⟩, q⟩⟩
/-! ### a dict of the text: its keys texts, never changed -/
structure KDict (K : PySem.W.Frag) (P : Params) (a : Addr) : Prop where
  ex : ∃ es n, K.lookup a = some ⟨.type "dict", none, .dict es n, #[]⟩ ∧ PySem.W.KeysLit P es.toList
  lo : (a == sysModules) = false
def tKGet (K : PySem.W.Frag) (P : Params) (td ty : TE) : TE := fun σ H Q => td σ H fun x H1 => ty σ H1 fun y H2 => ∃ a z u v, x = .ref a ∧ y = .str z ∧ KDict K P a ∧ PySem.W.nsIn K a z = some (some u) ∧ RelV v u ∧ Q v H2
theorem pe_kget {o i : Expr} {td ty : TE} {pos : Pos} (ho : PE X o td) (hi : PE X i ty) (hs : NoSl i) : PE X (.Subscript o i pos) (tKGet X.K X.w.params td ty) := by
  intro pins s σ H Q I h
  refine subD_of PySem.F.slot_dict_getitem.lookup hs (thn (ho pins s σ H _ I h) fun u s1 ⟨x, H1, I1, rx, q1⟩ => thn (hi pins s1 σ H1 _ I1 q1) fun iv s2 ⟨y, H2, I2, ry, a, z, u', v, ex, ey, kd, hn, rv, q2⟩ => ?_)
  subst ex ey
  obtain rfl : u = Value.ref a := rx
  obtain ⟨t, rfl⟩ := ry
  obtain ⟨⟨es, n, hl, hk⟩, lo⟩ := kd
  have hm := PySem.W.mapOf_K (prog := X.prog) (w := X.w) (h := s2.heap) (fun b ob e => I2.kIn b ob e) hl hk
  exact ⟨hm.typeIs, wpAny_getItem_of (strKind_is X.prog X.w z t) hm (PySem.W.find_K hl hn) ⟨v, H2, I2.tok _, rv, q2⟩⟩
def rKIn (K : PySem.W.Frag) (P : Params) : R2 := fun y x H Q => ∃ a z r, x = .ref a ∧ y = .str z ∧ KDict K P a ∧ PySem.W.nsIn K a z = some r ∧ Q (.bl r.isSome) H
theorem op_kin : OpR X (compareOp .In) (rKIn X.K X.w.params) := by
  rintro pins s σ H y x v u Q I ry rx ⟨a, z, r, rfl, rfl, ⟨⟨es, n, hl, hk⟩, lo⟩, hn, q⟩
  cases rx
  obtain ⟨t, rfl⟩ := ry
  have hm := PySem.W.mapOf_K (prog := X.prog) (w := X.w) (h := s.heap) (fun b ob e => I.kIn b ob e) hl hk
  refine wpAny_in_of (strKind_is X.prog X.w z t) lo hm ?_
  rw [PySem.W.find_K hl hn]
  exact ⟨.bl r.isSome, H, I.tok _, rfl, q⟩
end
end L2
end
section
set_option Elab.async false
set_option linter.all false
set_option maxRecDepth 100000
set_option maxHeartbeats 4000000
namespace L2
open PySem PySem.Spec PyProof.Rows LX PySem.W PySem.Builtin.Int PySem.Calls
/-! ### the script's numbers have at most 2^20 bits -/
theorem bits_in : ∀ {ns : List Int} {b : Nat}, WData.weightAll (ns.map WData.int) ≤ b → ∀ x ∈ ns, intBits x ≤ b
  | [], b, _, x, hx => nomatch hx
  | n :: ns, b, h, x, hx => by
    rw [List.map_cons] at h
    have h' : WData.weight (.int n) + 1 + WData.weightAll (ns.map WData.int) ≤ b := h
    rcases List.mem_cons.mp hx with e | hx
    · rw [e]
      have : WData.weight (.int n) = intBits n := rfl
      omega
    · exact bits_in (b := b) (by omega) x hx
theorem attachB {l : OpenLaw} {n : Nat} {q : Program} {loose : List Str} {XP : (Str → Option Value) → Heap → Prop} {YP : World → Heap → Prop} {d : DefRec} (hn : l.most = some n) (hdf : d.params.defaults = [])
    (call : ∀ (w : World) (s₀ s₁ : Shared) (mg mb : Str → Option Value) (fa : Addr) (o : Obj) (pm cd doc : Value) (a : Addr) (vs : List Value) (ns : List Int), Ground q loose [] XP w s₀ mg mb s₁.heap → YP w s₁.heap →
      s₁.heap.get? fa = some o → o.data = .func (docDef d.name d.params d.body d.scope pm cd doc) → s₁.heap.CodeRec cd d.name → mg d.name = some (.ref fa) → s₁.heap.get? a = some { cls := .type "list", data := .seq vs.toArray } → IntsAre vs ns → ns.length ≤ n → (∀ x ∈ ns, intBits x ≤ 2 ^ 20) → s₁.gens = #[] →
      codeAny (model l.prog w) callerA (.call (.ref fa) ⟨[.ref a], []⟩) (fun r s' => r = .ok (.ret (.bool true)) ∧ OldK s₁.heap s'.heap ∧ s'.os = s₁.os ∧ AllBare s'.gens) s₁) : WalkO q loose XP YP l.row.toRowW d [] (fun f vs => PySem.call f vs) := by
  intro w s₀ s₁ mg mb G Y fa o pm cd doc dV kV ho hd hcd hD hmg hg args vals as hpre hlay hrd hwl hlo
  obtain rfl : dV = .none := Dflts.none hD hdf
  obtain rfl : kV = .none := Dflts.noKw hD
  obtain ⟨a, vs, ns, rfl, rfl, hobj, hints, hlen⟩ := Att.script_of hn hpre hwl
  have hb : ∀ x ∈ ns, intBits x ≤ 2 ^ 20 := by
    have h1 := List.all_eq_true.mp hlay (.list (ns.map WData.int)) List.mem_cons_self
    unfold WData.layable at h1
    rw [Bool.and_eq_true, Bool.and_eq_true] at h1
    exact bits_in (of_decide_eq_true h1.2)
  refine enter_call (codeAny_mono (call w s₀ s₁ mg mb fa o pm cd doc a vs ns G Y ho (fd_plain hd) hcd hmg hobj hints hlen hb hg) fun r s' hq => ?_)
  obtain ⟨rfl, h2, h3, h4⟩ := hq
  exact ⟨.inl ⟨.bool true, .bool true, [], rfl, fun _ => rfl, .bool true, Att.post_true l _, fun _ => ⟨List.Pairwise.nil, fun _ hm => (nomatch hm)⟩⟩, h2, h3, h4⟩
theorem walk_ofB {l : PySem.W.OpenLaw} {n k : Nat} {q : Program} {loose : List Str} {XP : (Str → Option Value) → Heap → Prop} {YP : World → Heap → Prop} {d : DefRec} {K : Params → PySem.W.Frag} {CX : World → CXT} {sp : World → Sp} {x : Str}
    (hn : l.most = some n) (hn2 : n ≤ sizeLine) (hdf : d.params.defaults = []) (hr : Room k callerA) (hY : ∀ (w : World) (h : Heap), YP w h → (K w.params).In h)
    (F : ∀ (w : World) (mg : Str → Option Value) (fa : Addr) (h : Heap), (K w.params).In h → h.Ns mainGlobals mg → mg d.name = some (.ref fa) → ∃ fd : FuncData, (∀ (s : Shared) (u : Value), BindsTo s fd ⟨[u], []⟩ [(x, u)]) ∧ ∀ base : Heap, (K w.params).In base → base.Ns mainGlobals mg → FnOk l.prog w (K w.params) mg base (CX w) k fa fd [x] (sp w))
    (hsp : ∀ (w : World) (H : Hp) (a : Addr) (ns : List Int), ns.length ≤ n → (∀ x ∈ ns, intBits x ≤ 2 ^ 20) → Only H → SqL (K w.params) H a (ns.map V.int) → sp w [.ref a] H (fun v _ => v = .bl true) fun _ _ _ => False)
    (hCX : ∀ (w : World) (H : Hp) (s : Shared) (e : Value) (s' : Shared), CX w [] H s (fun _ _ _ => False) e s' → False) : PySem.W.WalkO q loose XP YP l.row.toRowW d [] (fun f vs => PySem.call f vs) := by
  refine attachB hn hdf fun w s₀ s₁ mg mb fa o pm cd doc a vs ns G Y ho hd hcd hmg hobj hints hlen hb hg => ?_
  have KX := hY w _ Y
  obtain ⟨fd, hbd, hF⟩ := F w mg fa _ KX G.T.g hmg
  exact law_call KX G.T.g G.T.b G.T.builtins G.T.nolimit hg hobj hints (Nat.le_trans hlen hn2) hr hF hbd (fun H hO hS => hsp w H a ns hlen hb hO hS) fun H e s' => hCX w H s₁ e s'
end L2
end
section
set_option Elab.async false
set_option linter.all false
set_option maxRecDepth 100000
set_option maxHeartbeats 4000000
namespace L2
open PySem PySem.Spec PyProof.Rows LX
/-! ### a tuple of flat parts: not in a list of such tuples -/
section
variable {X : Cx}
end
end L2
end
section
set_option Elab.async false
set_option linter.all false
set_option maxRecDepth 100000
set_option maxHeartbeats 4000000
namespace L2
open PySem PySem.Spec PyProof.Rows LX
section
variable {X : Cx}
/-! ### isinstance of a number or a text with a tuple of the builtins' classes -/
end
end L2
end
section
set_option Elab.async false
set_option linter.all false
set_option maxRecDepth 100000
set_option maxHeartbeats 4000000
namespace L2
open PySem PySem.Spec PyProof.Rows LX
section
variable {X : Cx}
/-- a text times a number, its text told -/
def rMulT : R2 := fun x y H Q => ∃ z k, x = .str z ∧ y = .int k ∧ MulOk z k ∧ Q (.str (Txt.mul z k)) H
theorem op_mulT : OpR X (binaryOp .Mult) rMulT := by
  intro pins s σ H x y v u Q I rx ry h
  obtain ⟨z, k, rfl, rfl, h0, q⟩ := h
  obtain ⟨t, rfl⟩ := rx
  obtain ⟨t', rfl⟩ := ry
  exact SB.mul h0 fun t2 k2 => ⟨.str _, H, I.tok _, ⟨_, rfl⟩, q⟩
end
end L2
end
section
set_option Elab.async false
set_option linter.all false
set_option maxRecDepth 100000
set_option maxHeartbeats 4000000
namespace L2
open PySem PySem.Spec PyProof.Rows LX
section
variable {X : Cx}
/-- text.upper() -/
def rUpper : V → List V → Hp → VK → Prop := fun x vs H Q => ∃ z : Str, x = .str z ∧ vs = [] ∧ Builtin.Str.tooLong (Txt.upper z).length = false ∧ Q (.str (Txt.upper z)) H
theorem mt_upper : MtM X "str.upper" rUpper := by
  rintro pins s σ H x xs v us Q I rx rv ⟨z, rfl, rfl, hz, q⟩
  obtain ⟨t, rfl⟩ := rx
  cases rv
  exact SC.upper hz ⟨.str (Txt.upper z), H, I.tok _, ⟨_, rfl⟩, q⟩
end
end L2
end
section
set_option Elab.async false
set_option linter.all false
set_option maxRecDepth 100000
set_option maxHeartbeats 4000000
namespace L2
open PySem PySem.Spec PyProof.Rows LX
section
variable {X : Cx}
/-- PE, PSs, once a token has been given out -/
def PEk (X : Cx) (e : Expr) (t : TE) : Prop :=
  ∀ (pins : List (Addr × Obj)) (s : Shared) (σ : St) (H : Hp) (Q : VK), Inv X pins σ H s → 0 < s.toks → t σ H Q → wpAny (model X.prog X.w) X.A (eval e X.env) (EP X pins σ Q) X.xe s
def PSk (X : Cx) (st : List Stmt) (t : TS) : Prop :=
  ∀ (pins : List (Addr × Obj)) (s : Shared) (σ : St) (H : Hp) (D : Ends), Inv X pins σ H s → 0 < s.toks → t D σ H → wpAny (model X.prog X.w) X.A (execs st X.env) (SP X pins D) X.xe s
/-- a number that is a written one -/
def tEqK (ta : TE) (i : Int) : TT := fun σ H Q => ta σ H fun x H1 => ∃ c : Int, x = .int c ∧ Q (decide (c = i)) H1
theorem ps_ifK {a : Expr} {th el : List Stmt} {i : Int} {j p1 p2 pos} {ta : TE} {t u : TS} (ha : PE X a ta) (hk : PSk X th t) (hb : PSs X el u) :
    PS X (.If (.Compare a [.Eq] [.Constant (.int i) j p2] p1) th el pos) (tIfS (tEqK ta i) t u) := by
  intro pins s σ H D I h
  refine wpAny_If (wpAny_isTrue_Compare1 (thn (ha pins s σ H _ I h) fun v s1 ⟨x, H1, I1, r1, c, e, q1⟩ => wpAny_Constant_int ?_) rfl)
  subst e
  obtain ⟨t', rfl⟩ := r1
  refine eq_int (wpAny_truthy_bool ?_)
  have I2 := I1.tok (s1.toks + 1)
  have p2 : 0 < ({ s1 with toks := s1.toks + 1 } : Shared).toks := Nat.succ_pos _
  by_cases hc : c = i
  · rw [show (c == i) = true from by simp [hc]]
    rw [show decide (c = i) = true from by simp [hc]] at q1
    exact hk pins _ σ H1 D I2 p2 (by rw [if_pos rfl] at q1; exact q1)
  · rw [show (c == i) = false from by simp [hc]]
    rw [show decide (c = i) = false from by simp [hc]] at q1
    exact hb pins _ σ H1 D I2 (by rw [if_neg Bool.false_ne_true] at q1; exact q1)
theorem psk_ret {e : Expr} {te : TE} {pos} (he : PEk X e te) : PSk X [.Return (some e) pos] (tRet te) := by
  intro pins s σ H D I hp h
  refine wpAny_execs_cons (wpAny_Return_some (thn (he pins s σ H _ I hp h) fun v s1 ⟨x, H1, I1, r1, q1⟩ => ⟨x, σ, H1, I1, r1, q1⟩))
theorem pk_op {op : Operator} {r : R2} {a b : Expr} {ta tb : TE} {pos} (ho : OpR X (binaryOp op) r) (ha : PEk X a ta) (hb : PE X b tb) : PEk X (.BinOp a op b pos) (tOp r ta tb) := by
  intro pins s σ H Q I hp h
  exact wpAny_BinOp (thn (ha pins s σ H _ I hp h) fun v s1 ⟨x, H1, I1, r1, q1⟩ => thn (hb pins s1 σ H1 _ I1 q1) fun u s2 ⟨y, H2, I2, r2, q2⟩ => ho pins s2 σ H2 x y v u Q I2 r1 r2 q2)
/-- name.replace(y, z) of two written texts -/
def tRepl (i : Nat) (y z : Str) : TE := fun σ H Q => ∃ x : Str, σ[i]? = some (some (.str x)) ∧ x.length + (x.length + 1) * z.length ≤ 16777216 ∧ Q (.str (Txt.replace x y z)) H
theorem pk_repl (i : Nat) {x y z : Str} {p1 p2 p3 apos cpos : Pos} {j1 j2} (hyz : (y == z) = false) (hN : X.N[i]? = some x := by rfl) (hv : Vis X.env.scope x := by first | exact Or.inl rfl | exact Or.inr (Or.inl rfl) | exact Or.inr (Or.inr rfl)) (hd : (x == ("__debug__" : Str)) = false := by decide)
    (hcd : (x == ("__classdict__" : Str)) = false := by decide)
    (hbase : attributeBase (.Name x p1) "replace" X.env (eval (.Name x p1) X.env) = eval (.Name x p1) X.env := by rfl)
    (hline : (apos.endLine == cpos.line) = true := by rfl) :
    PEk X (.Call (.Attribute (.Name x p1) "replace" apos) [.Constant (.str y) j1 p2, .Constant (.str z) j2 p3] [] cpos) (tRepl i y z) := by
  intro pins s σ H Q I hp h
  obtain ⟨v, e, hl, q⟩ := h
  have go : ∀ t : Tok, MethodOn X.prog X.w X.A "replace" cpos (.str v t) (backTo cpos (starEach [.Constant (.str y) j1 p2, .Constant (.str z) j2 p3] X.env)) (EP X pins σ Q) X.xe s := fun t => by
    refine ⟨"str", "str.replace", PySem.F.plainAttrs_str, PySem.F.slot_str_replace, PySem.F.type_str_replace, typeIs_str s v t, (fun _ e => nomatch e), ?_⟩
    refine Calls.callWith_builtin rfl (Calls.evalArgs_plain ?_)
    refine Calls.spliced_cons (Calls.Constant_str (k := j1) (pos := p2) (Calls.spliced_cons (Calls.Constant_str (k := j2) (pos := p3) (Calls.spliced_nil ?_))))
    exact SC.replace (Nat.pos_iff_ne_zero.mp hp) (Nat.succ_ne_zero _) (Nat.ne_of_lt (Nat.lt_succ_self _)) hyz hl fun t' k => ⟨.str (Txt.replace v y z), H, (((I.tok _).tok _).tok _), ⟨_, rfl⟩, q⟩
  obtain ⟨m, hn, hl'⟩ := I.loc
  obtain ⟨u, r, l⟩ := hl' i x _ hN e hv
  obtain ⟨t, rfl⟩ := r
  refine wpAny_Call_method_late hbase rfl hline rfl ?_
  rcases l with ⟨hk, hm⟩ | ⟨hk, c, hc, hcell⟩
  · exact wpAny_Name (wpAny_loadName_local I.ok.kind hk hn hm (go t)) hd
  · rcases hk with hk | hk
    · exact wpAny_Name (wpAny_loadName_cell I.ok.kind hk hc hcell (go t)) hd
    · exact wpAny_Name (wpAny_loadName_free I.ok.kind hk hc hcell (go t) hcd) hd
end
end L2
end
section
set_option Elab.async false
set_option linter.all false
set_option maxRecDepth 100000
set_option maxHeartbeats 4000000
set_option exponentiation.threshold 4000
namespace K75
open PySem L2 LX PySem.NumText
/-! ### numbers as texts -/
/-- a number that a log may have -/
def Sm (n : Int) : Prop := -(10 ^ 60) ≤ n ∧ n ≤ 10 ^ 60
theorem sm_log {n : Int} (h : Sm n) : n.natAbs.log2 < 1920 := by
  obtain ⟨h1, h2⟩ := h
  by_cases h0 : n.natAbs = 0
  · rw [h0]; decide
  · exact (Nat.log2_lt h0).mpr (Nat.lt_of_le_of_lt (show n.natAbs ≤ 10 ^ 60 by omega) (by decide))
/-! ### joined, and split again -/
theorem join_cps (sep : Str) (x y : Str) (r : List Str) : (Txt.join sep (x :: y :: r)).cps.toList = x.cps.toList ++ (sep.cps.toList ++ (Txt.join sep (y :: r)).cps.toList) := by
  show (Builtin.Str.glued sep (x :: y :: r)).cps.toList = x.cps.toList ++ (sep.cps.toList ++ (Builtin.Str.glued sep (y :: r)).cps.toList)
  rw [StrLaws.glued_eq_join, StrLaws.glued_eq_join]
  show ((x ++ sep) ++ Str.join sep (y :: r)).cps.toList = _
  show ((x.cps ++ sep.cps) ++ (Str.join sep (y :: r)).cps).toList = _
  rw [Array.toList_append, Array.toList_append, List.append_assoc]
theorem join_one (sep x : Str) : Txt.join sep [x] = x := rfl
theorem cut_one : ∀ {c : Nat} {a b x y : List Nat}, c ∉ a → c ∉ b → a ++ c :: x = b ++ c :: y → a = b ∧ x = y
  | c, [], [], x, y, _, _, e => ⟨rfl, by injection e⟩
  | c, [], d :: b, x, y, _, hb, e => absurd (by injection e with e1; rw [e1]; exact List.mem_cons_self) hb
  | c, d :: a, [], x, y, ha, _, e => absurd (by injection e with e1; rw [← e1]; exact List.mem_cons_self) ha
  | c, d :: a, d' :: b, x, y, ha, hb, e => by
    injection e with e1 e2
    obtain ⟨h1, h2⟩ := cut_one (fun z => ha (List.mem_cons_of_mem _ z)) (fun z => hb (List.mem_cons_of_mem _ z)) e2
    exact ⟨by rw [e1, h1], h2⟩
theorem str_ext {x y : Str} (h : x.cps.toList = y.cps.toList) : x = y := by
  cases x
  cases y
  congr
  exact Array.toList_inj.mp h
theorem join_inj {c : Nat} : ∀ {xs ys : List Str}, xs ≠ [] → ys ≠ [] → (∀ x ∈ xs, c ∉ x.cps.toList) → (∀ y ∈ ys, c ∉ y.cps.toList) → Txt.join ⟨#[c]⟩ xs = Txt.join ⟨#[c]⟩ ys → xs = ys
  | [], _, h, _, _, _, _ => absurd rfl h
  | _ :: _, [], _, h, _, _, _ => absurd rfl h
  | [x], [y], _, _, _, _, e => by rw [join_one, join_one] at e; rw [e]
  | [x], y :: y2 :: ys, _, _, hx, _, e => by
    have e1 := congrArg (fun z => z.cps.toList) e
    simp only [join_one, join_cps] at e1
    exact absurd (by rw [e1]; exact List.mem_append_right _ (List.mem_append_left _ (by simp))) (hx x List.mem_cons_self)
  | x :: x2 :: xs, [y], _, _, _, hy, e => by
    have e1 := congrArg (fun z => z.cps.toList) e
    simp only [join_one, join_cps] at e1
    exact absurd (by rw [← e1]; exact List.mem_append_right _ (List.mem_append_left _ (by simp))) (hy y List.mem_cons_self)
  | x :: x2 :: xs, y :: y2 :: ys, _, _, hx, hy, e => by
    have e1 := congrArg (fun z => z.cps.toList) e
    simp only [join_cps] at e1
    obtain ⟨h1, h2⟩ := cut_one (hx x List.mem_cons_self) (hy y List.mem_cons_self) (show x.cps.toList ++ c :: (Txt.join ⟨#[c]⟩ (x2 :: xs)).cps.toList = y.cps.toList ++ c :: (Txt.join ⟨#[c]⟩ (y2 :: ys)).cps.toList from e1)
    rw [str_ext h1, join_inj (by simp) (by simp) (fun z hz => hx z (List.mem_cons_of_mem _ hz)) (fun z hz => hy z (List.mem_cons_of_mem _ hz)) (str_ext h2)]
theorem split_ne (x y : Str) : Txt.split x y ≠ [] := by
  unfold Txt.split
  split
  · simp
  · split
    · simp
    · rw [StrLaws.partsBetween_eq]
      obtain ⟨p, r, e⟩ := StrLaws.partsFrom_ne x y.length 0 (Builtin.Str.occurrences x y 0 x.length (x.length + 1))
      rw [e]
      simp
theorem split_join {c : Nat} {xs : List Str} (h0 : xs ≠ []) (h : ∀ x ∈ xs, c ∉ x.cps.toList) : Txt.split (Txt.join ⟨#[c]⟩ xs) ⟨#[c]⟩ = xs := by
  refine join_inj (c := c) (split_ne _ _) h0 (StrLaws.split_free _ c) h ?_
  show Builtin.Str.glued _ _ = _
  rw [StrLaws.glued_eq_join]
  exact StrLaws.join_split _ _
theorem join_len (sep : Str) (xs : List Str) : (Txt.join sep xs).length ≤ (xs.map (·.length)).sum + xs.length * sep.length := by
  show (Builtin.Str.glued sep xs).length ≤ _
  rw [StrLaws.glued_eq_join]
  exact StrLaws.join_length_le sep xs
theorem join_free {sep : Str} {c : Nat} (hs : c ∉ sep.cps.toList) : ∀ {xs : List Str}, (∀ x ∈ xs, c ∉ x.cps.toList) → c ∉ (Txt.join sep xs).cps.toList
  | [], _ => by show c ∉ ([] : List Nat); simp
  | [x], h => by rw [join_one]; exact h x List.mem_cons_self
  | x :: y :: r, h => by
    rw [join_cps]
    intro hm
    rcases List.mem_append.mp hm with z | z
    · exact h x List.mem_cons_self z
    · rcases List.mem_append.mp z with z | z
      · exact hs z
      · exact join_free hs (fun w hw => h w (List.mem_cons_of_mem _ hw)) z
end K75
end
section
set_option Elab.async false
set_option linter.all false
set_option maxRecDepth 100000
set_option maxHeartbeats 4000000
set_option exponentiation.threshold 4000
namespace K75
open PySem L2 LX PySem.NumText
def top (i : Nat) : Stmt := PySem.Challenge.pw_stillheap_k75_no_logs_texts.main.body.getD i (.Pass ⟨0, 0, 0, 0⟩)
abbrev sRowR : Stmt := top 11
abbrev sWr : Stmt := top 12
abbrev sCnt : Stmt := top 13
abbrev sMade : Stmt := top 14
abbrev sPRead : Stmt := top 15
abbrev sReadL : Stmt := top 18
abbrev sLogR : Stmt := top 19
abbrev sLines : Stmt := top 21
abbrev sSpoilt : Stmt := top 22
abbrev sRowOf : Stmt := top 23
abbrev sLaw : Stmt := top 24
def scopeOf : Option Expr → Scope
  | some (.ListComp _ _ sc _) => sc
  | _ => default
def ret? : Stmt → Option Expr
  | .Return e _ => e
  | _ => none
def arg0? : Option Expr → Option Expr
  | some (.Call _ (a :: _) _ _) => some a
  | _ => none
def snd? : Option Expr → Option Expr
  | some (.BoolOp _ (_ :: e :: _) _) => some e
  | _ => none
theorem ps_dead {X : Cx} {st : Stmt} : PS X st (fun _ _ _ => False) := fun _ _ _ _ _ _ h => h.elim
/-! ### what texts are let -/
abbrev FIG : Str := "0123456789"
abbrev LET : Str := "abcdefghijklmnopqrstuvwxyz"
def inS (sg : Str) (c : Nat) : Bool := !(Builtin.Str.occurrences sg ⟨#[c]⟩ 0 sg.length 1).isEmpty
def madeOf (z sg : Str) : Bool := !decide (z = (("" : String) : Str)) && z.cps.toList.all (inS sg)
def cnt (z : Str) : Bool := decide (z.length ≤ 61) && madeOf z FIG && (decide (z = (("0" : String) : Str)) || !decide (z.cps.toList.head? = some 48))
section
variable {P : Program} {w : World} {K : PySem.W.Frag} {mg : Str → Option Value} {base : Heap}
/-- is_made_of -/
def spMade : Sp := fun vs H Q _ => ∃ z sg : Str, vs = [.str z, .str sg] ∧ z.length ≤ 100000 ∧ ∀ H', Same H H' → Q (.bl (madeOf z sg)) H'
theorem scM : FnScope ["part", "signs"] ["part", "signs"] (defScope sMade) := ⟨rfl, rfl, rfl, by decide +kernel, rfl, by decide +kernel, by decide +kernel⟩
abbrev scpM : Scope := scopeOf (arg0? (snd? (ret? ((defBody sMade).head!))))
theorem cM : CompP (defScope sMade) scpM "sign" ["signs"] ["part", "signs"] [1] := by decide +kernel
theorem ok_made {f : Addr} {fd : FuncData} (F : Fun K "is_made_of" "is_made_of" sMade f fd) (za : mg "all" = none) : FnOk P w K mg base (CXE P w) 1 f fd ["part", "signs"] spMade := by
  refine F.okE scM (fun vs H Q E h => ?_) (fun cdv A outer s H vs Q E hr h => ?_)
  · obtain ⟨z, sg, rfl, _⟩ := h
    rfl
  · obtain ⟨z, sg, rfl, hz, k⟩ := h
    have co : CompOk (cxE P w K mg base ["part", "signs"] "is_made_of" (defScope sMade) f cdv A outer s H E).nox scpM [("signs", s.heap.objs.size + 1)] "sign" [1] ["sign", "signs"] :=
      comp_ok rfl rfl rfl cM rfl rfl (by intro q hq; rw [List.mem_singleton.mp hq]; rfl)
    refine ⟨_, PSs.nox (pss_one (ps_ret (pe_and (pe_cmpR op_ne (pv 0) pe_str (nomark _)) (pe_one (pe_callB (call_all rfl) rfl za PyProof.Rows.Boot.«all» (pa_cons (pe_comp co rfl (pi_str (pv 0)) (fun C fp s₀ H₀ => pe_cmpR op_in_str (pv 0) (pv 1) (by with_unfolding_all rfl))) pa_nil)))))), ?_⟩
    have fin : ∀ {H' : Hp} {b : Bool}, Same H H' → b = madeOf z sg → Q (.bl b) H' := fun sm e => by rw [e]; exact k _ sm
    refine ⟨_, rfl, rfl, _, rfl, ite2 (fun h => ?_) (fun h => ?_)⟩
    · have hne : ¬ z = (("" : String) : Str) := fun e => by
        rw [e] at h
        simp at h
      refine ⟨_, rfl, _, rfl, fun D hD => ?_⟩
      refine comp_str (z := z) (fun j zs H2 => zs = ((z.cps.toList.take j).map (inS sg)).map V.bl ∧ Same H H2 ∧ H2 D = some (.lst zs)) ⟨rfl, Same.upd hD, upd_same⟩
        (fun j zs H2 hj ⟨e, _, y⟩ => ⟨y, by rw [e, List.length_map, List.length_map, List.length_take, Array.length_toList]; omega⟩) (Nat.le_trans (show z.cps.size ≤ 100000 from hz) (by decide))
        (fun j c zs H2 hx ⟨e, s2, y⟩ => ?_) (fun zs H2 ⟨e, s2, y⟩ => ?_)
      · have hlt : j < z.cps.size := (Array.getElem?_eq_some_iff.mp hx).1
        have tk : z.cps.toList.take (j + 1) = z.cps.toList.take j ++ [c] := by
          rw [List.take_succ_eq_append_getElem (by rw [Array.length_toList]; exact hlt)]
          congr 2
          rw [Array.getElem_toList]
          exact (Array.getElem?_eq_some_iff.mp hx).2
        refine ⟨_, rfl, _, rfl, _, _, rfl, rfl, y, ?_, fun c u g => by rw [upd_ne (ne_of_none g hD)]; exact s2 c u g, upd_same⟩
        rw [tk, e, List.map_append, List.map_append]
        rfl
      · rw [List.take_of_length_le (by rw [Array.length_toList]; exact Nat.le_refl _)] at e
        refine ⟨D, z.cps.toList.map (inS sg), rfl, by rw [← e]; exact SqL.of y, fin s2 ?_⟩
        unfold madeOf
        rw [decide_eq_false hne, List.all_map]
        rfl
    · refine fin (Same.refl _) ?_
      have he : z = (("" : String) : Str) := by
        have := eq_false_of_ne_true h
        simpa using this
      unfold madeOf
      rw [decide_eq_true he]
      rfl
/-- is_count -/
def spCnt : Sp := fun vs H Q _ => ∃ z : Str, vs = [.str z] ∧ z.length ≤ 100000 ∧ ∀ H', Same H H' → Q (.bl (cnt z)) H'
theorem scC : FnScope ["part"] ["part"] (defScope sCnt) := ⟨rfl, rfl, rfl, by decide +kernel, rfl, by decide +kernel, by decide +kernel⟩
theorem head_at {z : Str} (h : z ≠ (("" : String) : Str)) : ∃ c, atI z.cps.toList 0 = some c ∧ z.cps.toList.head? = some c := by
  cases e : z.cps.toList with
  | nil => exact absurd (str_ext (by rw [e]; rfl)) h
  | cons c r => exact ⟨c, atI_nat (xs := c :: r) (j := 0) rfl, rfl⟩
theorem ok_cnt {f fM : Addr} {fd fdM : FuncData} (F : Fun K "is_count" "is_count" sCnt f fd) (zn : mg "len" = none) {t1 t2 : Tok} (g1 : mg "MOST_FIGURES" = some (.int 61 t1)) (g2 : mg "FIGURES" = some (.str FIG t2))
    (GM : FnOk P w K mg base (CXE P w) 1 fM fdM ["part", "signs"] spMade) (mM : mg "is_made_of" = some (.ref fM)) (kM : PySem.W.keepIn K (.ref fM) = true) (bM : Binds K fdM ["part", "signs"] []) : FnOk P w K mg base (CXE P w) 2 f fd ["part"] spCnt := by
  refine F.okE scC (fun vs H Q E h => ?_) (fun cdv A outer s H vs Q E hr h => ?_)
  · obtain ⟨z, rfl, _⟩ := h
    rfl
  · obtain ⟨z, rfl, hz, k⟩ := h
    refine ⟨_, PSs.nox (pss_cons (ps_if (PW.pt (pw_or (pt_cmpR op_gt (pe_callB call_len_str rfl zn PyProof.Rows.Boot.«len» (pa_cons (pv 0) pa_nil)) (pe_glob (v := .int 61) rfl g1 ⟨_, rfl⟩) (nomark _)) (pw_or1 (pt_not (pt_val (xe_call GM hr rfl mM kM bM .nil passN (pa_cons (pv 0) (pa_cons (pe_glob (v := .str FIG) rfl g2 ⟨_, rfl⟩) pa_nil)))))))) (pss_one (ps_ret pe_bl)) pss_nil)
      (pss_one (ps_ret (pe_or (pe_cmpR op_eq (pv 0) pe_str (nomark _)) (pe_one (pe_cmpR op_ne (pe_ix ix_str (pv 0) pe_int (fun _ _ => rfl)) pe_str (nomark _))))))), ?_⟩
    have fin : ∀ {H' : Hp} {b : Bool}, Same H H' → b = cnt z → Q (.bl b) H' := fun sm e => by rw [e]; exact k _ sm
    have hzl : z.length ≤ sizeLine := Nat.le_trans hz (by decide)
    refine ⟨_, rfl, z, rfl, hzl, _, _, rfl, rfl, _, rfl, ite2 (fun h => ?_) (fun h => ?_)⟩
    · refine iteT (fin (Same.refl _) ?_)
      have h' : 61 < (z.length : Int) := of_decide_eq_true h
      unfold cnt
      rw [decide_eq_false (by omega)]
      rfl
    · have h' : ¬ 61 < (z.length : Int) := fun x => h (decide_eq_true x)
      have d1 : decide (z.length ≤ 61) = true := decide_eq_true (by omega)
      refine ⟨_, rfl, z, FIG, rfl, hz, fun H1 s1 => ⟨_, rfl, ?_⟩⟩
      cases hm : madeOf z FIG with
      | false =>
        refine iteT (fin s1 ?_)
        unfold cnt
        rw [hm, Bool.and_false]
        rfl
      | true =>
        have hne : z ≠ (("" : String) : Str) := fun e => by
          unfold madeOf at hm
          rw [decide_eq_true e] at hm
          exact absurd hm (by simp)
        obtain ⟨c, ha, hh⟩ := head_at hne
        refine iteF ⟨_, rfl, rfl, _, rfl, ite2 (fun h => ?_) (fun h => ?_)⟩
        · refine fin s1 ?_
          have e : z = (("0" : String) : Str) := by
            have := of_decide_eq_true h
            injection this
          unfold cnt
          rw [hm, d1, decide_eq_true e]
          rfl
        · refine ⟨_, rfl, z, 0, c, rfl, rfl, hzl, ha, rfl, fin s1 ?_⟩
          have e : ¬ z = (("0" : String) : Str) := fun e => h (by rw [e]; exact decide_eq_true rfl)
          unfold cnt
          rw [hm, d1, decide_eq_false e, hh]
          show (!decide (V.str ⟨#[c]⟩ = V.str (("0" : String) : Str))) = !decide (some c = some 48)
          congr 1
          rw [Bool.eq_iff_iff, decide_eq_true_eq, decide_eq_true_eq]
          have e0 : (("0" : String) : Str) = ⟨#[48]⟩ := by decide +kernel
          rw [e0]
          simp
/-! ### kinds of parts -/
inductive Kd | num | cnt | age | mrk
def kdT : Kd → Str
  | .num => "number"
  | .cnt => "count"
  | .age => "age"
  | .mrk => "mark"
abbrev YNG : Str := "young"
abbrev OLD : Str := "old"
abbrev MIN : Str := "-"
abbrev MZ : Str := "-0"
def minus (z : Str) : Bool := decide (0 + MIN.length ≤ z.length) && Builtin.Str.subAt z MIN 0
def wr : Kd → Str → Bool
  | .mrk, z => decide (z.length ≤ 8) && madeOf z LET
  | .age, z => decide (z = YNG) || decide (z = OLD)
  | .num, z => if minus z = true then !decide (z = MZ) && cnt (tailS z) else cnt z
  | .cnt, z => cnt z
theorem minus_len {z : Str} (h : minus z = true) : 1 ≤ z.length := by
  unfold minus at h
  have := (Bool.and_eq_true _ _ ▸ h).1
  have := of_decide_eq_true this
  exact this
theorem tail_len (z : Str) : (tailS z).length ≤ z.length := by
  show (z.cps.toList.drop 1).toArray.size ≤ z.cps.size
  rw [List.size_toArray, List.length_drop, Array.length_toList]
  exact Nat.sub_le _ _
def isMrk : Kd → Bool
  | .mrk => true
  | _ => false
def isAge : Kd → Bool
  | .age => true
  | _ => false
def isNum : Kd → Bool
  | .num => true
  | _ => false
theorem kd_mrk (kd : Kd) : decide (V.str (kdT kd) = V.str (Str.ofString "mark")) = isMrk kd := by cases kd <;> decide +kernel
theorem kd_age (kd : Kd) : decide (V.str (kdT kd) = V.str (Str.ofString "age")) = isAge kd := by cases kd <;> decide +kernel
theorem kd_num (kd : Kd) : decide (V.str (kdT kd) = V.str (Str.ofString "number")) = isNum kd := by cases kd <;> decide +kernel
theorem in_two (z a b : Str) : inV (V.str z) [V.str a, V.str b] = (decide (z = a) || decide (z = b)) := by
  have e : ∀ x y : Str, (x == y) = decide (y = x) := fun x y => by
    rw [Bool.eq_iff_iff, beq_iff_eq, decide_eq_true_eq]
    exact eq_comm
  show ((a == z) || ((b == z) || false)) = _
  rw [Bool.or_false, e, e]
/-- is_written -/
def spWr : Sp := fun vs H Q _ => ∃ (z : Str) (kd : Kd), vs = [.str z, .str (kdT kd)] ∧ z.length ≤ 100000 ∧ ∀ H', Same H H' → Q (.bl (wr kd z)) H'
theorem scWr : FnScope ["part", "kind"] ["part", "kind"] (defScope sWr) := ⟨rfl, rfl, rfl, by decide +kernel, rfl, by decide +kernel, by decide +kernel⟩
theorem ok_wr {f fM fC : Addr} {fd fdM fdC : FuncData} (F : Fun K "is_written" "is_written" sWr f fd) (zn : mg "len" = none) {t1 t2 : Tok} (g1 : mg "MOST_LETTERS" = some (.int 8 t1)) (g2 : mg "LETTERS" = some (.str LET t2))
    (GM : FnOk P w K mg base (CXE P w) 1 fM fdM ["part", "signs"] spMade) (mM : mg "is_made_of" = some (.ref fM)) (kM : PySem.W.keepIn K (.ref fM) = true) (bM : Binds K fdM ["part", "signs"] [])
    (GC : FnOk P w K mg base (CXE P w) 2 fC fdC ["part"] spCnt) (mC : mg "is_count" = some (.ref fC)) (kC : PySem.W.keepIn K (.ref fC) = true) (bC : Binds K fdC ["part"] []) : FnOk P w K mg base (CXE P w) 3 f fd ["part", "kind"] spWr := by
  refine F.okE scWr (fun vs H Q E h => ?_) (fun cdv A outer s H vs Q E hr h => ?_)
  · obtain ⟨z, kd, rfl, _⟩ := h
    rfl
  · obtain ⟨z, kd, rfl, hz, k⟩ := h
    have r1 := hr.mono (show 1 ≤ 2 by decide)
    refine ⟨_, PSs.nox (pss_cons (ps_if (pt_cmpR op_eq (pv 1) pe_str (nomark _)) (pss_one (ps_ret (pe_and (pe_cmpR op_le (pe_callB call_len_str rfl zn PyProof.Rows.Boot.«len» (pa_cons (pv 0) pa_nil)) (pe_glob (v := .int 8) rfl g1 ⟨_, rfl⟩) (nomark _)) (pe_one (xe_call GM r1 rfl mM kM bM .nil passN (pa_cons (pv 0) (pa_cons (pe_glob (v := .str LET) rfl g2 ⟨_, rfl⟩) pa_nil))))))) pss_nil)
      (pss_cons (ps_if (pt_cmpR op_eq (pv 1) pe_str (nomark _)) (pss_one (ps_ret (pe_cmpR op_in_seq (pv 0) (pe_tup (pa_cons pe_str (pa_cons pe_str pa_nil))) (by with_unfolding_all rfl)))) pss_nil)
      (pss_cons (ps_if (PW.pt (pw_and (pt_cmpR op_eq (pv 1) pe_str (nomark _)) (pw_and1 (pt_val (pe_bm PySem.F.plainAttrs_str PySem.F.slot_str_startswith PySem.F.type_str_startswith mt_starts (pv 0) (pa_cons pe_str pa_nil)))))) (pss_one (ps_ret (pe_and (pe_cmpR op_ne (pv 0) pe_str (nomark _)) (pe_one (xe_call GC hr rfl mC kC bC .nil passN (pa_cons (pe_slice sl_str1 (pv 0) (po_some pe_int) po_none) pa_nil)))))) pss_nil)
      (pss_one (ps_ret (xe_call GC hr rfl mC kC bC .nil passN (pa_cons (pv 0) pa_nil))))))), ?_⟩
    have fin : ∀ {H' : Hp} {b : Bool}, Same H H' → b = wr kd z → Q (.bl b) H' := fun sm e => by rw [e]; exact k _ sm
    have hzl : z.length ≤ sizeLine := Nat.le_trans hz (by decide)
    have e1 := kd_mrk kd
    have e2 := kd_age kd
    have e3 := kd_num kd
    refine ⟨_, rfl, rfl, _, rfl, ?_⟩
    rw [e1]
    cases kd with
    | mrk =>
      refine iteT ⟨_, rfl, z, rfl, hzl, _, _, rfl, rfl, _, rfl, ite2 (fun h => ?_) (fun h => ?_)⟩
      · have h' : (z.length : Int) ≤ 8 := of_decide_eq_true h
        refine ⟨_, rfl, z, LET, rfl, hz, fun H1 s1 => fin s1 ?_⟩
        show _ = (decide (z.length ≤ 8) && madeOf z LET)
        rw [decide_eq_true (show z.length ≤ 8 by omega)]
        rfl
      · have h' : ¬ (z.length : Int) ≤ 8 := fun x => h (decide_eq_true x)
        refine fin (Same.refl _) ?_
        show _ = (decide (z.length ≤ 8) && madeOf z LET)
        rw [decide_eq_false (show ¬ z.length ≤ 8 by omega)]
        rfl
    | age =>
      refine iteF ⟨_, rfl, rfl, _, rfl, ?_⟩
      rw [e2]
      refine iteT ⟨_, rfl, by show 2 ≤ sizeLine; decide, fun p hp => ⟨p, _, rfl, .inr (SqT.of upd_same), rfl, rfl, fin (Same.upd hp) ?_⟩⟩
      exact in_two z YNG OLD
    | num =>
      refine iteF ⟨_, rfl, rfl, _, rfl, ?_⟩
      rw [e2]
      refine iteF ⟨_, rfl, rfl, _, rfl, ?_⟩
      rw [e3]
      refine iteT ⟨_, rfl, rfl, z, MIN, rfl, rfl, _, rfl, ite2 (fun h => ?_) (fun h => ?_)⟩
      · have hm : minus z = true := h
        have ew : wr .num z = (!decide (z = MZ) && cnt (tailS z)) := if_pos hm
        refine ⟨_, rfl, rfl, _, rfl, ite2 (fun h => ?_) (fun h => ?_)⟩
        · have hd : ¬ z = MZ := fun e => by rw [e] at h; exact absurd h (by decide +kernel)
          refine ⟨_, rfl, _, rfl, z, rfl, rfl, rfl, minus_len hm, hzl, tailS z, rfl, Nat.le_trans (tail_len z) hz, fun H1 s1 => fin s1 ?_⟩
          rw [ew, decide_eq_false hd]
          rfl
        · have hd : z = MZ := by
            have h' := eq_false_of_ne_true h
            rw [Bool.not_eq_false'] at h'
            have := of_decide_eq_true h'
            injection this
          refine fin (Same.refl _) ?_
          rw [ew, decide_eq_true hd]
          rfl
      · have hm : ¬ minus z = true := h
        have ew : wr .num z = cnt z := if_neg hm
        exact ⟨_, rfl, z, rfl, hz, fun H1 s1 => fin s1 ew.symm⟩
    | cnt =>
      refine iteF ⟨_, rfl, rfl, _, rfl, ?_⟩
      rw [e2]
      refine iteF ⟨_, rfl, rfl, _, rfl, ?_⟩
      rw [e3]
      refine iteF (iteF ⟨_, rfl, z, rfl, hz, fun H1 s1 => fin s1 rfl⟩)
/-- part_read -/
inductive Rdd : Kd → Str → V → Prop
  | mrk (z : Str) : Rdd .mrk z (.str z)
  | age (z : Str) : Rdd .age z (.bl (decide (z = YNG)))
  | num {z : Str} {n : Int} : PySem.intText? z = some n → z.length ≤ 640 → Rdd .num z (.int n)
  | cnt {z : Str} {n : Int} : PySem.intText? z = some n → z.length ≤ 640 → Rdd .cnt z (.int n)
def spPRead : Sp := fun vs H Q _ => ∃ (z : Str) (kd : Kd) (v : V), vs = [.str z, .str (kdT kd)] ∧ Rdd kd z v ∧ Q v H
theorem scPR : FnScope ["part", "kind"] ["part", "kind"] (defScope sPRead) := ⟨rfl, rfl, rfl, by decide +kernel, rfl, by decide +kernel, by decide +kernel⟩
theorem ok_pread {f : Addr} {fd : FuncData} (F : Fun K "part_read" "part_read" sPRead f fd) (zi : mg "int" = none) : FnOk P w K mg base (CXE P w) 1 f fd ["part", "kind"] spPRead := by
  refine F.okE scPR (fun vs H Q E h => ?_) (fun cdv A outer s H vs Q E hr h => ?_)
  · obtain ⟨z, kd, v, rfl, _⟩ := h
    rfl
  · obtain ⟨z, kd, v, rfl, rd, k⟩ := h
    refine ⟨_, PSs.nox (pss_cons (ps_if (pt_cmpR op_eq (pv 1) pe_str (nomark _)) (pss_one (ps_ret (pv 0))) pss_nil)
      (pss_one (ps_ret (pe_ifExp (pt_cmpR op_eq (pv 1) pe_str (nomark _)) (pe_cmpR op_eq (pv 0) pe_str (nomark _)) (pe_callTy call_intT rfl zi PyProof.Rows.Boot.«int» (pa_cons (pv 0) pa_nil)))))), ?_⟩
    have e1 := kd_mrk kd
    have e2 := kd_age kd
    refine ⟨_, rfl, rfl, _, rfl, ?_⟩
    rw [e1]
    cases rd with
    | mrk => exact iteT ⟨_, rfl, k⟩
    | age =>
      refine iteF ⟨_, rfl, rfl, _, rfl, ?_⟩
      rw [e2]
      refine iteT ⟨_, rfl, rfl, ?_⟩
      have e : decide (V.str z = V.str YNG) = decide (z = YNG) := by
        rw [Bool.eq_iff_iff, decide_eq_true_eq, decide_eq_true_eq]
        exact ⟨fun h => by injection h, fun h => by rw [h]⟩
      show Q (.bl (decide (V.str z = V.str YNG))) H
      rw [e]
      exact k
    | num h1 h2 =>
      refine iteF ⟨_, rfl, rfl, _, rfl, ?_⟩
      rw [e2]
      exact iteF ⟨_, rfl, z, _, rfl, h1, h2, k⟩
    | cnt h1 h2 =>
      refine iteF ⟨_, rfl, rfl, _, rfl, ?_⟩
      rw [e2]
      exact iteF ⟨_, rfl, z, _, rfl, h1, h2, k⟩
end
end K75
end
section
set_option Elab.async false
set_option linter.all false
set_option maxRecDepth 100000
set_option maxHeartbeats 4000000
set_option exponentiation.threshold 4000
namespace K75
open PySem L2 LX PySem.NumText
inductive Rds : List Kd → List Str → List V → Prop
  | nil : Rds [] [] []
  | cons {k : Kd} {z : Str} {v : V} {ks : List Kd} {zs : List Str} {vs : List V} : Rdd k z v → Rds ks zs vs → Rds (k :: ks) (z :: zs) (v :: vs)
theorem Rds.len {ks : List Kd} {zs : List Str} {vs : List V} (r : Rds ks zs vs) : vs.length = ks.length ∧ zs.length = ks.length := by
  induction r with
  | nil => exact ⟨rfl, rfl⟩
  | cons _ _ ih => exact ⟨by rw [List.length_cons, List.length_cons, ih.1], by rw [List.length_cons, List.length_cons, ih.2]⟩
theorem Rds.at {ks : List Kd} {zs : List Str} {vs : List V} (r : Rds ks zs vs) : ∀ {i : Nat} {k : Kd} {z : Str}, ks[i]? = some k → zs[i]? = some z → ∃ v, vs[i]? = some v ∧ Rdd k z v := by
  induction r with
  | nil => intro i k z h; simp at h
  | cons h _ ih =>
    intro i k z h1 h2
    cases i with
    | zero =>
      simp only [List.getElem?_cons_zero, Option.some.injEq] at h1 h2
      subst h1 h2
      exact ⟨_, rfl, h⟩
    | succ i =>
      simp only [List.getElem?_cons_succ] at h1 h2
      exact ih h1 h2
/-- each part as its kind asks -/
def Wrs (zs : List Str) (ks : List Kd) : Prop := zs.length = ks.length ∧ ∀ p ∈ zs.zip ks, wr p.2 p.1 = true
section
variable {P : Program} {w : World} {K : PySem.W.Frag} {mg : Str → Option Value} {base : Heap}
theorem sqT_same {H H' : Hp} {a : Addr} {xs : List V} (h : SqT K H a xs) (s : Same H H') : SqT K H' a xs := Or.imp (fun r => Or.elim r (fun e => .inl (s _ _ e)) fun ⟨o, e⟩ => .inr ⟨o, s _ _ e⟩) id h
theorem cut_tail (x : V) (xs : List V) : cutV (x :: xs) (some 1) none = xs := by
  unfold cutV
  rw [show (some (1 : Int)) = some ((1 : Nat) : Int) from rfl, HT.sIx_nat, HT.sIx_none, List.length_cons, Nat.min_eq_left (by omega)]
  show (xs.take (xs.length + 1 - 1)) = xs
  rw [Nat.add_sub_cancel, List.take_length]
/-- row_read -/
def spRowR (K : PySem.W.Frag) : Sp := fun vs H Q _ => ∃ (l f : Addr) (wd : Str) (zs : List Str) (ks : List Kd), vs = [.ref l, .ref f] ∧ H l = some (.lst ((wd :: zs).map V.str)) ∧ SqT K H f (ks.map fun k => V.str (kdT k)) ∧ zs.length ≤ 100 ∧ (∀ z ∈ zs, z.length ≤ 100000) ∧
  ((Wrs zs ks ∧ ∃ rvs, Rds ks zs rvs ∧ ∀ t H', Same H H' → H' t = some (.tup (.str wd :: rvs)) → Q (.ref t) H') ∨ (¬ Wrs zs ks ∧ ∀ H', Same H H' → Q .non H'))
abbrev NR : List Str := ["words", "form", "parts"]
theorem scR : FnScope NR ["words", "form"] (defScope sRowR) := ⟨rfl, rfl, rfl, by decide +kernel, rfl, by decide +kernel, by decide +kernel⟩
def tst? : Stmt → Option Expr
  | .If e _ _ _ => some e
  | _ => none
def un? : Option Expr → Option Expr
  | some (.UnaryOp _ e _) => some e
  | _ => none
def right? : Option Expr → Option Expr
  | some (.BinOp _ _ e _) => some e
  | _ => none
abbrev scp1 : Scope := scopeOf (arg0? (un? (tst? ((defBody sRowR).getD 2 (.Pass ⟨0, 0, 0, 0⟩)))))
abbrev scp2 : Scope := scopeOf (right? (arg0? (ret? ((defBody sRowR).getD 3 (.Pass ⟨0, 0, 0, 0⟩)))))
theorem c1 : CompP2 (defScope sRowR) scp1 "part" "kind" [] NR [] := by decide +kernel
theorem c2 : CompP2 (defScope sRowR) scp2 "part" "kind" [] NR [] := by decide +kernel
theorem ok_rowr {f fW fR : Addr} {fd fdW fdR : FuncData} (F : Fun K "row_read" "row_read" sRowR f fd) (zn : mg "len" = none) (za : mg "all" = none) (zz : mg "zip" = none) (zt : mg "tuple" = none)
    (GW : FnOk P w K mg base (CXE P w) 3 fW fdW ["part", "kind"] spWr) (mW : mg "is_written" = some (.ref fW)) (kW : PySem.W.keepIn K (.ref fW) = true) (bW : Binds K fdW ["part", "kind"] [])
    (GR : FnOk P w K mg base (CXE P w) 1 fR fdR ["part", "kind"] spPRead) (mR : mg "part_read" = some (.ref fR)) (kR : PySem.W.keepIn K (.ref fR) = true) (bR : Binds K fdR ["part", "kind"] []) : FnOk P w K mg base (CXE P w) 4 f fd ["words", "form"] (spRowR K) := by
  refine F.okE scR (fun vs H Q E h => ?_) (fun cdv A outer s H vs Q E hr h => ?_)
  · obtain ⟨l, f, wd, zs, ks, rfl, _⟩ := h
    rfl
  · obtain ⟨l, fa, wd, zs, ks, rfl, hl, hf, hz, hzz, k⟩ := h
    have r1 := hr.mono (show 1 ≤ 3 by decide)
    have co1 : CompOk2 (cxE P w K mg base NR "row_read" (defScope sRowR) f cdv A outer s H E).nox scp1 [] "part" "kind" [] ["part", "kind"] := comp_ok2 rfl rfl rfl c1 rfl rfl (by intro q hq; cases hq)
    have co2 : CompOk2 (cxE P w K mg base NR "row_read" (defScope sRowR) f cdv A outer s H E).nox scp2 [] "part" "kind" [] ["part", "kind"] := comp_ok2 rfl rfl rfl c2 rfl rfl (by intro q hq; cases hq)
    refine ⟨_, PSs.nox (pss_cons (ps_set (i := 2) scR.nd rfl (Or.inl rfl) (pe_slice sl_list (pv 0) (po_some pe_int) po_none))
      (pss_cons (ps_if (pt_cmpR op_ne (pe_callB call_len_seq rfl zn PyProof.Rows.Boot.«len» (pa_cons (pv 2) pa_nil)) (pe_callB call_len_seq rfl zn PyProof.Rows.Boot.«len» (pa_cons (pv 1) pa_nil)) (nomark _)) (pss_one (ps_ret pe_non)) pss_nil)
      (pss_cons (ps_if (pt_not (pt_val (pe_callB (call_all rfl) rfl za PyProof.Rows.Boot.«all» (pa_cons (pe_comp2 co1 rfl (pi_zip rfl zz (pa_cons (pv 2) (pa_cons (pv 1) pa_nil))) (fun C fp s₀ H₀ => xe_call GW hr rfl mW kW bW .nil passF (pa_cons (pv 0) (pa_cons (pv 1) pa_nil)))) pa_nil)))) (pss_one (ps_ret pe_non)) pss_nil)
      (pss_one (ps_ret (pe_callTy call_tupL rfl zt PyProof.Rows.Boot.«tuple» (pa_cons (pe_op op_cat (pe_lst (pa_cons (pe_ix ix_list (pv 0) pe_int (fun _ _ => rfl)) pa_nil)) (pe_comp2 co2 rfl (pi_zip rfl zz (pa_cons (pv 2) (pa_cons (pv 1) pa_nil))) (fun C fp s₀ H₀ => xe_call GR r1 rfl mR kR bR .nil passF (pa_cons (pv 0) (pa_cons (pv 1) pa_nil))))) pa_nil))))))), ?_⟩
    refine ⟨_, rfl, _, rfl, l, _, rfl, SqL.of hl, fun pa hpa => ?_⟩
    rw [List.map_cons, cut_tail]
    have s1 := Same.upd (o := .lst (zs.map V.str)) hpa
    have zpa : upd H pa (.lst (zs.map V.str)) pa = some (.lst (zs.map V.str)) := upd_same
    obtain ⟨H1, e1⟩ : ∃ H1, upd H pa (.lst (zs.map V.str)) = H1 := ⟨_, rfl⟩
    show gName 2 (V.ref pa) _ (upd H pa (.lst (zs.map V.str))) _
    rw [e1] at s1 zpa ⊢
    refine ⟨_, rfl, pa, _, rfl, .inl (SqL.of zpa), _, rfl, fa, _, rfl, .inr (sqT_same hf s1), rfl, _, rfl, ite2 (fun h => ?_) (fun h => ?_)⟩
    · have hne : ¬ zs.length = ks.length := fun e => by
        rw [List.length_map, List.length_map, e] at h
        simp at h
      rcases k with ⟨⟨e, _⟩, _⟩ | ⟨_, k⟩
      · exact absurd e hne
      · exact k _ s1
    · have hlen : zs.length = ks.length := by
        have := eq_false_of_ne_true h
        rw [Bool.not_eq_false'] at this
        have := of_decide_eq_true this
        injection this with this
        rw [List.length_map, List.length_map] at this
        omega
      have hx : (zs.map V.str).length = (ks.map fun k => V.str (kdT k)).length := by rw [List.length_map, List.length_map, hlen]
      refine ⟨_, rfl, _, rfl, false, true, pa, fa, rfl, ⟨_, SqL.of zpa⟩, ⟨_, sqT_same hf s1⟩, fun D hD => ?_⟩
      have hD0 : H D = none := s1.free hD
      refine comp_zip (K := K) (b1 := false) (b2 := true) (a1 := pa) (a2 := fa) (xs := zs.map V.str) (ys := ks.map fun k => V.str (kdT k)) (fun j ys H2 => ys = (((zs.zip ks).take j).map fun p => V.bl (wr p.2 p.1)) ∧ Same H1 H2 ∧ H2 D = some (.lst ys)) hx ⟨rfl, Same.upd hD, upd_same⟩
        (fun j ys H2 hj ⟨e, _, y⟩ => ⟨y, by rw [List.length_map] at hj; rw [e, List.length_map, List.length_take, List.length_zip]; omega⟩) (fun j ys H2 _ ⟨_, s2, _⟩ => ⟨SqL.of (s2 _ _ zpa), sqT_same hf (s1.trans s2)⟩) (Nat.le_trans (show (zs.map V.str).length ≤ 100 by rw [List.length_map]; exact hz) (by decide))
        (fun j x y ys H2 t hx hy ⟨e, s2, yD⟩ ht => ?_) (fun ys H2 ⟨e, s2, yD⟩ => ?_)
      · rw [List.getElem?_map] at hx hy
        obtain ⟨z, hz', rfl⟩ := Option.map_eq_some_iff.mp hx
        obtain ⟨kd, hk', rfl⟩ := Option.map_eq_some_iff.mp hy
        have hj : j < zs.length := (List.getElem?_eq_some_iff.mp hz').1
        have tk : (zs.zip ks).take (j + 1) = (zs.zip ks).take j ++ [(z, kd)] := by
          rw [List.take_succ_eq_append_getElem (by rw [List.length_zip]; omega)]
          congr 2
          rw [List.getElem_zip]
          exact Prod.ext (List.getElem?_eq_some_iff.mp hz').2 (List.getElem?_eq_some_iff.mp hk').2
        refine ⟨_, rfl, _, rfl, z, kd, rfl, hzz z (List.mem_of_getElem? hz'), fun H3 s3 => ?_⟩
        have s23 := (Same.upd ht).trans s3
        refine ⟨s23 _ _ yD, ?_, fun c u g => by rw [upd_ne (ne_of_none g hD)]; exact s23 _ _ (s2 c u g), upd_same⟩
        rw [tk, e, List.map_append]
        rfl
      · rw [List.length_map, List.take_of_length_le (by rw [List.length_zip]; omega)] at e
        have eb : ys = ((zs.zip ks).map fun p => wr p.2 p.1).map V.bl := by rw [e, List.map_map]; rfl
        refine ⟨D, (zs.zip ks).map fun p => wr p.2 p.1, rfl, by rw [← eb]; exact SqL.of yD, _, rfl, ?_⟩
        have s12 := s1.trans s2
        rcases k with ⟨wk, rvs, rd, k⟩ | ⟨nk, k⟩
        · have ea : ((zs.zip ks).map fun p => wr p.2 p.1).all id = true := by
            rw [List.all_map, List.all_eq_true]
            exact wk.2
          rw [ea]
          obtain ⟨l1, l2⟩ := rd.len
          refine iteF ⟨_, rfl, l, _, 0, .str wd, rfl, rfl, SqL.of (s12 _ _ hl), atI_nat (xs := (wd :: zs).map V.str) (j := 0) rfl, by show 1 ≤ sizeLine; decide, fun q1 hq1 => ?_⟩
          have s3 := Same.upd (o := .lst [V.str wd]) hq1
          have zq1 : upd H2 q1 (.lst [V.str wd]) q1 = some (.lst [V.str wd]) := upd_same
          obtain ⟨H3, e3⟩ : ∃ H3, upd H2 q1 (.lst [V.str wd]) = H3 := ⟨_, rfl⟩
          rw [e3] at s3 zq1 ⊢
          have s13 := s2.trans s3
          refine ⟨_, rfl, _, rfl, false, true, pa, fa, rfl, ⟨_, SqL.of (s13 _ _ zpa)⟩, ⟨_, sqT_same hf (s1.trans s13)⟩, fun D2 hD2 => ?_⟩
          have hD20 : H D2 = none := (s1.trans s13).free hD2
          refine comp_zip (K := K) (b1 := false) (b2 := true) (a1 := pa) (a2 := fa) (xs := zs.map V.str) (ys := ks.map fun k => V.str (kdT k)) (fun j ys H4 => ys = rvs.take j ∧ Same H3 H4 ∧ H4 D2 = some (.lst ys)) hx ⟨rfl, Same.upd hD2, upd_same⟩
            (fun j ys H4 hj ⟨e, _, y⟩ => ⟨y, by rw [List.length_map] at hj; rw [e, List.length_take]; omega⟩) (fun j ys H4 _ ⟨_, s4, _⟩ => ⟨SqL.of (s4 _ _ (s13 _ _ zpa)), sqT_same hf ((s1.trans s13).trans s4)⟩) (Nat.le_trans (show (zs.map V.str).length ≤ 100 by rw [List.length_map]; exact hz) (by decide))
            (fun j x y ys H4 t hx hy ⟨e, s4, yD⟩ ht => ?_) (fun ys H4 ⟨e, s4, yD⟩ => ?_)
          · rw [List.getElem?_map] at hx hy
            obtain ⟨z, hz', rfl⟩ := Option.map_eq_some_iff.mp hx
            obtain ⟨kd, hk', rfl⟩ := Option.map_eq_some_iff.mp hy
            obtain ⟨v, hv, rdv⟩ := rd.at hk' hz'
            have hj : j < rvs.length := (List.getElem?_eq_some_iff.mp hv).1
            have tk : rvs.take (j + 1) = rvs.take j ++ [v] := by rw [List.take_succ_eq_append_getElem hj, (List.getElem?_eq_some_iff.mp hv).2]
            have s5 := Same.upd (o := .tup [V.str z, V.str (kdT kd)]) ht
            refine ⟨_, rfl, _, rfl, z, kd, v, rfl, rdv, s5 _ _ yD, by rw [tk, e], fun c u g => by rw [upd_ne (ne_of_none g hD2)]; exact s5 _ _ (s4 c u g), upd_same⟩
          · rw [List.length_map, List.take_of_length_le (by omega)] at e
            subst e
            refine ⟨q1, D2, _, _, rfl, rfl, s4 _ _ zq1, yD, Nat.le_trans (show [V.str wd].length + ys.length ≤ 101 by rw [List.length_singleton]; omega) (by decide), fun q2 hq2 => ⟨q2, _, rfl, SqL.of upd_same, fun t ht => ?_⟩⟩
            exact k t _ (((s12.trans s3).trans s4).trans ((Same.upd hq2).trans (Same.upd ht))) upd_same
        · have ea : ((zs.zip ks).map fun p => wr p.2 p.1).all id = false := by
            rw [Bool.eq_false_iff]
            intro z
            rw [List.all_map, List.all_eq_true] at z
            exact nk ⟨hlen, z⟩
          rw [ea]
          exact iteT (k _ s12)
/-! ### texts of parts and rows -/
abbrev BLK : Str := ⟨#[32]⟩
abbrev LF : Str := ⟨#[10]⟩
theorem sum_le {b : Nat} : ∀ {xs : List Str}, (∀ x ∈ xs, x.length ≤ b) → (xs.map (·.length)).sum ≤ xs.length * b
  | [], _ => by simp
  | x :: xs, h => by
    have h1 := h x List.mem_cons_self
    have h2 := sum_le fun y hy => h y (List.mem_cons_of_mem _ hy)
    rw [List.map_cons, List.sum_cons, List.length_cons, Nat.add_mul]
    omega
theorem blk_is : Str.ofString " " = BLK := by decide +kernel
theorem lf_is : Str.ofString "\n" = LF := by decide +kernel
end
end K75
end
section
set_option Elab.async false
set_option linter.all false
set_option maxRecDepth 100000
set_option maxHeartbeats 4000000
set_option exponentiation.threshold 4000
namespace K75
open PySem L2 LX PySem.NumText
/-- the table of forms -/
structure Forms (K : PySem.W.Frag) (P : Params) (aF : Addr) (tb : List (Str × List Kd)) : Prop where
  kd : KDict K P aF
  tab : ∀ p ∈ tb, ∃ fa, PySem.W.nsIn K aF p.1 = some (some (.ref fa)) ∧ ∀ H, SqT K H fa (p.2.map fun k => V.str (kdT k))
section
variable {P : Program} {w : World} {K : PySem.W.Frag} {mg : Str → Option Value} {base : Heap} {aF : Addr} {tb : List (Str × List Kd)}
/-- log_row -/
def spLogR (K : PySem.W.Frag) (aF : Addr) (tb : List (Str × List Kd)) : Sp := fun vs H Q _ => ∃ (line wd : Str) (zs : List Str), vs = [.str line] ∧ line.length ≤ 1000000 ∧ Txt.split line BLK = wd :: zs ∧ zs.length ≤ 100 ∧ (∀ z ∈ zs, z.length ≤ 100000) ∧
  ((∃ ks, (wd, ks) ∈ tb ∧ ((Wrs zs ks ∧ ∃ rvs, Rds ks zs rvs ∧ ∀ t H', Same H H' → H' t = some (.tup (.str wd :: rvs)) → Q (.ref t) H') ∨ (¬ Wrs zs ks ∧ ∀ H', Same H H' → Q .non H'))) ∨ (PySem.W.nsIn K aF wd = some none ∧ ∀ H', Same H H' → Q .non H'))
theorem scLR : FnScope ["line", "words"] ["line"] (defScope sLogR) := ⟨rfl, rfl, rfl, by decide +kernel, rfl, by decide +kernel, by decide +kernel⟩
theorem ok_logr {f fR : Addr} {fd fdR : FuncData} (F : Fun K "log_row" "log_row" sLogR f fd) (T : Forms K w.params aF tb) (gF : mg "FORMS" = some (.ref aF))
    (GR : FnOk P w K mg base (CXE P w) 4 fR fdR ["words", "form"] (spRowR K)) (mR : mg "row_read" = some (.ref fR)) (kR : PySem.W.keepIn K (.ref fR) = true) (bR : Binds K fdR ["words", "form"] []) : FnOk P w K mg base (CXE P w) 5 f fd ["line"] (spLogR K aF tb) := by
  refine F.okE scLR (fun vs H Q E h => ?_) (fun cdv A outer s H vs Q E hr h => ?_)
  · obtain ⟨line, wd, zs, rfl, _⟩ := h
    rfl
  · obtain ⟨line, wd, zs, rfl, hll, hsp, hz, hzz, k⟩ := h
    refine ⟨_, PSs.nox (pss_cons (ps_set (i := 1) scLR.nd rfl (Or.inl rfl) (pe_bm PySem.F.plainAttrs_str PySem.F.slot_str_split PySem.F.type_str_split mt_split (pv 0) (pa_cons pe_str pa_nil)))
      (pss_one (ps_ret (pe_ifExp (pt_cmpR op_kin (pe_ix ix_list (pv 1) pe_int (fun _ _ => rfl)) (pe_glob (v := .ref aF) rfl gF rfl) (by with_unfolding_all rfl))
        (xe_call GR hr rfl mR kR bR .nil passN (pa_cons (pv 1) (pa_cons (pe_kget (pe_glob (v := .ref aF) rfl gF rfl) (pe_ix ix_list (pv 1) pe_int (fun _ _ => rfl)) (fun _ _ => rfl)) pa_nil))) pe_non)))), ?_⟩
    refine ⟨_, rfl, rfl, line, Str.ofString " ", rfl, rfl, by decide +kernel, Nat.le_trans (show line.length + 2 ≤ 1000002 by omega) (by decide), fun l hl => ?_⟩
    rw [blk_is, hsp]
    have s1 := Same.upd (o := .lst ((wd :: zs).map V.str)) hl
    have zl : upd H l (.lst ((wd :: zs).map V.str)) l = some (.lst ((wd :: zs).map V.str)) := upd_same
    obtain ⟨H1, e1⟩ : ∃ H1, upd H l (.lst ((wd :: zs).map V.str)) = H1 := ⟨_, rfl⟩
    show gName 1 (V.ref l) _ (upd H l (.lst ((wd :: zs).map V.str))) _
    rw [e1] at s1 zl ⊢
    have hat : atI ((wd :: zs).map V.str) 0 = some (V.str wd) := atI_nat (xs := (wd :: zs).map V.str) (j := 0) rfl
    rcases k with ⟨ks, hm, k⟩ | ⟨hn, k⟩
    · obtain ⟨fa, ha, hs⟩ := T.tab _ hm
      refine ⟨_, rfl, l, _, 0, .str wd, rfl, rfl, SqL.of zl, hat, aF, wd, _, rfl, rfl, T.kd, ha, _, rfl, iteT ?_⟩
      refine ⟨_, rfl, _, rfl, l, _, 0, .str wd, rfl, rfl, SqL.of zl, hat, aF, wd, _, .ref fa, rfl, rfl, T.kd, ha, rfl, l, fa, wd, zs, ks, rfl, zl, hs _, hz, hzz, ?_⟩
      exact k.imp (fun ⟨a, rvs, b, c⟩ => ⟨a, rvs, b, fun t H' sm => c t H' (s1.trans sm)⟩) fun ⟨a, c⟩ => ⟨a, fun H' sm => c H' (s1.trans sm)⟩
    · exact ⟨_, rfl, l, _, 0, .str wd, rfl, rfl, SqL.of zl, hat, aF, wd, _, rfl, rfl, T.kd, hn, _, rfl, iteF (k _ s1)⟩
end
end K75
end
section
set_option Elab.async false
set_option linter.all false
set_option maxRecDepth 100000
set_option maxHeartbeats 1000000
set_option exponentiation.threshold 4000
namespace K75
open PySem L2 LX PySem.NumText PySem.Builtin.Int
/-! ### words that the table has not -/
def keyOf (v : Value) (ws : List Str) : Bool := match v with
  | .str z _ => decide (z ∈ ws)
  | _ => false
def keysIn (K : PySem.W.Frag) (aF : Addr) (ws : List Str) : Bool := match K.lookup aF with
  | some ⟨_, _, .dict es _, _⟩ => es.toList.all (fun e => keyOf e.key ws) && !es.toList.any (·.refKey)
  | _ => false
theorem abs_of {K : PySem.W.Frag} {aF : Addr} {ws : List Str} {wd : Str} (h : keysIn K aF ws = true) (hw : wd ∉ ws) : PySem.W.nsIn K aF wd = some none := by
  unfold keysIn at h
  unfold PySem.W.nsIn
  split at h
  · rename_i c d es n sl e
    rw [e]
    rw [Bool.and_eq_true, Bool.not_eq_true'] at h
    have hf : es.toList.find? (·.key.isStr wd) = none := by
      rw [List.find?_eq_none]
      intro x hx hs
      have := List.all_eq_true.mp h.1 x hx
      unfold keyOf at this
      split at this
      · rename_i z t ek
        have hz := of_decide_eq_true this
        rw [ek] at hs
        have : z = wd := by simpa [Value.isStr] using hs
        exact hw (this ▸ hz)
      · cases this
    simp only [hf, h.2]
    rfl
  · cases h
end K75
end
section
set_option Elab.async false
set_option linter.all false
set_option maxRecDepth 100000
set_option maxHeartbeats 1000000
set_option exponentiation.threshold 4000
namespace K75
open PySem L2 LX PySem.NumText PySem.Builtin.Int
abbrev sXI : Stmt := inClass (top 1) 0
abbrev sI4 : Stmt := inClass (top 5) 0
instance : DecidableEq Kd := fun a b => by
  cases a <;> cases b <;> first | exact isTrue rfl | exact isFalse (fun h => nomatch h)
/-- what each word's parts are -/
def TB : List (Str × List Kd) := [("room", [.num, .age]), ("load", [.num, .num, .num]), ("store", [.num, .num, .num]), ("copy", [.num, .num]), ("drop", [.num]), ("number", [.num, .num]), ("name", [.num, .num]), ("read", [.num, .num]), ("word", [.num, .num]), ("make", [.num, .num, .num, .num]), ("small", []), ("begin", []), ("shade", [.num]), ("look", [.num, .num]), ("move", [.num, .num]), ("end", [])]
/-- what the text has -/
structure TxtE (K : PySem.W.Frag) (mg : Str → Option Value) (CH dL dA dB dV fXI fI : Addr) : Prop where
  h : ∃ cd, XCls K CH cd
  mH : mg "HeapError" = some (.ref CH)
  cf : ClsFn K CH "__init__" fXI
  mL : mg "BadLog" = some (.ref dL)
  cL : ErrC K dL
  mxL : MkX K dL fI
  xsL : XSet K dL "row"
  subL : ∃ cd, XCls K dL cd ∧ cd.mro.contains (.ref CH) = true
  fv : PySem.W.kitOne K (.ref dL) (.type "ValueError") = some true
  mA : mg "BadAddress" = some (.ref dA)
  mB : mg "BadText" = some (.ref dB)
  mV : mg "BadView" = some (.ref dV)
  nt : PySem.W.kitAny K (.ref dL) [.ref dA, .ref dB, .ref dV] = some false
  z_ValueError : mg "ValueError" = none
  z_isinstance : mg "isinstance" = none
section
variable {P : Program} {w : World} {K : PySem.W.Frag} {mg : Str → Option Value} {base : Heap} {aF CH dL dA dB dV fXI fI : Addr}
theorem ok_xi {f : Addr} {fd : FuncData} (F : Fun K "__init__" "HeapError.__init__" sXI f fd) (hve : mg "ValueError" = none) : FnOk P w K mg base (CXE P w) 1 f fd ["self", "text"] (spXI K) := by
  refine F.okE (N := ["self", "text"]) ⟨rfl, rfl, rfl, by decide +kernel, rfl, by decide +kernel, by decide +kernel⟩ (fun vs H Q E h => ?_) (fun cdv A outer s H vs Q E hr h => ?_)
  · obtain ⟨ea, C, od, x, rfl, _⟩ := h
    rfl
  · obtain ⟨ea, C, od, x, rfl, h1, hc, k⟩ := h
    refine ⟨_, pss_one (ps_expr (pe_ve rfl hve (pa_cons (pv 0) (pa_cons (pv 1) pa_nil)))), ?_⟩
    exact ⟨_, rfl, _, rfl, ea, C, od, [x], rfl, (by show 1 ≤ 1000; decide), h1, hc, k⟩
/-- __init__(self, text, row) of BadLog -/
def spXI2 (K : PySem.W.Frag) : Sp := fun vs H Q _ => ∃ ea C x r, vs = [.ref ea, x, r] ∧ H ea = some (exo true C ea none) ∧ XSet K C "row" ∧ ∀ dx, H dx = none → Q .non (upd (upd H dx (.xd [("row", r)])) ea (exo true C ea (some dx)))
theorem scI4 : FnScope ["self", "text", "row"] ["self", "text", "row"] (defScope sI4) := ⟨rfl, rfl, rfl, by decide +kernel, rfl, by decide +kernel, by decide +kernel⟩
theorem ok_i4 {f : Addr} {fd fdX : FuncData} (F : Fun K "__init__" "BadLog.__init__" sI4 f fd) (T : TxtE K mg CH dL dA dB dV fXI fI) (GX : FnOk P w K mg base (CXE P w) 1 fXI fdX ["self", "text"] (spXI K)) (bX : Binds K fdX ["self", "text"] []) :
    FnOk P w K mg base (CXE P w) 2 f fd ["self", "text", "row"] (spXI2 K) := by
  refine F.okE scI4 (fun vs H Q E h => ?_) (fun cdv A outer s H vs Q E hr h => ?_)
  · obtain ⟨ea, C, x, r, rfl, _⟩ := h
    rfl
  · obtain ⟨ea, C, x, r, rfl, h1, hc, k⟩ := h
    refine ⟨_, pss_cons (ps_expr (xe_cls rfl T.mH T.cf GX hr bX (Passes.x (passE fun _ _ _ q => q)) (pa_cons (pv 0) (pa_cons (pv 1) pa_nil)))) (pss_one (ps_fldX (pv 0) (pv 2) rfl)), ?_⟩
    obtain ⟨cd, CH', xc, _⟩ := hc.cls
    exact ⟨_, rfl, _, rfl, ea, C, none, x, rfl, h1, ⟨cd, xc⟩, _, rfl, _, rfl, true, ea, C, rfl, h1, hc, k⟩
/-! ### lines: right ones, and none -/
def Shape (z wd : Str) (zs : List Str) : Prop := Txt.split z BLK = wd :: zs ∧ zs.length ≤ 100 ∧ (∀ y ∈ zs, y.length ≤ 100000) ∧ z.length ≤ 2000 ∧ 10 ∉ z.cps.toList
def Right (z : Str) : Prop := ∃ wd zs ks, Shape z wd zs ∧ (wd, ks) ∈ TB ∧ Wrs zs ks ∧ ∃ vs, Rds ks zs vs
def NoRow (z : Str) : Prop := ∃ wd zs, Shape z wd zs ∧ ((∃ ks, (wd, ks) ∈ TB ∧ ¬ Wrs zs ks) ∨ wd ∉ TB.map (·.1))
theorem Right.sh {z : Str} (h : Right z) : 10 ∉ z.cps.toList ∧ z.length ≤ 2000 := by
  obtain ⟨wd, zs, ks, ⟨_, _, _, a, b⟩, _⟩ := h
  exact ⟨b, a⟩
theorem NoRow.sh {z : Str} (h : NoRow z) : 10 ∉ z.cps.toList ∧ z.length ≤ 2000 := by
  obtain ⟨wd, zs, ⟨_, _, _, a, b⟩, _⟩ := h
  exact ⟨b, a⟩
def Ln (z : Str) : Prop := Right z ∨ NoRow z
theorem Ln.sh {z : Str} (h : Ln z) : 10 ∉ z.cps.toList ∧ z.length ≤ 2000 := h.elim Right.sh NoRow.sh
/-- which line is the first that is none: none of them, or p -/
def First (ls : List Str) : Option Nat → Prop
  | none => ∀ z ∈ ls, Right z
  | some p => (∀ i < p, ∀ z, ls[i]? = some z → Right z) ∧ ∃ z, ls[p]? = some z ∧ NoRow z
/-- read_log, both ways -/
def spReadG (dL : Addr) : Sp := fun vs H Q E => ∃ (ls : List Str) (o : Option Nat), vs = [.str (Txt.join LF ls)] ∧ ls ≠ [] ∧ ls.length ≤ 100 ∧ (∀ z ∈ ls, Ln z) ∧ First ls o ∧ (o = none → ∀ (l : Addr) (H' : Hp), Same H H' → Q (.ref l) H') ∧ (∀ p, o = some p → ∀ (dx : Addr) (H' : Hp), Same H H' → H' dx = some (.xd [("row", .int ((p : Int) + 1))]) → E (.ref dL) (some dx) H')
end
end K75
end
section
set_option Elab.async false
set_option linter.all false
set_option maxRecDepth 100000
set_option maxHeartbeats 1000000
set_option exponentiation.threshold 4000
namespace K75
open PySem L2 LX PySem.NumText PySem.Builtin.Int
section
variable {P : Program} {w : World} {K : PySem.W.Frag} {mg : Str → Option Value} {base : Heap} {aF CH dL dA dB dV fXI fI : Addr}
abbrev NL : List Str := ["text", "log", "line", "row", "number"]
theorem scRL : FnScope NL ["text"] (defScope sReadL) := ⟨rfl, rfl, rfl, by decide +kernel, rfl, by decide +kernel, by decide +kernel⟩
theorem join_ln {ls : List Str} (h : ∀ z ∈ ls, Ln z) (hl : ls.length ≤ 100) : (Txt.join LF ls).length ≤ 300000 := by
  have h1 := join_len LF ls
  have h2 := sum_le (b := 2000) (xs := ls) fun x hx => (h x hx).sh.2
  have h4 : LF.length = 1 := rfl
  rw [h4] at h1
  omega
theorem small_log {i : Nat} (h : i < 300) : ((i : Int) + 1).natAbs.log2 < 1920 := sm_log (n := (i : Int) + 1) (by
  have big : (1000 : Int) ≤ 10 ^ 60 := by decide
  exact ⟨by omega, by omega⟩)
theorem ok_readg {f fR : Addr} {fd fdR fdI : FuncData} (F : Fun K "read_log" "read_log" sReadL f fd) (T : TxtE K mg CH dL dA dB dV fXI fI) (AB : ∀ wd, wd ∉ TB.map (·.1) → PySem.W.nsIn K aF wd = some none) (zn : mg "len" = none)
    (GI : FnOk P w K mg base (CXE P w) 2 fI fdI ["self", "text", "row"] (spXI2 K)) (bI : Binds K fdI ["self", "text", "row"] [])
    (GR : FnOk P w K mg base (CXE P w) 5 fR fdR ["line"] (spLogR K aF TB)) (mR : mg "log_row" = some (.ref fR)) (kR : PySem.W.keepIn K (.ref fR) = true) (bR : Binds K fdR ["line"] []) : FnOk P w K mg base (CXE P w) 6 f fd ["text"] (spReadG dL) := by
  refine F.okE scRL (fun vs H Q E h => ?_) (fun cdv A outer s H vs Q E hr h => ?_)
  · obtain ⟨ls, o, rfl, _⟩ := h
    rfl
  · obtain ⟨ls, o, rfl, h0, hz, hv, hf, kq, ke⟩ := h
    have r2 := hr.mono (show 3 ≤ 5 by decide)
    refine ⟨_, PSs.xr (pss_cons (ps_set (i := 1) scRL.nd rfl (Or.inl rfl) (pe_lst pa_nil))
      (pss_cons (ps_for ownR rfl (pi_list (pe_bm PySem.F.plainAttrs_str PySem.F.slot_str_split PySem.F.type_str_split mt_split (pv 0) (pa_cons pe_str pa_nil))) (pg_name (i := 2) scRL.nd rfl (Or.inl rfl))
        (pss_cons (ps_set (i := 3) scRL.nd rfl (Or.inl rfl) (xe_call GR hr rfl mR kR bR .nil passF (pa_cons (pv 2) pa_nil)))
        (pss_cons (ps_if (pt_cmpR op_isN (pv 3) pe_non (nomark _)) (pss_cons (ps_set (i := 4) scRL.nd rfl (Or.inl rfl) (pe_op op_add (pe_callB call_len_seq rfl zn PyProof.Rows.Boot.«len» (pa_cons (pv 1) pa_nil)) pe_int)) (pss_one (ps_raise rfl raiseR (xe_err T.mxL GI r2 rfl T.mL bI (passR fun _ _ _ q => q) (pa_cons (pe_fstr (pfs_cons pf_text (pfs_cons (pf_num (pv 4)) (pfs_cons pf_text pfs_nil)))) (pa_cons (pv 4) pa_nil)))))) pss_nil)
        (pss_one (ps_expr (pe_bm PySem.F.plainAttrs_list PySem.F.slot_list_append PySem.F.type_list_append mt_append (pv 1) (pa_cons (pv 3) pa_nil)))))))
      (pss_one (ps_ret (pv 1))))), ?_⟩
    refine ⟨by show 0 ≤ sizeLine; decide, fun lg hlg => ?_⟩
    have s1 := Same.upd (o := .lst []) hlg
    have zlg : upd H lg (.lst []) lg = some (.lst []) := upd_same
    obtain ⟨H1, e1⟩ : ∃ H1, upd H lg (.lst []) = H1 := ⟨_, rfl⟩
    show gName 1 (V.ref lg) _ (upd H lg (.lst [])) _
    rw [e1] at s1 zlg ⊢
    clear e1
    have hsp : Txt.split (Txt.join LF ls) LF = ls := split_join h0 fun x hx => (hv x hx).sh.1
    have hln := join_ln hv hz
    refine ⟨_, rfl, rfl, Txt.join LF ls, Str.ofString "\n", rfl, rfl, by decide +kernel, Nat.le_trans (show (Txt.join LF ls).length + 2 ≤ 300002 by omega) (by decide), fun sp hsp' => ?_⟩
    rw [lf_is, hsp]
    have s2 := Same.upd (o := .lst (ls.map V.str)) hsp'
    have nsl : sp ≠ lg := fun z => by rw [z, zlg] at hsp'; cases hsp'
    refine ⟨sp, rfl, ⟨_, SqL.of upd_same⟩, for_list (K := K) (a := sp) (xs := ls.map V.str) (fun i σ Hx => (∀ p, o = some p → i ≤ p) ∧ ∃ (v2 v3 v4 : Option V) (xs : List V), σ = [some (.str (Txt.join LF ls)), some (.ref lg), v2, v3, v4] ∧ Same H Hx ∧ Hx sp = some (.lst (ls.map V.str)) ∧ Hx lg = some (.lst xs) ∧ xs.length = i)
      ⟨fun p _ => Nat.zero_le _, none, none, none, [], rfl, s1.trans s2, upd_same, s2 _ _ zlg, rfl⟩ (fun i σ Hx _ ⟨_, _, _, _, _, _, _, z, _⟩ => SqL.of z) ?_ ?_⟩
    · rintro i x σ Hx hx ⟨hip, v2, v3, v4, xs, rfl, sx, zx, zl, hl⟩
      have hi : i < ls.length := by have := (List.getElem?_eq_some_iff.mp hx).1; rwa [List.length_map] at this
      obtain ⟨z, ez⟩ : ∃ z, ls[i] = z := ⟨_, rfl⟩
      have hzi : ls[i]? = some z := by rw [List.getElem?_eq_getElem hi, ez]
      have hxe : x = .str z := by
        rw [List.getElem?_map, hzi] at hx
        exact (Option.some.inj hx).symm
      subst hxe
      have hzm : z ∈ ls := List.mem_of_getElem? hzi
      by_cases ho : o = some i
      · subst ho
        obtain ⟨_, z', e1, hno⟩ := hf
        rw [hzi] at e1
        cases e1
        obtain ⟨wd, zs, ⟨h1, h2, h3, h4, h5⟩, h6⟩ := hno
        have raised : ∀ {H5 : Hp}, Same Hx H5 → ∀ ea dx : Addr, H5 ea = none → (upd H5 ea (exo true dL ea none)) dx = none → E (.ref dL) (some dx) (del (upd (upd (upd H5 ea (exo true dL ea none)) dx (.xd [("row", .int ((xs.length : Int) + 1))])) ea (exo true dL ea (some dx))) ea) := fun {H5} s5 ea dx hea hdx => by
          have nde : dx ≠ ea := fun z => by rw [z, upd_same] at hdx; cases hdx
          have hdx5 : H5 dx = none := by rw [upd_ne nde] at hdx; exact hdx
          refine ke i rfl dx _ (fun b o q => ?_) ?_
          · have q5 := s5 _ _ (sx b o q)
            have n1 : b ≠ ea := fun z => by rw [z, hea] at q5; cases q5
            have n2 : b ≠ dx := fun z => by rw [z, hdx5] at q5; cases q5
            rw [del_ne n1, upd_ne n1, upd_ne n2, upd_ne n1]
            exact q5
          · rw [del_ne nde, upd_ne nde, upd_same, hl]
        have fin : ∀ H5, Same Hx H5 → H5 lg = some (.lst xs) ∧ ((xs.length : Int) + 1).natAbs.log2 < 1920 := fun H5 s5 => ⟨s5 _ _ zl, small_log (by omega)⟩
        refine ⟨_, rfl, z, wd, zs, rfl, Nat.le_trans h4 (by decide), h1, h2, h3, ?_⟩
        rcases h6 with ⟨ks, hm, hw⟩ | hb
        · refine .inl ⟨ks, hm, .inr ⟨hw, fun H5 s5 => ?_⟩⟩
          obtain ⟨f1, f2⟩ := fin H5 s5
          refine ⟨_, rfl, rfl, _, rfl, iteT ⟨_, rfl, lg, _, rfl, .inl (SqL.of f1), _, 1, rfl, rfl, ?_⟩⟩
          exact ⟨_, rfl, (xs.length : Int) + 1, rfl, f2, fun y hy => ⟨_, rfl, fun ea hea => ⟨ea, dL, .str y, .int ((xs.length : Int) + 1), rfl, upd_same, T.xsL, fun dx hdx => ⟨rfl, ea, dL, some dx, rfl, upd_same, T.cL.cls, (sx.trans s5).free hea, raised s5 ea dx hea hdx⟩⟩⟩⟩
        · refine .inr ⟨AB wd hb, fun H5 s5 => ?_⟩
          obtain ⟨f1, f2⟩ := fin H5 s5
          refine ⟨_, rfl, rfl, _, rfl, iteT ⟨_, rfl, lg, _, rfl, .inl (SqL.of f1), _, 1, rfl, rfl, ?_⟩⟩
          exact ⟨_, rfl, (xs.length : Int) + 1, rfl, f2, fun y hy => ⟨_, rfl, fun ea hea => ⟨ea, dL, .str y, .int ((xs.length : Int) + 1), rfl, upd_same, T.xsL, fun dx hdx => ⟨rfl, ea, dL, some dx, rfl, upd_same, T.cL.cls, (sx.trans s5).free hea, raised s5 ea dx hea hdx⟩⟩⟩⟩
      · have nxt : ∀ p, o = some p → i + 1 ≤ p := fun p e => by
          have h1 := hip p e
          have h2 : i ≠ p := fun q => ho (by rw [e, q])
          omega
        have hright : Right z := by
          cases o with
          | none => exact hf z hzm
          | some p => exact hf.1 i (nxt p rfl) z hzi
        obtain ⟨wd, zs, ks, ⟨h1, h2, h3, h4, h5⟩, hm, hw, vs, hrd⟩ := hright
        refine ⟨_, rfl, z, wd, zs, rfl, Nat.le_trans h4 (by decide), h1, h2, h3, .inl ⟨ks, hm, .inl ⟨hw, vs, hrd, fun t H5 s5 zt => ?_⟩⟩⟩
        have zl5 := s5 _ _ zl
        refine ⟨_, rfl, rfl, _, rfl, iteF ⟨_, rfl, .inl ⟨rfl, _, SqL.of zl5⟩, _, rfl, lg, xs, _, rfl, rfl, zl5, Nat.lt_of_le_of_lt (show xs.length ≤ 100 by omega) (by decide), nxt, _, _, _, xs ++ [.ref t], rfl, fun c u q => by rw [upd_ne (ne_of_none q hlg)]; exact s5 _ _ (sx c u q), ?_, upd_same, by rw [List.length_append, hl]; rfl⟩⟩
        rw [upd_ne nsl]
        exact s5 _ _ zx
    · rintro σ Hx ⟨hip, v2, v3, v4, xs, rfl, sx, zx, zl, hl⟩
      rw [List.length_map] at hip
      cases o with
      | none => exact ⟨_, rfl, kq rfl lg Hx sx⟩
      | some p =>
        obtain ⟨_, z, e, _⟩ := hf
        have := (List.getElem?_eq_some_iff.mp e).1
        have := hip p rfl
        omega
end
end K75
end
section
set_option Elab.async false
set_option linter.all false
set_option maxRecDepth 100000
set_option maxHeartbeats 1000000
set_option exponentiation.threshold 4000
namespace K75
open PySem L2 LX PySem.NumText PySem.Builtin.Int
abbrev sC4 : Stmt := inClass (top 5) 1
section
variable {P : Program} {w : World} {K : PySem.W.Frag} {mg : Str → Option Value} {base : Heap} {aF CH dL dA dB dV fXI fI : Addr}
/-- called(): the class's name -/
def spName (nm : Str) : Sp := fun vs H Q _ => ∃ x, vs = [x] ∧ Q (.str nm) H
theorem ok_called {f : Addr} {fd : FuncData} (F : Fun K "called" "BadLog.called" sC4 f fd) : FnOk P w K mg base (CXE P w) 1 f fd ["self"] (spName "BadLog") := by
  refine F.okE (N := ["self"]) ⟨rfl, rfl, rfl, by decide +kernel, rfl, by decide +kernel, by decide +kernel⟩ (fun vs H Q E h => ?_) (fun cdv A outer s H vs Q E hr h => ?_)
  · obtain ⟨x, rfl, _⟩ := h
    rfl
  · obtain ⟨x, rfl, k⟩ := h
    exact ⟨_, PSs.nox (pss_one (ps_ret pe_str)), k⟩
/-- _law_row_of -/
def rowNo : Option Nat → Int
  | none => 0
  | some p => (p : Int) + 1
def spRowOf : Sp := fun vs H Q _ => ∃ (ls : List Str) (o : Option Nat), vs = [.str (Txt.join LF ls)] ∧ ls ≠ [] ∧ ls.length ≤ 100 ∧ (∀ z ∈ ls, Ln z) ∧ First ls o ∧ ∀ H', Same H H' → Q (.int (rowNo o)) H'
theorem scRO : FnScope ["text", "caught", "e"] ["text"] (defScope sRowOf) := ⟨rfl, rfl, rfl, by decide +kernel, rfl, by decide +kernel, by decide +kernel⟩
theorem ok_rowof {f fA : Addr} {fd fdA : FuncData} (F : Fun K "_law_row_of" "_law_row_of" sRowOf f fd) (T : TxtE K mg CH dL dA dB dV fXI fI) (zb : mg "bool" = none) (MD : MethD P w K mg base (CXE P w) 1 "called" dL (spName "BadLog"))
    (GA : FnOk P w K mg base (CXE P w) 6 fA fdA ["text"] (spReadG dL)) (mA : mg "read_log" = some (.ref fA)) (kA : PySem.W.keepIn K (.ref fA) = true) (bA : Binds K fdA ["text"] []) : FnOk P w K mg base (CXE P w) 7 f fd ["text"] spRowOf := by
  obtain ⟨cdH, xH⟩ := T.h
  obtain ⟨cd, xc, hmr⟩ := T.subL
  refine F.okE scRO (fun vs H Q E h => ?_) (fun cdv A outer s H vs Q E hr h => ?_)
  · obtain ⟨ls, o, rfl, _⟩ := h
    rfl
  · obtain ⟨ls, o, rfl, h0, hz, hv, hf, k⟩ := h
    refine ⟨_, PSs.nox (pss_cons (ps_set (i := 1) scRO.nd rfl (Or.inl rfl) pe_non)
      (pss_cons (ps_try (i := 2) rfl rfl rfl rfl T.mH xH scRO.nd rfl rfl
          (fun pins E' EK hx => pss_one (ps_expr (xe_call GA hr rfl mA kA bA .nil hx (pa_cons (pv 0) pa_nil))))
          (fun ea => pss_one (ps_set (i := 1) scRO.nd rfl (Or.inl rfl) (pv 2))))
      (pss_cons (ps_if (pt_cmpR op_isN (pv 1) pe_non (nomark _)) (pss_one (ps_ret pe_int)) pss_nil)
      (pss_cons (ps_if (PW.pt (pw_or (pt_not (pt_val (pe_callB call_isi rfl T.z_isinstance PyProof.Rows.Boot.«isinstance» (pa_cons (pv 1) (pa_cons (pe_glob (v := .ref dL) rfl T.mL rfl) pa_nil))))) (pw_or (pt_not (pt_val (pe_callB call_isiT rfl T.z_isinstance PyProof.Rows.Boot.«isinstance» (pa_cons (pv 1) (pa_cons (pe_ty rfl T.z_ValueError PyProof.Rows.Boot.«ValueError») pa_nil))))) (pw_or1 (pt_cmpR op_ne (xe_methD (k := 1) (CX := CXE P w) (pv 1) (hr.mono (by decide)) passN) pe_str (nomark _)))))) (pss_one ps_dead) pss_nil)
      (pss_cons (ps_if (PW.pt (pw_or (pt_val (pe_callB call_isiTup rfl T.z_isinstance PyProof.Rows.Boot.«isinstance» (pa_cons (pv 1) (pa_cons (pe_tup (pa_cons (pe_glob (v := .ref dA) rfl T.mA rfl) (pa_cons (pe_glob (v := .ref dB) rfl T.mB rfl) (pa_cons (pe_glob (v := .ref dV) rfl T.mV rfl) pa_nil)))) pa_nil)))) (pw_or1 (pt_val (pe_callB call_isiT rfl T.z_isinstance PyProof.Rows.Boot.«isinstance» (pa_cons (pe_fldX (pv 1) rfl) (pa_cons (pe_ty rfl zb PyProof.Rows.Boot.«bool») pa_nil))))))) (pss_one ps_dead) pss_nil)
      (pss_one (ps_ret (pe_fldX (pv 1) rfl)))))))), ?_⟩
    refine ⟨_, rfl, ls, o, rfl, h0, hz, hv, hf, fun ho l H3 s3 => ?_, fun p ho dx H3 s3 zdx => ?_⟩
    · subst ho
      exact ⟨_, rfl, rfl, _, rfl, iteT (k H3 s3)⟩
    · subst ho
      refine ⟨dL, cd, rfl, xc, hmr, fun ea hea => ⟨.ref ea, rfl, ?_⟩⟩
      have s4 := Same.upd (o := exo false dL ea (some dx)) hea
      have z4 : upd H3 ea (exo false dL ea (some dx)) ea = some (exo false dL ea (some dx)) := upd_same
      have zd4 := s4 _ _ zdx
      have ty : TyX K (upd H3 ea (exo false dL ea (some dx))) (.ref ea) (.ref dL) := .exc z4 (.inr ⟨dx, _, rfl, zd4⟩) xc T.cL.get T.cL.own
      have s5 := s3.trans s4
      refine ⟨_, rfl, rfl, _, rfl, iteF ?_⟩
      refine isi_read (x := .ref ea) (t := .ref dL) (b := true) rfl ty (by simp [PySem.W.kitOne]) ⟨_, rfl, iteF ?_⟩
      refine isi_readT (x := .ref ea) (t := .ref dL) (b := true) rfl ty T.fv ⟨_, rfl, iteF ?_⟩
      refine ⟨_, rfl, false, ea, dL, some dx, spName "BadLog", rfl, z4, .inr ⟨dx, _, rfl, zd4, by rfl⟩, T.cL.get, MD, .ref ea, rfl, rfl, _, rfl, ite2 (fun h => absurd h (by decide +kernel)) (fun _ => ?_)⟩
      refine ⟨_, rfl, by show 3 ≤ sizeLine; decide, fun tp htp => ?_⟩
      have s6 := Same.upd (o := .tup [V.ref dA, V.ref dB, V.ref dV]) htp
      have z6 := s6 _ _ z4
      have zd6 := s6 _ _ zd4
      refine ⟨false, ea, dL, tp, some dx, cd, _, false, rfl, z6, .inr ⟨dx, _, rfl, zd6⟩, xc, T.cL.get, T.cL.own, SqT.of upd_same, (fun c hc => by
        simp only [List.mem_cons, List.not_mem_nil, or_false] at hc
        rcases hc with rfl | rfl | rfl <;> exact ⟨_, rfl⟩), T.nt, _, rfl, iteF ?_⟩
      refine ⟨_, rfl, false, ea, dL, dx, _, .int ((p : Int) + 1), rfl, z6, zd6, T.xsL, rfl, .int ((p : Int) + 1), .ty "bool", .type "int", false, rfl, .of (.int _), ⟨_, rfl⟩, (by kernel_rfl), _, rfl, iteF ?_⟩
      exact ⟨_, rfl, false, ea, dL, dx, _, _, rfl, z6, zd6, T.xsL, rfl, k _ (s5.trans s6)⟩
end
end K75
end
section
set_option Elab.async false
set_option linter.all false
set_option maxRecDepth 100000
set_option maxHeartbeats 1000000
set_option exponentiation.threshold 4000
namespace K75
open PySem L2 LX PySem.NumText PySem.Builtin.Int
section
variable {P : Program} {w : World} {K : PySem.W.Frag} {mg : Str → Option Value} {base : Heap}
def LA1 : List Str := ["load 1 2 0", "store 3 0 1", "copy 4 5", "drop 7", "number 2 -31", "name 0 6", "read 1 1", "word 2 900"]
def LA2 : List Str := ["make 3 2 17 40", "small", "begin", "shade 17", "look 17 1", "move 17 80", "end", "room 90 young"]
def LA3 : List Str := [(("number 3 " : String) : Str) ++ Txt.mul (("9" : String) : Str) 61, (("word 1 -" : String) : Str) ++ Txt.mul (("9" : String) : Str) 61]
def LA : List Str := LA1 ++ LA2 ++ LA3
abbrev R64 : Str := "room 64 old"
/-- the lines that are drawn -/
def LK : List Str := R64 :: LA
theorem la_len : LA.length = 18 := by decide +kernel
instance (zs : List Str) (ks : List Kd) : Decidable (Wrs zs ks) := by unfold Wrs; infer_instance
/-- a part can be read -/
def rdB : Kd → Str → Bool
  | .mrk, _ => true
  | .age, _ => true
  | .num, z => (PySem.intText? z).isSome && decide (z.length ≤ 640)
  | .cnt, z => (PySem.intText? z).isSome && decide (z.length ≤ 640)
def rdsB : List Kd → List Str → Bool
  | [], [] => true
  | k :: ks, z :: zs => rdB k z && rdsB ks zs
  | _, _ => false
theorem rd_of {k : Kd} {z : Str} (h : rdB k z = true) : ∃ v, Rdd k z v := by
  cases k with
  | mrk => exact ⟨_, .mrk z⟩
  | age => exact ⟨_, .age z⟩
  | num =>
    have h : ((PySem.intText? z).isSome && decide (z.length ≤ 640)) = true := h
    rw [Bool.and_eq_true] at h
    obtain ⟨n, e⟩ := Option.isSome_iff_exists.mp h.1
    exact ⟨_, .num e (of_decide_eq_true h.2)⟩
  | cnt =>
    have h : ((PySem.intText? z).isSome && decide (z.length ≤ 640)) = true := h
    rw [Bool.and_eq_true] at h
    obtain ⟨n, e⟩ := Option.isSome_iff_exists.mp h.1
    exact ⟨_, .cnt e (of_decide_eq_true h.2)⟩
theorem rds_of : ∀ {ks : List Kd} {zs : List Str}, rdsB ks zs = true → ∃ vs, Rds ks zs vs
  | [], [], _ => ⟨[], .nil⟩
  | k :: ks, z :: zs, h => by
    have h : (rdB k z && rdsB ks zs) = true := h
    rw [Bool.and_eq_true] at h
    obtain ⟨v, a⟩ := rd_of h.1
    obtain ⟨vs, b⟩ := rds_of h.2
    exact ⟨v :: vs, .cons a b⟩
  | [], _ :: _, h => absurd h Bool.false_ne_true
  | _ :: _, [], h => absurd h Bool.false_ne_true
def shapeB (z : Str) (zs : List Str) : Bool := decide (zs.length ≤ 100) && zs.all (fun y => decide (y.length ≤ 100000)) && decide (z.length ≤ 2000) && !decide (10 ∈ z.cps.toList)
theorem shape_of {z wd : Str} {zs : List Str} (e : Txt.split z BLK = wd :: zs) (h : shapeB z zs = true) : Shape z wd zs := by
  unfold shapeB at h
  simp only [Bool.and_eq_true, decide_eq_true_eq, List.all_eq_true, Bool.not_eq_true', decide_eq_false_iff_not] at h
  obtain ⟨⟨⟨h1, h2⟩, h3⟩, h4⟩ := h
  exact ⟨e, h1, h2, h3, h4⟩
def rightB (z : Str) : Bool := match Txt.split z BLK with
  | wd :: zs => shapeB z zs && TB.any (fun p => decide (p.1 = wd) && decide (Wrs zs p.2) && rdsB p.2 zs)
  | [] => false
def noRowB (z : Str) : Bool := match Txt.split z BLK with
  | wd :: zs => shapeB z zs && (TB.any (fun p => decide (p.1 = wd) && !decide (Wrs zs p.2)) || !decide (wd ∈ TB.map (·.1)))
  | [] => false
theorem right_of {z : Str} (h : rightB z = true) : Right z := by
  unfold rightB at h
  split at h
  · rename_i wd zs e
    rw [Bool.and_eq_true] at h
    obtain ⟨p, q1, q2⟩ := List.any_eq_true.mp h.2
    simp only [Bool.and_eq_true, decide_eq_true_eq] at q2
    exact ⟨wd, zs, p.2, shape_of e h.1, by rw [← q2.1.1]; exact q1, q2.1.2, rds_of q2.2⟩
  · cases h
theorem noRow_of {z : Str} (h : noRowB z = true) : NoRow z := by
  unfold noRowB at h
  split at h
  · rename_i wd zs e
    rw [Bool.and_eq_true] at h
    refine ⟨wd, zs, shape_of e h.1, ?_⟩
    have h2 := h.2
    simp only [Bool.or_eq_true, Bool.and_eq_true, decide_eq_true_eq, Bool.not_eq_true', decide_eq_false_iff_not, List.any_eq_true] at h2
    rcases h2 with ⟨p, q1, q2, q3⟩ | q
    · exact .inl ⟨p.2, by rw [← q2]; exact q1, q3⟩
    · exact .inr q
  · cases h
theorem lk_right : ∀ z ∈ LK, rightB z = true := by decide +kernel
theorem empty_no : noRowB (("" : String) : Str) = true := by decide +kernel
theorem no_no : noRowB (("no" : String) : Str) = true := by decide +kernel
end
end K75
end
section
set_option Elab.async false
set_option linter.all false
set_option maxRecDepth 100000
set_option maxHeartbeats 1000000
set_option exponentiation.threshold 4000
namespace K75
open PySem L2 LX PySem.NumText PySem.Builtin.Int
section
variable {P : Program} {w : World} {K : PySem.W.Frag} {mg : Str → Option Value} {base : Heap}
theorem cut_ints (ns : List Int) (lo hi : Option Int) : ∃ cs : List Int, cutV (ns.map V.int) lo hi = cs.map V.int ∧ cs.length ≤ ns.length ∧ ∀ c ∈ cs, c ∈ ns := by
  refine ⟨(ns.drop (HT.sIx ns.length 0 lo)).take (HT.sIx ns.length ns.length hi - HT.sIx ns.length 0 lo), ?_, ?_, fun c hc => List.mem_of_mem_drop (List.mem_of_mem_take hc)⟩
  · unfold cutV
    rw [List.length_map, List.map_take, List.map_drop]
  · rw [List.length_take, List.length_drop]
    omega
theorem cut_hi (ns : List Int) (k : Nat) : (cutV (ns.map V.int) none (some (k : Int))).length ≤ k := by
  unfold cutV
  rw [HT.sIx_none, HT.sIx_nat, List.length_take]
  omega
theorem mul_ok : MulOk (("9" : String) : Str) 61 := ⟨by decide, fun _ _ => by decide +kernel, fun _ _ => by decide +kernel⟩
theorem cat_read {σ : St} {tl : TA} {i : Nat} {l : Addr} {xs zs : List V} {H : Hp} {Q : VK} (e : σ[i]? = some (some (.ref l))) (hl : H l = some (.lst xs)) (ht : ∀ {H : Hp} {Q : List V → Hp → Prop}, Q zs H → tl σ H Q) (hx : xs.length + zs.length ≤ 100) (k : ∀ (l2 : Addr) (H' : Hp), Same H H' → H' l2 = some (.lst (xs ++ zs)) → Q (.ref l2) H') : tOp rCat (tVar i) (tLst tl) σ H Q := by
  refine ⟨_, e, ht ⟨Nat.le_trans (show zs.length ≤ 100 by omega) (by decide), fun p hp => ?_⟩⟩
  exact ⟨l, p, xs, zs, rfl, rfl, Same.upd hp _ _ hl, upd_same, Nat.le_trans hx (by decide), fun q hq => k q _ ((Same.upd hp).trans (Same.upd hq)) upd_same⟩
/-- _law_lines -/
def spLines (K : PySem.W.Frag) : Sp := fun vs H Q _ => ∃ (a : Addr) (ns : List Int), vs = [.ref a] ∧ SqL K H a (ns.map V.int) ∧ ∀ (l : Addr) (ls : List Str) (H' : Hp), Same H H' → H' l = some (.lst (ls.map V.str)) → ls ≠ [] → ls.length ≤ 21 → (∀ z ∈ ls, z ∈ LK) → Q (.ref l) H'
abbrev NLn : List Str := ["script", "some", "lines", "cell"]
theorem scLn : FnScope NLn ["script"] (defScope sLines) := ⟨rfl, rfl, rfl, by decide +kernel, rfl, by decide +kernel, by decide +kernel⟩
theorem ok_lines {f : Addr} {fd : FuncData} (F : Fun K "_law_lines" "_law_lines" sLines f fd) : FnOk P w K mg base (CXE P w) 1 f fd ["script"] (spLines K) := by
  refine F.okE scLn (fun vs H Q E h => ?_) (fun cdv A outer s H vs Q E hr h => ?_)
  · obtain ⟨a, ns, rfl, _⟩ := h
    rfl
  · obtain ⟨a, ns, rfl, hS, k⟩ := h
    refine ⟨_, PSs.nox (pss_cons (ps_set (i := 1) scLn.nd rfl (Or.inl rfl) (pe_lst (pa_cons pe_str (pa_cons pe_str (pa_cons pe_str (pa_cons pe_str (pa_cons pe_str (pa_cons pe_str (pa_cons pe_str (pa_cons pe_str pa_nil))))))))))
      (pss_cons (ps_set (i := 1) scLn.nd rfl (Or.inl rfl) (pe_op op_cat (pv 1) (pe_lst (pa_cons pe_str (pa_cons pe_str (pa_cons pe_str (pa_cons pe_str (pa_cons pe_str (pa_cons pe_str (pa_cons pe_str (pa_cons pe_str pa_nil)))))))))))
      (pss_cons (ps_set (i := 1) scLn.nd rfl (Or.inl rfl) (pe_op op_cat (pv 1) (pe_lst (pa_cons (pe_op op_add_str pe_str (pe_op op_mulT pe_str pe_int)) (pa_cons (pe_op op_add_str pe_str (pe_op op_mulT pe_str pe_int)) pa_nil)))))
      (pss_cons (ps_set (i := 2) scLn.nd rfl (Or.inl rfl) (pe_lst (pa_cons pe_str pa_nil)))
      (pss_cons (ps_for PassesOwn.never rfl (pi_list (pe_slice sl_list (pv 0) po_none (po_some pe_int))) (pg_name (i := 3) scLn.nd rfl (Or.inl rfl))
        (pss_one (ps_expr (pe_bm PySem.F.plainAttrs_list PySem.F.slot_list_append PySem.F.type_list_append mt_append (pv 2) (pa_cons (pe_ix ix_list (pv 1) (pe_op op_mod (pv 3) pe_int) (fun _ _ => rfl)) pa_nil)))))
      (pss_one (ps_ret (pv 2)))))))), ?_⟩
    refine ⟨by show 8 ≤ sizeLine; decide, fun l0 h0 => ?_⟩
    have w0 := Same.upd (o := .lst (LA1.map V.str)) h0
    refine cat_read (xs := LA1.map V.str) (zs := LA2.map V.str) rfl upd_same (fun q => q) (by decide +kernel) fun l1 H1 s1 z1 => ?_
    have s01 : Same H H1 := w0.trans s1
    rw [← List.map_append] at z1
    refine cat_read (xs := (LA1 ++ LA2).map V.str) (zs := LA3.map V.str) rfl z1 (fun q => ⟨_, _, rfl, rfl, mul_ok, _, _, rfl, rfl, by decide +kernel, _, _, rfl, rfl, mul_ok, _, _, rfl, rfl, by decide +kernel, q⟩) (by decide +kernel) fun l2 H2 s2 z2 => ?_
    rw [← List.map_append] at z2
    have z2 : H2 l2 = some (.lst (LA.map V.str)) := z2
    refine ⟨by show 1 ≤ sizeLine; decide, fun lg hlg => ?_⟩
    have w3 := Same.upd (o := .lst [V.str R64]) hlg
    have s03 := (s01.trans s2).trans w3
    have zlg : upd H2 lg (.lst [V.str R64]) lg = some (.lst ([R64].map V.str)) := upd_same
    have z23 := w3 _ _ z2
    have hlg0 : H lg = none := (s01.trans s2).free hlg
    obtain ⟨H3, e3⟩ : ∃ H3, upd H2 lg (.lst [V.str R64]) = H3 := ⟨_, rfl⟩
    show gName 2 (V.ref lg) _ (upd H2 lg (.lst [V.str R64])) _
    rw [e3] at s03 zlg z23 ⊢
    clear e3 w3
    obtain ⟨cs, ec, _, _⟩ := cut_ints ns none (some 20)
    have hc20 : cs.length ≤ 20 := by
      have := cut_hi ns 20
      rw [show (some ((20 : Nat) : Int)) = some 20 from rfl, ec, List.length_map] at this
      exact this
    have sqs : ∀ {Hx : Hp}, Same H Hx → SqL K Hx a (ns.map V.int) := fun s12 => Or.imp (fun r => Or.elim r (fun e => .inl (s12 _ _ e)) fun ⟨o, e⟩ => .inr ⟨o, s12 _ _ e⟩) id hS
    refine ⟨_, rfl, _, rfl, a, _, rfl, sqs s03, fun sl hsl => ?_⟩
    rw [ec]
    have w4 := Same.upd (o := .lst (cs.map V.int)) hsl
    have nsl : sl ≠ lg := fun z => by rw [z, zlg] at hsl; cases hsl
    have n2l : l2 ≠ lg := fun z => by rw [z] at z2; rw [hlg] at z2; cases z2
    refine ⟨sl, rfl, ⟨_, SqL.of upd_same⟩, for_list (K := K) (a := sl) (xs := cs.map V.int) (fun i σ Hx => ∃ (v3 : Option V) (ls : List Str), σ = [some (.ref a), some (.ref l2), some (.ref lg), v3] ∧ Same H Hx ∧ Hx sl = some (.lst (cs.map V.int)) ∧ Hx l2 = some (.lst (LA.map V.str)) ∧ Hx lg = some (.lst (ls.map V.str)) ∧ ls.length = i + 1 ∧ ∀ z ∈ ls, z ∈ LK)
      ⟨none, [R64], rfl, s03.trans w4, upd_same, w4 _ _ z23, w4 _ _ zlg, rfl, fun z h => by rw [List.mem_singleton.mp h]; exact List.mem_cons_self⟩ (fun i σ Hx _ ⟨_, _, _, _, z, _⟩ => SqL.of z) ?_ ?_⟩
    · rintro i x σ Hx hx ⟨v3, ls, rfl, sx, zs, za, zl, hl, hm⟩
      have hi : i < cs.length := by have := (List.getElem?_eq_some_iff.mp hx).1; rwa [List.length_map] at this
      obtain ⟨c, rfl⟩ : ∃ c : Int, x = .int c := by
        obtain ⟨c, _, e⟩ := List.mem_map.mp (List.mem_of_getElem? hx)
        exact ⟨c, e.symm⟩
      have j0 := Int.emod_nonneg c (show (18 : Int) ≠ 0 by decide)
      have j1 := Int.emod_lt_of_pos c (show (0 : Int) < 18 by decide)
      obtain ⟨jn, ejn⟩ : ∃ jn : Nat, c % 18 = (jn : Int) := ⟨(c % 18).toNat, by omega⟩
      obtain ⟨y, ey⟩ : ∃ y, LA[jn]? = some y := ⟨_, List.getElem?_eq_getElem (by rw [la_len]; omega)⟩
      refine ⟨_, rfl, .inl ⟨rfl, _, SqL.of zl⟩, _, rfl, _, rfl, c, 18, rfl, rfl, (by show (0 : Int) < 18; decide), l2, _, _, .str y, rfl, rfl, SqL.of za, (by rw [ejn]; exact atI_nat (by rw [List.getElem?_map, ey]; rfl)), lg, _, _, rfl, rfl, zl, Nat.lt_of_le_of_lt (show (ls.map V.str).length ≤ 100 by rw [List.length_map]; omega) (by decide), ?_⟩
      refine ⟨_, ls ++ [y], rfl, fun c u q => by rw [upd_ne (ne_of_none q hlg0)]; exact sx c u q, by rw [upd_ne nsl]; exact zs, by rw [upd_ne n2l]; exact za, by rw [upd_same, List.map_append]; rfl, by rw [List.length_append, hl]; rfl, fun z hz => ?_⟩
      rcases List.mem_append.mp hz with q | q
      · exact hm z q
      · rw [List.mem_singleton.mp q]
        exact List.mem_cons_of_mem _ (List.mem_of_getElem? ey)
    · rintro σ Hx ⟨v3, ls, rfl, sx, zs, za, zl, hl, hm⟩
      rw [List.length_map] at hl
      exact ⟨_, rfl, k lg ls Hx sx zl (fun z => by rw [z] at hl; cases hl) (by omega) hm⟩
end
end K75
end
section
set_option Elab.async false
set_option linter.all false
set_option maxRecDepth 100000
set_option maxHeartbeats 4000000
set_option exponentiation.threshold 4000
namespace K75
open PySem L2 LX PySem.NumText PySem.Builtin.Int
/-! ### spoilt lines: none of them is a row -/
abbrev tx (s : String) : Str := Str.ofString s
def O1 : List Str := ["", "00", "01", "-0", "+1", "1_0", "1.0", "x", "1x", "--1", "-", "True", "None", "(1,)", "1,", "0x1", "~"]
def O2 (m : Int) : List Str := ["1e3", "-01", "young0", Txt.mul (("9" : String) : Str) (62 + m), (("-" : String) : Str) ++ Txt.mul (("9" : String) : Str) 62]
def OD (m : Int) : List Str := O1 ++ O2 m
/-- the texts that stand for a part, whatever m is -/
def O3 : List Str := ["1e3", "-01", "young0", (("-" : String) : Str) ++ Txt.mul (("9" : String) : Str) 62]
def O4 : List Str := (List.range 9).map fun (m : Nat) => Txt.mul (("9" : String) : Str) (62 + (m : Int))
def OA : List Str := O1 ++ (O3 ++ O4)
theorem od_len (m : Int) : (OD m).length = 22 := rfl
theorem od_oa {m : Nat} (h : m < 9) {z : Str} (hz : z ∈ OD (m : Int)) : z ∈ OA := by
  rcases List.mem_append.mp hz with q | q
  · exact List.mem_append_left _ q
  · refine List.mem_append_right _ ?_
    simp only [O2, List.mem_cons, List.not_mem_nil, or_false] at q
    rcases q with q | q | q | q | q
    · exact List.mem_append_left _ (by rw [q]; exact List.mem_cons_self)
    · exact List.mem_append_left _ (by rw [q]; exact List.mem_cons_of_mem _ List.mem_cons_self)
    · exact List.mem_append_left _ (by rw [q]; exact List.mem_cons_of_mem _ (List.mem_cons_of_mem _ List.mem_cons_self))
    · exact List.mem_append_right _ (List.mem_map.mpr ⟨m, List.mem_range.mpr h, q.symm⟩)
    · exact List.mem_append_left _ (by rw [q]; exact List.mem_cons_of_mem _ (List.mem_cons_of_mem _ (List.mem_cons_of_mem _ List.mem_cons_self)))
def WS (z : Str) : List Str := Txt.split z BLK
/-- a word: no blank, no line's end, not long -/
def wdB (y : Str) : Bool := !decide (32 ∈ y.cps.toList) && !decide (10 ∈ y.cps.toList) && decide (y.length ≤ 100)
def wsB (ws : List Str) : Bool := decide (ws.length ≤ 6) && ws.all wdB
def noW : List Str → Bool
  | wd :: zs => TB.any (fun p => decide (p.1 = wd) && !decide (Wrs zs p.2)) || !decide (wd ∈ TB.map (·.1))
  | [] => false
theorem wd_of {y : Str} (h : wdB y = true) : 32 ∉ y.cps.toList ∧ 10 ∉ y.cps.toList ∧ y.length ≤ 100 := by
  unfold wdB at h
  simp only [Bool.and_eq_true, Bool.not_eq_true', decide_eq_true_eq, decide_eq_false_iff_not] at h
  exact ⟨h.1.1, h.1.2, h.2⟩
theorem ws_of {ws : List Str} (h : wsB ws = true) : ws.length ≤ 6 ∧ ∀ y ∈ ws, wdB y = true := by
  unfold wsB at h
  rw [Bool.and_eq_true] at h
  exact ⟨of_decide_eq_true h.1, List.all_eq_true.mp h.2⟩
theorem ws_sum {ws : List Str} (h : wsB ws = true) : (ws.map (·.length)).sum + ws.length * BLK.length ≤ 700 := by
  obtain ⟨h1, h2⟩ := ws_of h
  have := sum_le (b := 100) (xs := ws) fun x hx => (wd_of (h2 x hx)).2.2
  rw [show BLK.length = 1 from rfl]
  omega
/-- joined words that are no row -/
theorem noRow_join {wd : Str} {zs : List Str} (h1 : zs.length ≤ 5) (h32 : ∀ y ∈ wd :: zs, 32 ∉ y.cps.toList) (h10 : ∀ y ∈ wd :: zs, 10 ∉ y.cps.toList) (hl : ∀ y ∈ wd :: zs, y.length ≤ 300) (hn : (∃ ks, (wd, ks) ∈ TB ∧ ¬ Wrs zs ks) ∨ wd ∉ TB.map (·.1)) : NoRow (Txt.join BLK (wd :: zs)) := by
  have hj := join_len BLK (wd :: zs)
  have hs := sum_le (b := 300) (xs := wd :: zs) hl
  rw [show BLK.length = 1 from rfl] at hj
  rw [List.length_cons] at hj hs
  exact ⟨wd, zs, ⟨split_join (by simp) h32, by omega, fun y hy => Nat.le_trans (hl y (List.mem_cons_of_mem _ hy)) (by decide), by omega, join_free (by decide) h10⟩, hn⟩
theorem noW_of {ws : List Str} (h : wsB ws = true) (hn : noW ws = true) : NoRow (Txt.join BLK ws) := by
  cases ws with
  | nil => cases hn
  | cons wd zs =>
    obtain ⟨h1, h2⟩ := ws_of h
    rw [List.length_cons] at h1
    refine noRow_join (by omega) (fun y hy => (wd_of (h2 y hy)).1) (fun y hy => (wd_of (h2 y hy)).2.1) (fun y hy => Nat.le_trans (wd_of (h2 y hy)).2.2 (by decide)) ?_
    unfold noW at hn
    simp only [Bool.or_eq_true, Bool.and_eq_true, decide_eq_true_eq, Bool.not_eq_true', decide_eq_false_iff_not, List.any_eq_true] at hn
    rcases hn with ⟨p, q1, q2, q3⟩ | q
    · exact .inl ⟨p.2, by rw [← q2]; exact q1, q3⟩
    · exact .inr q
def hB (ws : List Str) : Bool := wsB ws && noW ws
theorem hB_of {ws : List Str} (h : hB ws = true) : wsB ws = true ∧ NoRow (Txt.join BLK ws) := by
  unfold hB at h
  rw [Bool.and_eq_true] at h
  exact ⟨h.1, noW_of h.1 h.2⟩
def aB (x y : Str) : Bool := decide (x.length + y.length ≤ 16777216) && noRowB (x ++ y)
theorem aB_of {x y : Str} (h : aB x y = true) : x.length + y.length ≤ 16777216 ∧ NoRow (x ++ y) := by
  unfold aB at h
  rw [Bool.and_eq_true] at h
  exact ⟨of_decide_eq_true h.1, noRow_of h.2⟩
def f0 (ws : List Str) : Bool := hB ([tx "shades"] ++ ws.drop 1) && (decide (ws.length ≤ 1) || hB (ws.take (ws.length - 1)))
def f3 (z : Str) (n : Nat) : Bool := aB (Txt.replace z (tx " ") (tx "  ")) (if n = 1 then tx " " else tx "") && aB (tx " ") z && aB z (tx " ") && aB z (tx " 3")
def f5 (ws : List Str) : Bool := wsB (ws.take 1 ++ [tx "young"] ++ ws.drop 2) && aB (Txt.join BLK (ws.take 1 ++ [tx "young"] ++ ws.drop 2)) (if ws.length < 2 then tx " 1" else tx "")
def f6 (z : Str) : Bool := !(Builtin.Str.tooLong (Txt.upper z).length) && noRowB (Txt.upper z)
theorem lkg : ∀ z ∈ LK, (fun ws => decide (1 ≤ ws.length) && decide (ws.length ≤ 5) && decide (z.length ≤ 100) && wsB ws && decide (Txt.join BLK ws = z) && f0 ws && f3 z ws.length && f5 ws) (WS z) = true := by decide +kernel
theorem lk6 : ∀ z ∈ LK, f6 z = true := by decide +kernel
theorem oa_ok : ∀ o ∈ OA, wdB o = true ∧ wr .num o = false ∧ wr .age o = false := by decide +kernel
theorem tb_ok : ∀ p ∈ TB, (∀ k ∈ p.2, k = Kd.num ∨ k = Kd.age) ∧ 120 ∉ p.1.cps.toList := by decide +kernel
end K75
end
section
set_option Elab.async false
set_option linter.all false
set_option maxRecDepth 100000
set_option maxHeartbeats 2000000
set_option exponentiation.threshold 4000
namespace K75
open PySem L2 LX PySem.NumText PySem.Builtin.Int
theorem app_cps (a b : Str) : (a ++ b).cps.toList = a.cps.toList ++ b.cps.toList := Array.toList_append
theorem app_len (a b : Str) : (a ++ b).length = a.length + b.length := Array.size_append
theorem app_join (a sep x : Str) : ∀ xs : List Str, a ++ Txt.join sep (x :: xs) = Txt.join sep ((a ++ x) :: xs)
  | [] => rfl
  | y :: r => str_ext (by rw [app_cps, join_cps, join_cps, app_cps, List.append_assoc])
structure Dt (z wd : Str) (zs : List Str) (ks : List Kd) : Prop where
  ws : WS z = wd :: zs
  len : zs.length ≤ 4
  zl : z.length ≤ 100
  wsb : wsB (wd :: zs) = true
  joi : Txt.join BLK (wd :: zs) = z
  mem : (wd, ks) ∈ TB
  kl : zs.length = ks.length
  g0 : f0 (wd :: zs) = true
  g3 : f3 z (wd :: zs).length = true
  g5 : f5 (wd :: zs) = true
theorem lk_dt {z : Str} (hz : z ∈ LK) : ∃ wd zs ks, Dt z wd zs ks := by
  have h := lkg z hz
  obtain ⟨wd, zs, ks, ⟨h1, _⟩, hm, hw, _⟩ := right_of (lk_right z hz)
  have e : WS z = wd :: zs := h1
  rw [e] at h
  simp only [Bool.and_eq_true, decide_eq_true_eq] at h
  obtain ⟨⟨⟨⟨⟨⟨⟨a1, a2⟩, a3⟩, a4⟩, a5⟩, a6⟩, a7⟩, a8⟩ := h
  exact ⟨wd, zs, ks, e, by rw [List.length_cons] at a2; omega, a3, a4, a5, hm, hw.1, a6, a7, a8⟩
section
variable {z wd : Str} {zs : List Str} {ks : List Kd}
theorem Dt.word (d : Dt z wd zs ks) : ∀ y ∈ wd :: zs, 32 ∉ y.cps.toList ∧ 10 ∉ y.cps.toList ∧ y.length ≤ 100 := fun y hy => wd_of ((ws_of d.wsb).2 y hy)
theorem noRow7 (d : Dt z wd zs ks) {o : Str} (ho : o ∈ OA) : NoRow (o ++ tx "x" ++ z) := by
  have hx : (tx "x").cps.toList = [120] := by decide +kernel
  obtain ⟨o1, o2, o3⟩ := wd_of (oa_ok o ho).1
  have ew : (o ++ tx "x" ++ wd).cps.toList = o.cps.toList ++ [120] ++ wd.cps.toList := by rw [app_cps, app_cps, hx]
  have fr : ∀ c : Nat, c ≠ 120 → c ∉ o.cps.toList → c ∉ wd.cps.toList → c ∉ (o ++ tx "x" ++ wd).cps.toList := fun c h1 h2 h3 hm => by
    rw [ew] at hm
    simp only [List.mem_append, List.mem_singleton] at hm
    rcases hm with (q | q) | q
    · exact h2 q
    · exact h1 q
    · exact h3 q
  obtain ⟨w1, w2, w3⟩ := d.word wd List.mem_cons_self
  rw [← d.joi, app_join]
  refine noRow_join (by have := d.len; omega) (fun y hy => ?_) (fun y hy => ?_) (fun y hy => ?_) (.inr fun hm => ?_)
  · rcases List.mem_cons.mp hy with q | q
    · rw [q]; exact fr 32 (by decide) o1 w1
    · exact (d.word y (List.mem_cons_of_mem _ q)).1
  · rcases List.mem_cons.mp hy with q | q
    · rw [q]; exact fr 10 (by decide) o2 w2
    · exact (d.word y (List.mem_cons_of_mem _ q)).2.1
  · rcases List.mem_cons.mp hy with q | q
    · rw [q, app_len, app_len, show (tx "x").length = 1 from by decide +kernel]; omega
    · exact Nat.le_trans (d.word y (List.mem_cons_of_mem _ q)).2.2 (by decide)
  · obtain ⟨p, hp, e⟩ := List.mem_map.mp hm
    refine (tb_ok p hp).2 ?_
    rw [e, ew]
    simp
theorem put_at (wd o : Str) (zs : List Str) {i : Nat} (h : 1 ≤ i) : (wd :: zs).take i ++ [o] ++ (wd :: zs).drop (i + 1) = wd :: (zs.take (i - 1) ++ [o] ++ zs.drop i) := by
  obtain ⟨j, rfl⟩ : ∃ j, i = j + 1 := ⟨i - 1, by omega⟩
  rfl
theorem noRow8 (d : Dt z wd zs ks) {o : Str} (ho : o ∈ OA) {i : Nat} (h1 : 1 ≤ i) (h2 : i < (wd :: zs).length) : NoRow (Txt.join BLK ((wd :: zs).take i ++ [o] ++ (wd :: zs).drop (i + 1))) ∧
    ((((wd :: zs).take i ++ [o] ++ (wd :: zs).drop (i + 1)).map (·.length)).sum + ((wd :: zs).take i ++ [o] ++ (wd :: zs).drop (i + 1)).length * BLK.length ≤ 16777216) := by
  obtain ⟨o0, on, oa⟩ := oa_ok o ho
  obtain ⟨o1, o2, o3⟩ := wd_of o0
  have hm : ∀ y ∈ (wd :: zs).take i ++ [o] ++ (wd :: zs).drop (i + 1), 32 ∉ y.cps.toList ∧ 10 ∉ y.cps.toList ∧ y.length ≤ 100 := fun y hy => by
    simp only [List.mem_append, List.mem_singleton] at hy
    rcases hy with (q | q) | q
    · exact d.word y (List.mem_of_mem_take q)
    · rw [q]; exact ⟨o1, o2, o3⟩
    · exact d.word y (List.mem_of_mem_drop q)
  have hl : ((wd :: zs).take i ++ [o] ++ (wd :: zs).drop (i + 1)).length ≤ 12 := by
    rw [List.length_append, List.length_append, List.length_take, List.length_drop, List.length_singleton, List.length_cons]
    have := d.len
    omega
  refine ⟨?_, ?_⟩
  · rw [put_at wd o zs h1] at hm ⊢
    rw [List.length_cons] at h2
    refine noRow_join ?_ (fun y hy => (hm y hy).1) (fun y hy => (hm y hy).2.1) (fun y hy => Nat.le_trans (hm y hy).2.2 (by decide)) (.inl ⟨ks, d.mem, fun hw => ?_⟩)
    · rw [List.length_append, List.length_append, List.length_take, List.length_drop, List.length_singleton]
      have := d.len
      omega
    · have hi : i - 1 < ks.length := by rw [← d.kl]; omega
      have hk := (tb_ok _ d.mem).1 ks[i - 1] (List.getElem_mem hi)
      have ho : (zs.take (i - 1) ++ [o] ++ zs.drop i)[i - 1]? = some o := by
        rw [List.append_assoc, List.getElem?_append_right (by rw [List.length_take]; omega), List.length_take, Nat.min_eq_left (by omega), Nat.sub_self]
        rfl
      have := hw.2 (o, ks[i - 1]) (List.mem_of_getElem? (i := i - 1) (by rw [List.getElem?_zip_eq_some]; exact ⟨ho, List.getElem?_eq_getElem hi⟩))
      rcases hk with q | q
      · rw [q, on] at this; cases this
      · rw [q, oa] at this; cases this
  · have := sum_le (b := 100) (xs := (wd :: zs).take i ++ [o] ++ (wd :: zs).drop (i + 1)) fun x hx => (hm x hx).2.2
    rw [show BLK.length = 1 from rfl]
    omega
end
end K75
end
section
set_option Elab.async false
set_option linter.all false
set_option maxRecDepth 100000
set_option maxHeartbeats 4000000
set_option exponentiation.threshold 4000
namespace K75
open PySem L2 LX PySem.NumText PySem.Builtin.Int
section
variable {P : Program} {w : World} {K : PySem.W.Frag} {mg : Str → Option Value} {base : Heap}
/-- a display of written texts -/
def lits : List Expr → Option (List Str)
  | [] => some []
  | .Constant (.str x) _ _ :: es => match lits es with
    | some zs => some (x :: zs)
    | none => none
  | _ :: _ => none
def taS (zs : List Str) : TA := fun _ H Q => Q (zs.map V.str) H
theorem pa_lits {X : Cx} : ∀ {es : List Expr} {zs : List Str}, lits es = some zs → PA X es (taS zs)
  | [], zs, h => by
    cases h
    exact pa_nil
  | .Constant (.str x) j p :: es, zs, h => by
    unfold lits at h
    split at h
    · rename_i ys e
      cases h
      have r : PA X (Expr.Constant (Const.str x) j p :: es) _ := pa_cons pe_str (pa_lits (X := X) e)
      exact fun pos pins s σ H Q I h => r pos pins s σ H Q I h
    · cases h
theorem cutS_from (W : List Str) (n : Nat) : cutV (W.map V.str) (some (n : Int)) none = (W.drop n).map V.str := by
  unfold cutV
  rw [HT.sIx_none, HT.sIx_nat, List.length_map, List.map_drop]
  by_cases h : n ≤ W.length
  · rw [Nat.min_eq_left h, List.take_of_length_le (by rw [List.length_drop, List.length_map]; exact Nat.le_refl _)]
  · rw [Nat.min_eq_right (by omega), Nat.sub_self, List.take_zero, List.drop_eq_nil_of_le (by rw [List.length_map]; omega)]
theorem cutS_to (W : List Str) (n : Nat) : cutV (W.map V.str) none (some (n : Int)) = (W.take n).map V.str := by
  unfold cutV
  rw [HT.sIx_none, HT.sIx_nat, List.length_map, List.drop_zero, Nat.sub_zero, List.map_take]
  by_cases h : n ≤ W.length
  · rw [Nat.min_eq_left h]
  · rw [Nat.min_eq_right (by omega), List.take_of_length_le (by rw [List.length_map]; exact Nat.le_refl _), List.take_of_length_le (by rw [List.length_map]; omega)]
theorem cutS_neg (W : List Str) (h : 1 ≤ W.length) : cutV (W.map V.str) none (some (-1 : Int)) = (W.take (W.length - 1)).map V.str := by
  unfold cutV
  rw [HT.sIx_none, List.length_map, List.drop_zero, Nat.sub_zero, List.map_take]
  have e : HT.sIx W.length W.length (some (-1)) = W.length - 1 := by
    show (if (-1 : Int) < 0 then ((-1 : Int) + (W.length : Int)).toNat else min (-1 : Int).toNat W.length) = _
    rw [if_pos (by decide)]
    omega
  rw [e]
theorem mul_ok2 {m : Nat} (h : m < 9) : MulOk (("9" : String) : Str) (62 + (m : Int)) := by
  have : ∀ m : Nat, m < 9 → MulOk (("9" : String) : Str) (62 + (m : Int)) := by
    unfold MulOk
    decide +kernel
  exact this m h
theorem mul_ok62 : MulOk (("9" : String) : Str) 62 := ⟨by decide, fun _ _ => by decide +kernel, fun _ _ => by decide +kernel⟩
/-- _law_spoilt -/
def spSpoilt : Sp := fun vs H Q _ => ∃ (z : Str) (c : Int), vs = [.str z, .int c] ∧ z ∈ LK ∧ ∀ (y : Str) (H' : Hp), Same H H' → NoRow y → Q (.str y) H'
abbrev NSp : List Str := ["line", "cell", "words", "rest", "odd", "at"]
abbrev ODN : Str := "odd"
theorem scSp : FnScope NSp ["line", "cell"] (defScope sSpoilt) := ⟨rfl, rfl, rfl, by decide +kernel, rfl, by decide +kernel, by decide +kernel⟩
def mO : Stmt → Option (List Str)
  | .Assign [.Name x _] (.List es _) _ => if x = ODN then lits es else none
  | _ => none
theorem psO {X : Cx} (nd : X.N.Nodup) (at4 : X.N[4]? = some ODN) (lc : Loc X.env.scope ODN) (fn : X.fn ODN = true ∨ X.env.scope.names.lookup ODN = some .local) {s : Stmt} {zs : List Str} (h : mO s = some zs) : PS X s (tAsg (tLst (taS zs)) (gName 4)) := by
  unfold mO at h
  split at h
  · split at h
    · rename_i hx
      subst hx
      exact ps_set nd at4 lc (pe_lst (pa_lits h)) (by rfl) fn
    · cases h
  · cases h
def stO : Stmt := ((defBody sSpoilt).drop 2).head!
def hdO : List Stmt := (defBody sSpoilt).take 2
def tlO : List Stmt := (defBody sSpoilt).drop 3
theorem bodyO : defBody sSpoilt = hdO ++ (stO :: tlO) := by kernel_rfl
theorem eO : mO stO = some O1 := by kernel_rfl
theorem oddParts0 : ∃ s3 : Stmt, defBody sSpoilt = hdO ++ (s3 :: tlO) ∧ mO s3 = some O1 := ⟨stO, bodyO, eO⟩
theorem oddParts : ∃ (s3 : Stmt) (t3 : TA), defBody sSpoilt = hdO ++ (s3 :: tlO) ∧ (∀ {X : Cx}, X.N.Nodup → X.N[4]? = some ODN → Loc X.env.scope ODN → (X.fn ODN = true ∨ X.env.scope.names.lookup ODN = some .local) → PS X s3 (tAsg (tLst t3) (gName 4))) ∧ ∀ {σ : St} {H : Hp} {Q : List V → Hp → Prop}, Q (O1.map V.str) H → t3 σ H Q :=
 by
  obtain ⟨s3, h1, h2⟩ := oddParts0
  exact ⟨s3, taS O1, h1, fun a b c d => psO a b c d h2, fun q => q⟩
theorem suff {A B : Prop} (f : A → B) (a : A) : B := f a
theorem map_cat3 (a b c : List Str) : (a ++ b ++ c).map V.str = a.map V.str ++ b.map V.str ++ c.map V.str := by rw [List.map_append, List.map_append]
theorem ok_spoilt {f : Addr} {fd : FuncData} (F : Fun K "_law_spoilt" "_law_spoilt" sSpoilt f fd) (zn : mg "len" = none) (zi : mg "int" = none) : FnOk P w K mg base (CXE P w) 1 f fd ["line", "cell"] spSpoilt := by
  refine F.okE scSp (fun vs H Q E h => ?_) (fun cdv A outer s H vs Q E hr h => ?_)
  · obtain ⟨z, c, rfl, _⟩ := h
    rfl
  · obtain ⟨z, c, rfl, hz, k⟩ := h
    obtain ⟨s3, t3, be, q3, rd3⟩ := oddParts
    rw [be]
    refine ⟨_, PSs.nox (pss_cons (ps_set (i := 2) scSp.nd rfl (Or.inl rfl) (pe_bm PySem.F.plainAttrs_str PySem.F.slot_str_split PySem.F.type_str_split mt_split (pv 0) (pa_cons pe_str pa_nil)))
      (pss_cons (ps_set (i := 3) scSp.nd rfl (Or.inl rfl) (pe_op op_fdiv (pv 1) pe_int))
      (pss_cons (q3 scSp.nd rfl (Or.inl rfl) (.inl rfl))
      (pss_cons (ps_set (i := 4) scSp.nd rfl (Or.inl rfl) (pe_op op_cat (pv 4) (pe_lst (pa_cons pe_str (pa_cons pe_str (pa_cons pe_str (pa_cons (pe_op op_mulT pe_str (pe_op op_add pe_int (pe_op op_mod (pv 3) pe_int))) (pa_cons (pe_op op_add_str pe_str (pe_op op_mulT pe_str pe_int)) pa_nil))))))))
      (pss_cons (ps_set (i := 5) scSp.nd rfl (Or.inl rfl) (pe_op op_mod (pv 3) (pe_callB call_len_seq rfl zn PyProof.Rows.Boot.«len» (pa_cons (pv 2) pa_nil))))
      (pss_cons (ps_if (pt_cmpR op_eq (pe_op op_mod (pv 1) pe_int) pe_int (nomark _)) (pss_one (ps_ret (pe_bm PySem.F.plainAttrs_str PySem.F.slot_str_join PySem.F.type_str_join mt_join pe_str (pa_cons (pe_op op_cat (pe_lst (pa_cons pe_str pa_nil)) (pe_slice sl_list (pv 2) (po_some pe_int) po_none)) pa_nil)))) pss_nil)
      (pss_cons (ps_if (pt_cmpR op_eq (pe_op op_mod (pv 1) pe_int) pe_int (nomark _)) (pss_one (ps_ret (pe_op op_add_str (pv 0) pe_str))) pss_nil)
      (pss_cons (ps_if (PW.pt (pw_and (pt_cmpR op_eq (pe_op op_mod (pv 1) pe_int) pe_int (nomark _)) (pw_and1 (pt_cmpR op_gt (pe_callB call_len_seq rfl zn PyProof.Rows.Boot.«len» (pa_cons (pv 2) pa_nil)) pe_int (nomark _))))) (pss_one (ps_ret (pe_bm PySem.F.plainAttrs_str PySem.F.slot_str_join PySem.F.type_str_join mt_join pe_str (pa_cons (pe_slice sl_list (pv 2) po_none (po_some (pe_un un_neg pe_int))) pa_nil)))) pss_nil)
      (pss_cons (ps_ifK (pe_op op_mod (pv 1) pe_int) (psk_ret (pk_op op_add_str (pk_repl 0 (by decide +kernel)) (pe_ix ix_list (pe_lst (pa_cons pe_str (pa_cons pe_str pa_nil))) (pe_callTy call_intB rfl zi PyProof.Rows.Boot.«int» (pa_cons (pe_cmpR op_eq (pe_callB call_len_seq rfl zn PyProof.Rows.Boot.«len» (pa_cons (pv 2) pa_nil)) pe_int (nomark _)) pa_nil)) (fun _ _ => rfl)))) pss_nil)
      (pss_cons (ps_if (pt_cmpR op_eq (pe_op op_mod (pv 1) pe_int) pe_int (nomark _)) (pss_one (ps_ret (pe_ix ix_list (pe_lst (pa_cons (pe_op op_add_str pe_str (pv 0)) (pa_cons (pe_op op_add_str (pv 0) pe_str) pa_nil))) (pe_op op_mod (pv 3) pe_int) (fun _ _ => rfl)))) pss_nil)
      (pss_cons (ps_if (pt_cmpR op_eq (pe_op op_mod (pv 1) pe_int) pe_int (nomark _)) (pss_one (ps_ret (pe_op op_add_str (pe_bm PySem.F.plainAttrs_str PySem.F.slot_str_join PySem.F.type_str_join mt_join pe_str (pa_cons (pe_op op_cat (pe_op op_cat (pe_slice sl_list (pv 2) po_none (po_some pe_int)) (pe_lst (pa_cons pe_str pa_nil))) (pe_slice sl_list (pv 2) (po_some pe_int) po_none)) pa_nil)) (pe_ix ix_list (pe_lst (pa_cons pe_str (pa_cons pe_str pa_nil))) (pe_callTy call_intB rfl zi PyProof.Rows.Boot.«int» (pa_cons (pe_cmpR op_lt (pe_callB call_len_seq rfl zn PyProof.Rows.Boot.«len» (pa_cons (pv 2) pa_nil)) pe_int (nomark _)) pa_nil)) (fun _ _ => rfl))))) pss_nil)
      (pss_cons (ps_if (pt_cmpR op_eq (pe_op op_mod (pv 1) pe_int) pe_int (nomark _)) (pss_one (ps_ret (pe_bm0 PySem.F.plainAttrs_str PySem.F.slot_str_upper PySem.F.type_str_upper mt_upper (pv 0)))) pss_nil)
      (pss_cons (ps_if (pt_cmpR op_eq (pv 5) pe_int (nomark _)) (pss_one (ps_ret (pe_op op_add_str (pe_op op_add_str (pe_ix ix_list (pv 4) (pe_op op_mod (pe_op op_fdiv (pv 3) pe_int) (pe_callB call_len_seq rfl zn PyProof.Rows.Boot.«len» (pa_cons (pv 4) pa_nil))) (fun _ _ => rfl)) pe_str) (pv 0)))) pss_nil)
      (pss_one (ps_ret (pe_bm PySem.F.plainAttrs_str PySem.F.slot_str_join PySem.F.type_str_join mt_join pe_str (pa_cons (pe_op op_cat (pe_op op_cat (pe_slice sl_list (pv 2) po_none (po_some (pv 5))) (pe_lst (pa_cons (pe_ix ix_list (pv 4) (pe_op op_mod (pe_op op_fdiv (pv 3) pe_int) (pe_callB call_len_seq rfl zn PyProof.Rows.Boot.«len» (pa_cons (pv 4) pa_nil))) (fun _ _ => rfl)) pa_nil))) (pe_slice sl_list (pv 2) (po_some (pe_op op_add (pv 5) pe_int)) po_none)) pa_nil))))))))))))))))), ?_⟩
    obtain ⟨wd, zs, ks, d⟩ := lk_dt hz
    have ew : Txt.split z (Str.ofString " ") = wd :: zs := by rw [blk_is]; exact d.ws
    have hzl := d.zl
    have hl4 := d.len
    refine ⟨_, rfl, rfl, z, Str.ofString " ", rfl, rfl, by decide +kernel, Nat.le_trans (show z.length + 2 ≤ 102 by omega) (by decide), fun wl hwl => ?_⟩
    rw [ew]
    have s1 := Same.upd (o := .lst ((wd :: zs).map V.str)) hwl
    have zw : upd H wl (.lst ((wd :: zs).map V.str)) wl = some (.lst ((wd :: zs).map V.str)) := upd_same
    obtain ⟨H1, e1⟩ : ∃ H1, upd H wl (.lst ((wd :: zs).map V.str)) = H1 := ⟨_, rfl⟩
    show gName 2 (V.ref wl) _ (upd H wl (.lst ((wd :: zs).map V.str))) _
    rw [e1] at s1 zw ⊢
    clear e1
    have j0 := Int.emod_nonneg (c / 9) (show (9 : Int) ≠ 0 by decide)
    have j1 := Int.emod_lt_of_pos (c / 9) (show (0 : Int) < 9 by decide)
    obtain ⟨m, em⟩ : ∃ m : Nat, c / 9 % 9 = (m : Int) := ⟨(c / 9 % 9).toNat, by omega⟩
    have hm9 : m < 9 := by omega
    refine ⟨_, rfl, c, 9, rfl, rfl, ⟨by decide, by decide⟩, rd3 ⟨by show 17 ≤ sizeLine; decide, fun o1 ho1 => ?_⟩⟩
    have w2 := Same.upd (o := .lst (O1.map V.str)) ho1
    refine cat_read (xs := O1.map V.str) (zs := (O2 (m : Int)).map V.str) rfl upd_same (fun q => ⟨_, rfl, c / 9, 9, rfl, rfl, (by show (0 : Int) < 9; decide), 62, c / 9 % 9, rfl, rfl, _, _, rfl, rfl, (by rw [em]; exact mul_ok2 hm9), _, _, rfl, rfl, mul_ok62, _, _, rfl, rfl, by decide +kernel, by rw [em]; exact q⟩) (by show 17 + 5 ≤ 100; decide) fun ol H4 s4 z4 => ?_
    rw [← List.map_append] at z4
    have z4 : H4 ol = some (.lst ((OD (m : Int)).map V.str)) := z4
    have s04 : Same H H4 := (s1.trans w2).trans s4
    have zw4 := s4 _ _ (w2 _ _ zw)
    clear s1 w2 s4 zw
    have lw : ((wd :: zs).map V.str).length = zs.length + 1 := by rw [List.length_map, List.length_cons]
    have hpos : (0 : Int) < (((wd :: zs).map V.str).length : Int) := by rw [lw]; omega
    refine ⟨_, rfl, _, rfl, wl, _, rfl, .inl (SqL.of zw4), c / 9, _, rfl, rfl, hpos, ?_⟩
    have q0 := Int.emod_nonneg (c / 9) (show (((wd :: zs).map V.str).length : Int) ≠ 0 by omega)
    have q1 := Int.emod_lt_of_pos (c / 9) hpos
    obtain ⟨an, ean⟩ : ∃ an : Nat, c / 9 % (((wd :: zs).map V.str).length : Int) = (an : Int) := ⟨(c / 9 % (((wd :: zs).map V.str).length : Int)).toNat, by omega⟩
    have han : an < (wd :: zs).length := by rw [lw] at ean q1; rw [List.length_cons]; omega
    show gName 5 (V.int (c / 9 % (((wd :: zs).map V.str).length : Int))) _ _ _
    rw [ean]
    clear ean q0 q1
    have fin : ∀ {Hx : Hp} {p : Addr} {ss : List Str}, Same H4 Hx → Hx p = some (.lst (ss.map V.str)) → (ss.map (·.length)).sum + ss.length * BLK.length ≤ 16777216 → NoRow (Txt.join BLK ss) → rJoin K (.str (Str.ofString " ")) [.ref p] Hx Q := fun {Hx p ss} sx hp hs hn => ⟨_, p, ss, rfl, rfl, SqL.of hp, by rw [blk_is]; exact hs, k _ _ (s04.trans sx) (by rw [blk_is]; exact hn)⟩
    have g0 := d.g0
    unfold f0 at g0
    simp only [Bool.and_eq_true, Bool.or_eq_true, decide_eq_true_eq] at g0
    obtain ⟨g01, g02⟩ := g0
    have g3 := d.g3
    unfold f3 at g3
    simp only [Bool.and_eq_true] at g3
    obtain ⟨⟨⟨g31, g32⟩, g33⟩, g34⟩ := g3
    have g5 := d.g5
    unfold f5 at g5
    simp only [Bool.and_eq_true] at g5
    obtain ⟨g51, g52⟩ := g5
    have b700 : ∀ {ws : List Str}, wsB ws = true → (ws.map (·.length)).sum + ws.length * BLK.length ≤ 16777216 := fun h => Nat.le_trans (ws_sum h) (by decide)
    have SL : (16777216 : Nat) ≤ sizeLine := by decide
    have lo : ((OD (m : Int)).map V.str).length = 22 := by rw [List.length_map, od_len]
    obtain ⟨o, hoat, ho⟩ : ∃ o, atI ((OD (m : Int)).map V.str) (c / 9 / 7 % (((OD (m : Int)).map V.str).length : Int)) = some (.str o) ∧ o ∈ OA := by
      rw [lo]
      have y0 := Int.emod_nonneg (c / 9 / 7) (show ((22 : Nat) : Int) ≠ 0 by decide)
      have y1 := Int.emod_lt_of_pos (c / 9 / 7) (show (0 : Int) < ((22 : Nat) : Int) by decide)
      obtain ⟨jn, ejn⟩ : ∃ jn : Nat, c / 9 / 7 % ((22 : Nat) : Int) = (jn : Int) := ⟨(c / 9 / 7 % ((22 : Nat) : Int)).toNat, by omega⟩
      obtain ⟨y, ey⟩ : ∃ y, (OD (m : Int))[jn]? = some y := ⟨_, List.getElem?_eq_getElem (by rw [od_len]; omega)⟩
      exact ⟨y, by rw [ejn]; exact atI_nat (by rw [List.getElem?_map, ey]; rfl), od_oa hm9 (List.mem_of_getElem? ey)⟩
    obtain ⟨oo0, _, _⟩ := oa_ok o ho
    have ol100 := (wd_of oo0).2.2
    have hpo : (0 : Int) < (((OD (m : Int)).map V.str).length : Int) := by rw [lo]; decide
    -- 0: another word
    refine ⟨_, rfl, c, 9, rfl, rfl, (by show (0 : Int) < 9; decide), rfl, _, rfl, ite2 (fun h => ?_) (fun _ => ?_)⟩
    · refine ⟨rfl, by show 1 ≤ sizeLine; decide, fun p1 hp1 => ⟨_, rfl, _, rfl, wl, _, rfl, SqL.of (Same.upd hp1 _ _ zw4), fun p2 hp2 => ?_⟩⟩
      rw [show cutV ((wd :: zs).map V.str) (some 1) none = _ from cutS_from (wd :: zs) 1]
      refine ⟨p1, p2, [V.str (tx "shades")], _, rfl, rfl, Same.upd hp2 _ _ upd_same, upd_same, Nat.le_trans (show 1 + (((wd :: zs).drop 1).map V.str).length ≤ 100 by rw [List.length_map, List.length_drop, List.length_cons]; omega) (by decide), fun p3 hp3 => ?_⟩
      exact fin (ss := [tx "shades"] ++ (wd :: zs).drop 1) (((Same.upd hp1).trans (Same.upd hp2)).trans (Same.upd hp3)) (by rw [upd_same, List.map_append]; rfl) (b700 (hB_of g01).1) (hB_of g01).2
    -- 1: a part more
    refine ⟨_, rfl, c, 9, rfl, rfl, (by show (0 : Int) < 9; decide), rfl, _, rfl, ite2 (fun h => ?_) (fun _ => ?_)⟩
    · exact ⟨_, rfl, z, tx " 3", rfl, rfl, Nat.le_trans (aB_of g34).1 SL, k _ _ s04 (aB_of g34).2⟩
    -- 2: a part fewer
    refine suff (fun cont => ⟨_, rfl, c, 9, rfl, rfl, (by show (0 : Int) < 9; decide), rfl, _, rfl, ite2 (fun h => ⟨_, rfl, wl, _, rfl, .inl (SqL.of zw4), _, 1, rfl, rfl, _, rfl, ite2 (fun h2 => ?_) (fun _ => cont)⟩) (fun _ => iteF cont)⟩) ?_
    · refine ⟨rfl, _, rfl, 1, rfl, _, rfl, wl, _, rfl, SqL.of zw4, fun p1 hp1 => ?_⟩
      rw [cutS_neg (wd :: zs) (by rw [List.length_cons]; omega)]
      have h3 := of_decide_eq_true h2
      rw [lw] at h3
      have g : hB ((wd :: zs).take ((wd :: zs).length - 1)) = true := g02.resolve_left (by rw [List.length_cons]; omega)
      exact fin (Same.upd hp1) upd_same (b700 (hB_of g).1) (hB_of g).2
    -- 3: two blanks
    refine ⟨_, rfl, c, 9, rfl, rfl, (by show (0 : Int) < 9; decide), c % 9, rfl, ite2 (fun h => ?_) (fun _ => ?_)⟩
    · refine ⟨z, rfl, Nat.le_trans (show z.length + (z.length + 1) * (Str.ofString "  ").length ≤ 302 by rw [show (Str.ofString "  ").length = 2 from by decide +kernel]; omega) (by decide), by show 2 ≤ sizeLine; decide, fun p1 hp1 => ⟨_, rfl, wl, _, rfl, .inl (SqL.of (Same.upd hp1 _ _ zw4)), rfl, _, rfl, p1, _, _, .str (if (wd :: zs).length = 1 then tx " " else tx ""), rfl, rfl, SqL.of upd_same, ?_, _, _, rfl, rfl, Nat.le_trans (aB_of g31).1 SL, k _ _ (s04.trans (Same.upd hp1)) (aB_of g31).2⟩⟩
      by_cases hc : (wd :: zs).length = 1
      · rw [if_pos hc, if_pos (decide_eq_true (by rw [List.length_map, hc]; rfl))]
        rfl
      · rw [if_neg hc, if_neg (fun q => hc (by have q := V.int.inj (of_decide_eq_true q); rw [List.length_map] at q; omega))]
        rfl
    -- 4: a blank ahead or behind
    refine ⟨_, rfl, c, 9, rfl, rfl, (by show (0 : Int) < 9; decide), rfl, _, rfl, ite2 (fun h => ?_) (fun _ => ?_)⟩
    · obtain ⟨y, hy, hn⟩ : ∃ y, atI [V.str (tx " " ++ z), V.str (z ++ tx " ")] (c / 9 % 2) = some (.str y) ∧ NoRow y := by
        have y0 := Int.emod_nonneg (c / 9) (show (2 : Int) ≠ 0 by decide)
        have y1 := Int.emod_lt_of_pos (c / 9) (show (0 : Int) < 2 by decide)
        rcases (show c / 9 % 2 = 0 ∨ c / 9 % 2 = 1 by omega) with e | e
        · exact ⟨_, by rw [e]; rfl, (aB_of g32).2⟩
        · exact ⟨_, by rw [e]; rfl, (aB_of g33).2⟩
      exact ⟨_, rfl, _, _, rfl, rfl, Nat.le_trans (aB_of g32).1 SL, _, rfl, _, _, rfl, rfl, Nat.le_trans (aB_of g33).1 SL, by show 2 ≤ sizeLine; decide, fun p1 hp1 => ⟨_, rfl, c / 9, 2, rfl, rfl, (by show (0 : Int) < 2; decide), p1, _, _, .str y, rfl, rfl, SqL.of upd_same, hy, k _ _ (s04.trans (Same.upd hp1)) hn⟩⟩
    -- 5: young
    refine ⟨_, rfl, c, 9, rfl, rfl, (by show (0 : Int) < 9; decide), rfl, _, rfl, ite2 (fun h => ?_) (fun _ => ?_)⟩
    · refine ⟨rfl, _, rfl, _, rfl, wl, _, rfl, SqL.of zw4, fun p1 hp1 => ?_⟩
      rw [show cutV ((wd :: zs).map V.str) none (some 1) = _ from cutS_to (wd :: zs) 1]
      refine ⟨by show 1 ≤ sizeLine; decide, fun p2 hp2 => ⟨p1, p2, _, [V.str (tx "young")], rfl, rfl, Same.upd hp2 _ _ upd_same, upd_same, Nat.le_trans (show (((wd :: zs).take 1).map V.str).length + 1 ≤ 100 by rw [List.length_map, List.length_take, List.length_cons]; omega) (by decide), fun p3 hp3 => ?_⟩⟩
      have w3 := ((Same.upd (o := .lst (((wd :: zs).take 1).map V.str)) hp1).trans (Same.upd (o := .lst [V.str (tx "young")]) hp2)).trans (Same.upd (o := .lst (((wd :: zs).take 1).map V.str ++ [V.str (tx "young")])) hp3)
      refine ⟨_, rfl, _, rfl, wl, _, rfl, SqL.of (w3 _ _ zw4), fun p4 hp4 => ?_⟩
      rw [show cutV ((wd :: zs).map V.str) (some 2) none = _ from cutS_from (wd :: zs) 2]
      refine ⟨p3, p4, _, _, rfl, rfl, Same.upd hp4 _ _ upd_same, upd_same, Nat.le_trans (show (((wd :: zs).take 1).map V.str ++ [V.str (tx "young")]).length + (((wd :: zs).drop 2).map V.str).length ≤ 100 by rw [List.length_append, List.length_map, List.length_map, List.length_take, List.length_drop, List.length_cons, List.length_singleton]; omega) (by decide), fun p5 hp5 => ?_⟩
      have w5 := (w3.trans (Same.upd (o := .lst (((wd :: zs).drop 2).map V.str)) hp4)).trans (Same.upd (o := .lst (((wd :: zs).take 1).map V.str ++ [V.str (tx "young")] ++ ((wd :: zs).drop 2).map V.str)) hp5)
      refine ⟨_, p5, (wd :: zs).take 1 ++ [tx "young"] ++ (wd :: zs).drop 2, rfl, rfl, SqL.of (by rw [upd_same, map_cat3]; rfl), by rw [blk_is]; exact b700 g51, by show 2 ≤ sizeLine; decide, fun p6 hp6 => ⟨_, rfl, wl, _, rfl, .inl (SqL.of (Same.upd hp6 _ _ (w5 _ _ zw4))), _, 2, rfl, rfl, _, rfl, p6, _, _, .str (if (wd :: zs).length < 2 then tx " 1" else tx ""), rfl, rfl, SqL.of upd_same, ?_, _, _, rfl, rfl, by rw [blk_is]; exact Nat.le_trans (aB_of g52).1 SL, k _ _ (s04.trans (w5.trans (Same.upd hp6))) (by rw [blk_is]; exact (aB_of g52).2)⟩⟩
      by_cases hc : (wd :: zs).length < 2
      · rw [if_pos hc, if_pos (decide_eq_true (by rw [List.length_map]; omega))]
        rfl
      · rw [if_neg hc, if_neg (fun q => hc (by have q := of_decide_eq_true q; rw [List.length_map] at q; omega))]
        rfl
    -- 6: large letters
    refine ⟨_, rfl, c, 9, rfl, rfl, (by show (0 : Int) < 9; decide), rfl, _, rfl, ite2 (fun h => ?_) (fun _ => ?_)⟩
    · have g6 := lk6 z hz
      unfold f6 at g6
      rw [Bool.and_eq_true, Bool.not_eq_true'] at g6
      exact ⟨_, rfl, rfl, z, rfl, rfl, g6.1, k _ _ s04 (noRow_of g6.2)⟩
    -- 7: ahead of the row
    refine ⟨_, rfl, rfl, _, rfl, ite2 (fun h => ?_) (fun h => ?_)⟩
    · refine ⟨_, rfl, _, rfl, c / 9, 7, rfl, rfl, ⟨by decide, by decide⟩, _, rfl, ol, _, rfl, .inl (SqL.of z4), c / 9 / 7, _, rfl, rfl, hpo, ol, _, _, .str o, rfl, rfl, SqL.of z4, hoat, _, _, rfl, rfl, Nat.le_trans (show o.length + (tx "x").length ≤ 200 by rw [show (tx "x").length = 1 from by decide +kernel]; omega) (by decide), _, rfl, _, _, rfl, rfl, Nat.le_trans (show (o ++ tx "x").length + z.length ≤ 300 by rw [app_len, show (tx "x").length = 1 from by decide +kernel]; omega) (by decide), k _ _ s04 (noRow7 d ho)⟩
    -- 8: at a part
    have h1 : 1 ≤ an := by
      rcases Nat.eq_zero_or_pos an with e | e
      · exact absurd (by rw [e]; decide) h
      · exact e
    obtain ⟨nr, sm⟩ := noRow8 d ho h1 han
    refine ⟨rfl, _, rfl, _, rfl, _, rfl, wl, _, rfl, SqL.of zw4, fun p1 hp1 => ?_⟩
    rw [cutS_to (wd :: zs) an]
    have w1 := Same.upd (o := .lst (((wd :: zs).take an).map V.str)) hp1
    refine ⟨_, rfl, _, rfl, c / 9, 7, rfl, rfl, ⟨by decide, by decide⟩, _, rfl, ol, _, rfl, .inl (SqL.of (w1 _ _ z4)), c / 9 / 7, _, rfl, rfl, hpo, ol, _, _, .str o, rfl, rfl, SqL.of (w1 _ _ z4), hoat, by show 1 ≤ sizeLine; decide, fun p2 hp2 => ?_⟩
    refine ⟨p1, p2, _, [V.str o], rfl, rfl, Same.upd hp2 _ _ upd_same, upd_same, Nat.le_trans (show (((wd :: zs).take an).map V.str).length + 1 ≤ 100 by rw [List.length_map, List.length_take, List.length_cons]; omega) (by decide), fun p3 hp3 => ?_⟩
    have w3 := (w1.trans (Same.upd (o := .lst [V.str o]) hp2)).trans (Same.upd (o := .lst (((wd :: zs).take an).map V.str ++ [V.str o])) hp3)
    refine ⟨_, rfl, _, rfl, (an : Int), 1, rfl, rfl, _, rfl, wl, _, rfl, SqL.of (w3 _ _ zw4), fun p4 hp4 => ?_⟩
    rw [show cutV ((wd :: zs).map V.str) (some ((an : Int) + 1)) none = _ from cutS_from (wd :: zs) (an + 1)]
    refine ⟨p3, p4, _, _, rfl, rfl, Same.upd hp4 _ _ upd_same, upd_same, Nat.le_trans (show (((wd :: zs).take an).map V.str ++ [V.str o]).length + (((wd :: zs).drop (an + 1)).map V.str).length ≤ 100 by rw [List.length_append, List.length_map, List.length_map, List.length_take, List.length_drop, List.length_cons, List.length_singleton]; omega) (by decide), fun p5 hp5 => ?_⟩
    exact fin (ss := (wd :: zs).take an ++ [o] ++ (wd :: zs).drop (an + 1)) ((w3.trans (Same.upd hp4)).trans (Same.upd hp5)) (by rw [upd_same, map_cat3]; rfl) sm nr
end
end K75
end
section
set_option Elab.async false
set_option linter.all false
set_option maxRecDepth 100000
set_option maxHeartbeats 2000000
set_option exponentiation.threshold 4000
namespace K75
open PySem L2 LX PySem.NumText PySem.Builtin.Int
section
variable {P : Program} {w : World} {K : PySem.W.Frag} {mg : Str → Option Value} {base : Heap}
theorem join_snoc2 (sep : Str) (y : Str) : ∀ (x : Str) (xs : List Str), Txt.join sep ((x :: xs) ++ [y]) = Txt.join sep (x :: xs) ++ sep ++ y
  | x, [] => str_ext (by
    show (Txt.join sep [x, y]).cps.toList = _
    rw [join_cps, join_one, join_one, app_cps, app_cps, List.append_assoc])
  | x, z :: r => str_ext (by
    show (Txt.join sep (x :: z :: (r ++ [y]))).cps.toList = _
    rw [join_cps, show z :: (r ++ [y]) = (z :: r) ++ [y] from rfl, join_snoc2 sep y z r, app_cps, app_cps, app_cps, app_cps, join_cps]
    simp only [List.append_assoc])
theorem join_end {ls : List Str} (h : ls ≠ []) : Txt.join LF ls ++ LF = Txt.join LF (ls ++ [tx ""]) := by
  cases ls with
  | nil => exact absurd rfl h
  | cons x xs =>
    rw [join_snoc2]
    exact str_ext (by rw [app_cps (Txt.join LF (x :: xs) ++ LF), show (tx "").cps.toList = [] from by decide +kernel, List.append_nil])
theorem ln_bd {ls : List Str} (h : ∀ z ∈ ls, Ln z) (hl : ls.length ≤ 100) : (ls.map (·.length)).sum + ls.length * (Str.ofString "\n").length ≤ 16777216 := by
  have h2 := sum_le (b := 2000) (xs := ls) fun x hx => (h x hx).sh.2
  rw [lf_is]
  show _ + ls.length * 1 ≤ _
  omega
theorem first_at {xs tl : List Str} {y : Str} (h : ∀ z ∈ xs, Right z) (hy : NoRow y) : First (xs ++ [y] ++ tl) (some xs.length) := by
  refine ⟨fun i hi z e => ?_, y, ?_, hy⟩
  · rw [List.append_assoc, List.getElem?_append_left hi] at e
    exact h z (List.mem_of_getElem? e)
  · rw [List.append_assoc, List.getElem?_append_right (Nat.le_refl _), Nat.sub_self]
    rfl
theorem ln3 {xs ys : List Str} {y : Str} (h : ∀ z ∈ xs, Ln z) (hy : Ln y) (h2 : ∀ z ∈ ys, Ln z) : ∀ z ∈ xs ++ [y] ++ ys, Ln z := fun z hz => by
  simp only [List.mem_append, List.mem_singleton] at hz
  rcases hz with (q | q) | q
  · exact h z q
  · rw [q]; exact hy
  · exact h2 z q
theorem nrE : NoRow (tx "") := noRow_of empty_no
theorem nrN : NoRow (tx "no") := noRow_of no_no
/-- law -/
def spLaw (K : PySem.W.Frag) : Sp := fun vs H Q _ => ∃ (a : Addr) (ns : List Int), vs = [.ref a] ∧ SqL K H a (ns.map V.int) ∧ ns.length ≤ 63 ∧ (∀ x ∈ ns, intBits x ≤ 2 ^ 20) ∧ ∀ H', Q (.bl true) H'
abbrev NW : List Str := ["script", "lines", "cell", "at", "bad"]
theorem scW : FnScope NW ["script"] (defScope sLaw) := ⟨rfl, rfl, rfl, by decide +kernel, rfl, by decide +kernel, by decide +kernel⟩
theorem ok_law {f fL fS fO : Addr} {fd fdL fdS fdO : FuncData} (F : Fun K "law" "law" sLaw f fd) (zn : mg "len" = none)
    (GL : FnOk P w K mg base (CXE P w) 1 fL fdL ["script"] (spLines K)) (mL : mg "_law_lines" = some (.ref fL)) (kL : PySem.W.keepIn K (.ref fL) = true) (bL : Binds K fdL ["script"] [])
    (GS : FnOk P w K mg base (CXE P w) 1 fS fdS ["line", "cell"] spSpoilt) (mS : mg "_law_spoilt" = some (.ref fS)) (kS : PySem.W.keepIn K (.ref fS) = true) (bS : Binds K fdS ["line", "cell"] [])
    (GO : FnOk P w K mg base (CXE P w) 7 fO fdO ["text"] spRowOf) (mO : mg "_law_row_of" = some (.ref fO)) (kO : PySem.W.keepIn K (.ref fO) = true) (bO : Binds K fdO ["text"] []) : FnOk P w K mg base (CXE P w) 8 f fd ["script"] (spLaw K) := by
  refine F.okE scW (fun vs H Q E h => ?_) (fun cdv A outer s H vs Q E hr h => ?_)
  · obtain ⟨a, ns, rfl, _⟩ := h
    rfl
  · obtain ⟨a, ns, rfl, hS, hz, hb, k⟩ := h
    have r1 := hr.mono (show 1 ≤ 7 by decide)
    refine ⟨_, PSs.nox (pss_cons (ps_set (i := 1) scW.nd rfl (Or.inl rfl) (xe_call GL r1 rfl mL kL bL .nil passN (pa_cons (pv 0) pa_nil)))
      (pss_cons (ps_if (PW.pt (pw_or (pt_cmpR op_ne (xe_call GO hr rfl mO kO bO .nil passN (pa_cons (pe_bm PySem.F.plainAttrs_str PySem.F.slot_str_join PySem.F.type_str_join mt_join pe_str (pa_cons (pv 1) pa_nil)) pa_nil)) pe_int (nomark _)) (pw_or1 (pt_cmpR op_ne (xe_call GO hr rfl mO kO bO .nil passN (pa_cons pe_str pa_nil)) pe_int (nomark _))))) (pss_one ps_dead) pss_nil)
      (pss_cons (ps_for PassesOwn.never rfl (pi_list (pe_op op_cat (pe_lst (pa_cons pe_int pa_nil)) (pe_slice sl_list (pv 0) po_none (po_some pe_int)))) (pg_name (i := 2) scW.nd rfl (Or.inl rfl))
        (pss_cons (ps_set (i := 3) scW.nd rfl (Or.inl rfl) (pe_op op_mod (pe_op op_fdiv (pv 2) pe_int) (pe_callB call_len_seq rfl zn PyProof.Rows.Boot.«len» (pa_cons (pv 1) pa_nil))))
        (pss_cons (ps_set (i := 4) scW.nd rfl (Or.inl rfl) (pe_op op_cat (pe_op op_cat (pe_slice sl_list (pv 1) po_none (po_some (pv 3))) (pe_lst (pa_cons (xe_call GS r1 rfl mS kS bS .nil passN (pa_cons (pe_ix ix_list (pv 1) (pv 3) (fun _ _ => rfl)) (pa_cons (pv 2) pa_nil))) pa_nil))) (pe_slice sl_list (pv 1) (po_some (pe_op op_add (pv 3) pe_int)) po_none)))
        (pss_cons (ps_if (PW.pt (pw_or (pt_cmpR op_ne (xe_call GO hr rfl mO kO bO .nil passN (pa_cons (pe_bm PySem.F.plainAttrs_str PySem.F.slot_str_join PySem.F.type_str_join mt_join pe_str (pa_cons (pv 4) pa_nil)) pa_nil)) (pe_op op_add (pv 3) pe_int) (nomark _)) (pw_or1 (pt_cmpR op_ne (xe_call GO hr rfl mO kO bO .nil passN (pa_cons (pe_bm PySem.F.plainAttrs_str PySem.F.slot_str_join PySem.F.type_str_join mt_join pe_str (pa_cons (pe_op op_cat (pv 4) (pe_lst (pa_cons pe_str pa_nil))) pa_nil)) pa_nil)) (pe_op op_add (pv 3) pe_int) (nomark _))))) (pss_one ps_dead) pss_nil)
        (pss_one (ps_if (pt_cmpR op_ne (xe_call GO hr rfl mO kO bO .nil passN (pa_cons (pe_bm PySem.F.plainAttrs_str PySem.F.slot_str_join PySem.F.type_str_join mt_join pe_str (pa_cons (pe_op op_cat (pe_op op_cat (pe_slice sl_list (pv 1) po_none (po_some (pv 3))) (pe_lst (pa_cons pe_str pa_nil))) (pe_slice sl_list (pv 1) (po_some (pv 3)) po_none)) pa_nil)) pa_nil)) (pe_op op_add (pv 3) pe_int) (nomark _)) (pss_one ps_dead) pss_nil))))))
      (pss_one (ps_ret (pe_cmpR op_eq (xe_call GO hr rfl mO kO bO .nil passN (pa_cons (pe_op op_add_str (pe_bm PySem.F.plainAttrs_str PySem.F.slot_str_join PySem.F.type_str_join mt_join pe_str (pa_cons (pv 1) pa_nil)) pe_str) pa_nil)) (pe_op op_add (pe_callB call_len_seq rfl zn PyProof.Rows.Boot.«len» (pa_cons (pv 1) pa_nil)) pe_int) (nomark _))))))), ?_⟩
    have sqs : ∀ {Hx : Hp}, Same H Hx → SqL K Hx a (ns.map V.int) := fun s12 => Or.imp (fun r => Or.elim r (fun e => .inl (s12 _ _ e)) fun ⟨o, e⟩ => .inr ⟨o, s12 _ _ e⟩) id hS
    refine ⟨_, rfl, a, ns, rfl, hS, fun l ls H1 s1 zl hne hlen hlk => ?_⟩
    have rt : ∀ z ∈ ls, Right z := fun z hz => right_of (lk_right z (hlk z hz))
    have lnR : ∀ z ∈ ls, Ln z := fun z hz => .inl (rt z hz)
    refine ⟨rfl, _, rfl, _, l, ls, rfl, rfl, SqL.of zl, ln_bd lnR (by omega), ls, none, (by rw [lf_is]; rfl), hne, by omega, lnR, rt, fun H2 s2 => ⟨rfl, _, rfl, ite2 (fun h => absurd h (by decide)) (fun _ => ?_)⟩⟩
    refine ⟨[tx ""], some 0, rfl, by simp, by decide, fun z hz => by rw [List.mem_singleton.mp hz]; exact .inr nrE, first_at (xs := []) (tl := []) (fun z hz => by cases hz) nrE, fun H3 s3 => ⟨rfl, _, rfl, ite2 (fun h => absurd h (by decide)) (fun _ => ?_)⟩⟩
    have s13 := (s1.trans s2).trans s3
    have zl3 := s3 _ _ (s2 _ _ zl)
    clear s1 s2 s3 zl
    obtain ⟨cs, ec, hcl, _⟩ := cut_ints ns none (some 20)
    refine ⟨by show 1 ≤ sizeLine; decide, fun l1 h1 => ⟨_, rfl, _, rfl, a, _, rfl, sqs (s13.trans (Same.upd h1)), fun l2 h2 => ?_⟩⟩
    rw [ec]
    refine ⟨l1, l2, [V.int 0], cs.map V.int, rfl, rfl, Same.upd h2 _ _ upd_same, upd_same, Nat.le_trans (show 1 + (cs.map V.int).length ≤ 65 by rw [List.length_map]; omega) (by decide), fun l4 h4 => ⟨l4, rfl, ⟨_, SqL.of upd_same⟩, ?_⟩⟩
    have s5 := ((Same.upd (o := .lst [V.int 0]) h1).trans (Same.upd (o := .lst (cs.map V.int)) h2)).trans (Same.upd (o := .lst ([V.int 0] ++ cs.map V.int)) h4)
    have z4 : upd (upd (upd H3 l1 (.lst [V.int 0])) l2 (.lst (cs.map V.int))) l4 (.lst ([V.int 0] ++ cs.map V.int)) l4 = some (.lst ([V.int 0] ++ cs.map V.int)) := upd_same
    obtain ⟨H5, e5⟩ : ∃ H5, upd (upd (upd H3 l1 (.lst [V.int 0])) l2 (.lst (cs.map V.int))) l4 (.lst ([V.int 0] ++ cs.map V.int)) = H5 := ⟨_, rfl⟩
    rw [e5] at s5 z4
    have zl5 := s5 _ _ zl3
    have lN : (ls.map V.str).length = ls.length := List.length_map ..
    have lpos : 0 < ls.length := List.length_pos_iff.mpr hne
    refine for_list (K := K) (a := l4) (xs := [V.int 0] ++ cs.map V.int) (fun i σ Hx => ∃ v2 v3 v4 : Option V, σ = [some (.ref a), some (.ref l), v2, v3, v4] ∧ Same H5 Hx) ⟨none, none, none, rfl, by rw [← e5]; exact Same.refl _⟩ (fun i σ Hx _ ⟨_, _, _, _, sx⟩ => SqL.of (sx _ _ z4)) ?_ ?_
    · rintro i x σ Hx hx ⟨v2, v3, v4, rfl, sx⟩
      obtain ⟨c, rfl⟩ : ∃ c : Int, x = .int c := by
        rcases List.mem_append.mp (List.mem_of_getElem? hx) with z | z
        · exact ⟨0, List.mem_singleton.mp z⟩
        · obtain ⟨c, _, e⟩ := List.mem_map.mp z
          exact ⟨c, e.symm⟩
      have zx := sx _ _ zl5
      have hpos : (0 : Int) < ((ls.map V.str).length : Int) := by rw [lN]; omega
      refine ⟨_, rfl, c, 300, rfl, rfl, ⟨by decide, by decide⟩, _, rfl, l, _, rfl, .inl (SqL.of zx), c / 300, _, rfl, rfl, hpos, ?_⟩
      have q0 := Int.emod_nonneg (c / 300) (show ((ls.map V.str).length : Int) ≠ 0 by omega)
      have q1 := Int.emod_lt_of_pos (c / 300) hpos
      obtain ⟨an, ean⟩ : ∃ an : Nat, c / 300 % ((ls.map V.str).length : Int) = (an : Int) := ⟨(c / 300 % ((ls.map V.str).length : Int)).toNat, by omega⟩
      have han : an < ls.length := by rw [lN] at ean q1; omega
      show gName 3 (V.int (c / 300 % ((ls.map V.str).length : Int))) _ _ _
      rw [ean]
      clear ean q0 q1
      obtain ⟨y, ey⟩ : ∃ y, ls[an]? = some y := ⟨_, List.getElem?_eq_getElem han⟩
      have hat : atI (ls.map V.str) (an : Int) = some (.str y) := atI_nat (by rw [List.getElem?_map, ey]; rfl)
      have lT : (ls.take an).length = an := by rw [List.length_take]; omega
      have rT : ∀ z ∈ ls.take an, Right z := fun z hz => rt z (List.mem_of_mem_take hz)
      have nT : ∀ z ∈ ls.take an, Ln z := fun z hz => .inl (rT z hz)
      have nD : ∀ n, ∀ z ∈ ls.drop n, Ln z := fun n z hz => lnR z (List.mem_of_mem_drop hz)
      refine ⟨_, rfl, _, rfl, _, rfl, l, _, rfl, SqL.of zx, fun p1 hp1 => ?_⟩
      rw [cutS_to ls an]
      have w1 := Same.upd (o := .lst ((ls.take an).map V.str)) hp1
      have zp1 : upd Hx p1 (.lst ((ls.take an).map V.str)) p1 = some (.lst ((ls.take an).map V.str)) := upd_same
      obtain ⟨G1, e1⟩ : ∃ G1, upd Hx p1 (.lst ((ls.take an).map V.str)) = G1 := ⟨_, rfl⟩
      rw [e1] at w1 zp1 ⊢
      refine ⟨_, rfl, _, rfl, l, _, _, .str y, rfl, rfl, SqL.of (w1 _ _ zx), hat, _, rfl, y, c, rfl, hlk y (List.mem_of_getElem? ey), fun b G2 t2 nb => ?_⟩
      have zp2 := t2 _ _ zp1
      have w2 := w1.trans t2
      clear e1 w1 t2 zp1
      refine ⟨by show 1 ≤ sizeLine; decide, fun p2 hp2 => ⟨p1, p2, _, [V.str b], rfl, rfl, Same.upd hp2 _ _ zp2, upd_same, Nat.le_trans (show ((ls.take an).map V.str).length + 1 ≤ 100 by rw [List.length_map, lT]; omega) (by decide), fun p3 hp3 => ?_⟩⟩
      have w3 := (w2.trans (Same.upd (o := .lst [V.str b]) hp2)).trans (Same.upd (o := .lst ((ls.take an).map V.str ++ [V.str b])) hp3)
      refine ⟨_, rfl, _, rfl, (an : Int), 1, rfl, rfl, _, rfl, l, _, rfl, SqL.of (w3 _ _ zx), fun p4 hp4 => ?_⟩
      rw [show cutV (ls.map V.str) (some ((an : Int) + 1)) none = _ from cutS_from ls (an + 1)]
      refine ⟨p3, p4, _, _, rfl, rfl, Same.upd hp4 _ _ upd_same, upd_same, Nat.le_trans (show ((ls.take an).map V.str ++ [V.str b]).length + ((ls.drop (an + 1)).map V.str).length ≤ 100 by rw [List.length_append, List.length_map, List.length_map, lT, List.length_drop, List.length_singleton]; omega) (by decide), fun p5 hp5 => ?_⟩
      have w5 := (w3.trans (Same.upd (o := .lst ((ls.drop (an + 1)).map V.str)) hp4)).trans (Same.upd (o := .lst ((ls.take an).map V.str ++ [V.str b] ++ (ls.drop (an + 1)).map V.str)) hp5)
      have z5 : upd (upd (upd (upd G2 p2 (.lst [V.str b])) p3 (.lst ((ls.take an).map V.str ++ [V.str b]))) p4 (.lst ((ls.drop (an + 1)).map V.str))) p5 (.lst ((ls.take an).map V.str ++ [V.str b] ++ (ls.drop (an + 1)).map V.str)) p5 = some (.lst ((ls.take an ++ [b] ++ ls.drop (an + 1)).map V.str)) := by rw [upd_same, map_cat3]; rfl
      obtain ⟨G5, e5'⟩ : ∃ G5, upd (upd (upd (upd G2 p2 (.lst [V.str b])) p3 (.lst ((ls.take an).map V.str ++ [V.str b]))) p4 (.lst ((ls.drop (an + 1)).map V.str))) p5 (.lst ((ls.take an).map V.str ++ [V.str b] ++ (ls.drop (an + 1)).map V.str)) = G5 := ⟨_, rfl⟩
      show gName 4 (V.ref p5) _ (upd (upd (upd (upd G2 p2 (.lst [V.str b])) p3 (.lst ((ls.take an).map V.str ++ [V.str b]))) p4 (.lst ((ls.drop (an + 1)).map V.str))) p5 (.lst ((ls.take an).map V.str ++ [V.str b] ++ (ls.drop (an + 1)).map V.str))) _
      rw [e5'] at w5 z5 ⊢
      clear e5' w3 w2 zp2 hp2 hp3 hp4 hp5
      have lB : (ls.take an ++ [b] ++ ls.drop (an + 1)).length ≤ 22 := by
        rw [List.length_append, List.length_append, lT, List.length_drop, List.length_singleton]
        omega
      have nB := ln3 nT (.inr nb) (nD (an + 1))
      have fB : First (ls.take an ++ [b] ++ ls.drop (an + 1)) (some an) := by
        have := first_at (tl := ls.drop (an + 1)) rT nb
        rwa [lT] at this
      have neq : ∀ {A : Prop}, (!decide (V.int (rowNo (some an)) = V.int ((an : Int) + 1))) = true → A := fun h => absurd h (by simp [rowNo])
      refine ⟨rfl, _, rfl, _, p5, _, rfl, rfl, SqL.of z5, ln_bd nB (by omega), _, some an, (by rw [lf_is]; rfl), by simp, by omega, nB, fB, fun H6 s6 => ⟨_, rfl, (an : Int), 1, rfl, rfl, rfl, _, rfl, ite2 neq (fun _ => ?_)⟩⟩
      refine ⟨rfl, _, rfl, by show 1 ≤ sizeLine; decide, fun p6 hp6 => ⟨p5, p6, _, [V.str (tx "no")], rfl, rfl, Same.upd hp6 _ _ (s6 _ _ z5), upd_same, Nat.le_trans (show ((ls.take an ++ [b] ++ ls.drop (an + 1)).map V.str).length + 1 ≤ 100 by rw [List.length_map]; omega) (by decide), fun p7 hp7 => ?_⟩⟩
      have w7 := ((w5.trans s6).trans (Same.upd (o := .lst [V.str (tx "no")]) hp6)).trans (Same.upd (o := .lst ((ls.take an ++ [b] ++ ls.drop (an + 1)).map V.str ++ [V.str (tx "no")])) hp7)
      have fN : First (ls.take an ++ [b] ++ ls.drop (an + 1) ++ [tx "no"]) (some an) := by
        have := first_at (tl := ls.drop (an + 1) ++ [tx "no"]) rT nb
        rwa [lT, ← List.append_assoc] at this
      have nN : ∀ z ∈ ls.take an ++ [b] ++ ls.drop (an + 1) ++ [tx "no"], Ln z := fun z hz => (List.mem_append.mp hz).elim (nB z) (fun q => by rw [List.mem_singleton.mp q]; exact .inr nrN)
      have lN2 : (ls.take an ++ [b] ++ ls.drop (an + 1) ++ [tx "no"]).length ≤ 23 := by rw [List.length_append, List.length_singleton]; omega
      refine ⟨_, p7, ls.take an ++ [b] ++ ls.drop (an + 1) ++ [tx "no"], rfl, rfl, SqL.of (by rw [upd_same]; exact congrArg (fun x => some (HO.lst x)) (List.map_append (l₁ := ls.take an ++ [b] ++ ls.drop (an + 1)) (l₂ := [tx "no"])).symm), ln_bd nN (by omega), _, some an, (by rw [lf_is]; rfl), by simp, by omega, nN, fN, fun H8 s8 => ⟨_, rfl, (an : Int), 1, rfl, rfl, rfl, _, rfl, ite2 neq (fun _ => ?_)⟩⟩
      have w8 := w7.trans s8
      have zx8 := w8 _ _ zx
      clear w7 s8 s6 w5 z5
      refine ⟨rfl, _, rfl, _, rfl, _, rfl, l, _, rfl, SqL.of zx8, fun p1 hp1 => ?_⟩
      rw [cutS_to ls an]
      refine ⟨by show 1 ≤ sizeLine; decide, fun p2 hp2 => ⟨p1, p2, _, [V.str (tx "")], rfl, rfl, Same.upd hp2 _ _ upd_same, upd_same, Nat.le_trans (show ((ls.take an).map V.str).length + 1 ≤ 100 by rw [List.length_map, lT]; omega) (by decide), fun p3 hp3 => ?_⟩⟩
      have u3 := ((Same.upd (o := .lst ((ls.take an).map V.str)) hp1).trans (Same.upd (o := .lst [V.str (tx "")]) hp2)).trans (Same.upd (o := .lst ((ls.take an).map V.str ++ [V.str (tx "")])) hp3)
      refine ⟨_, rfl, _, rfl, _, rfl, l, _, rfl, SqL.of (u3 _ _ zx8), fun p4 hp4 => ?_⟩
      rw [cutS_from ls an]
      refine ⟨p3, p4, _, _, rfl, rfl, Same.upd hp4 _ _ upd_same, upd_same, Nat.le_trans (show ((ls.take an).map V.str ++ [V.str (tx "")]).length + ((ls.drop an).map V.str).length ≤ 100 by rw [List.length_append, List.length_map, List.length_map, lT, List.length_drop, List.length_singleton]; omega) (by decide), fun p5 hp5 => ?_⟩
      have u5 := (u3.trans (Same.upd (o := .lst ((ls.drop an).map V.str)) hp4)).trans (Same.upd (o := .lst ((ls.take an).map V.str ++ [V.str (tx "")] ++ (ls.drop an).map V.str)) hp5)
      have lE : (ls.take an ++ [tx ""] ++ ls.drop an).length ≤ 22 := by
        rw [List.length_append, List.length_append, lT, List.length_drop, List.length_singleton]
        omega
      have nE := ln3 nT (.inr nrE) (nD an)
      have fE : First (ls.take an ++ [tx ""] ++ ls.drop an) (some an) := by
        have := first_at (tl := ls.drop an) rT nrE
        rwa [lT] at this
      refine ⟨_, p5, ls.take an ++ [tx ""] ++ ls.drop an, rfl, rfl, SqL.of (by rw [upd_same, map_cat3]; rfl), ln_bd nE (by omega), _, some an, (by rw [lf_is]; rfl), by simp, by omega, nE, fE, fun H9 s9 => ⟨_, rfl, (an : Int), 1, rfl, rfl, rfl, _, rfl, ite2 neq (fun _ => ?_)⟩⟩
      exact ⟨_, _, _, rfl, ((sx.trans w8).trans u5).trans s9⟩
    · rintro σ Hx ⟨v2, v3, v4, rfl, sx⟩
      have zx := sx _ _ zl5
      have nE : ∀ z ∈ ls ++ [tx ""], Ln z := fun z hz => (List.mem_append.mp hz).elim (lnR z) (fun q => by rw [List.mem_singleton.mp q]; exact .inr nrE)
      have lE : (ls ++ [tx ""]).length ≤ 22 := by rw [List.length_append, List.length_singleton]; omega
      have fE : First (ls ++ [tx ""]) (some ls.length) := by
        have := first_at (tl := []) rt nrE
        rwa [List.append_nil] at this
      have jl := join_ln (ls := ls) lnR (by omega)
      refine ⟨rfl, _, rfl, _, l, ls, rfl, rfl, SqL.of zx, ln_bd lnR (by omega), _, _, rfl, rfl, Nat.le_trans (show (Txt.join (Str.ofString "\n") ls).length + (Str.ofString "\n").length ≤ 300001 by rw [lf_is]; exact Nat.add_le_add_right jl 1) (by decide), ls ++ [tx ""], some ls.length, (by rw [lf_is, join_end hne]; rfl), by simp, by omega, nE, fE, fun H9 s9 => ⟨_, rfl, l, _, rfl, .inl (SqL.of (s9 _ _ zx)), _, 1, rfl, rfl, rfl, ?_⟩⟩
      have e : decide (V.int (rowNo (some ls.length)) = V.int (((ls.map V.str).length : Int) + 1)) = true := decide_eq_true (by rw [lN]; rfl)
      show Q (.bl (decide (V.int (rowNo (some ls.length)) = V.int (((ls.map V.str).length : Int) + 1)))) H9
      rw [e]
      exact k H9
end
end K75
end
section
set_option Elab.async false
set_option linter.all false
set_option maxRecDepth 100000
set_option maxHeartbeats 4000000
set_option exponentiation.threshold 4000
namespace K75
open PySem L2 LX PySem.Builtin.Int
/-! ### the table, read off -/
def valIs (v : Value) (k : Kd) : Bool := match v with
  | .str z _ => decide (z = kdT k)
  | _ => false
def valsAre : List Value → List Kd → Bool
  | [], [] => true
  | v :: vs, k :: ks => valIs v k && valsAre vs ks
  | _, _ => false
def tupIs (K : PySem.W.Frag) (fa : Addr) (ks : List Kd) : Bool := match K.lookup fa with
  | some ⟨.type s, _, .seq its _, _⟩ => decide (s = "tuple") && valsAre its.toList ks && decide (its.size ≤ 1000)
  | _ => false
def rowIn (K : PySem.W.Frag) (aF : Addr) (p : Str × List Kd) : Bool := match PySem.W.nsIn K aF p.1 with
  | some (some (.ref fa)) => tupIs K fa p.2
  | _ => false
def tabIn (K : PySem.W.Frag) (aF : Addr) (tb : List (Str × List Kd)) : Bool := tb.all (rowIn K aF)
theorem vals_are : ∀ {vs : List Value} {ks : List Kd}, valsAre vs ks = true → Vals (ks.map fun k => V.str (kdT k)) vs
  | [], [], _ => .nil
  | [], _ :: _, h => absurd h Bool.false_ne_true
  | _ :: _, [], h => absurd h Bool.false_ne_true
  | v :: vs, k :: ks, h => by
    unfold valsAre at h
    rw [Bool.and_eq_true] at h
    refine .cons ?_ (vals_are h.2)
    have h1 := h.1
    unfold valIs at h1
    split at h1
    · exact ⟨_, by rw [← of_decide_eq_true h1]⟩
    · cases h1
theorem tup_of {K : PySem.W.Frag} {fa : Addr} {ks : List Kd} (h : tupIs K fa ks = true) (H : Hp) : SqT K H fa (ks.map fun k => V.str (kdT k)) := by
  unfold tupIs at h
  split at h
  · rename_i s d its n sl e
    rw [Bool.and_eq_true, Bool.and_eq_true] at h
    obtain ⟨⟨h1, h2⟩, h3⟩ := h
    exact .inr ⟨_, its, n, e, congrArg Value.type (of_decide_eq_true h1), rfl, Nat.le_trans (of_decide_eq_true h3) (by decide), vals_are h2⟩
  · cases h
theorem forms_of {K : PySem.W.Frag} {P : Params} {aF : Addr} {es : Array DictEntry} {n : Nat} {tb : List (Str × List Kd)} (h1 : K.lookup aF = some ⟨.type "dict", none, .dict es n, #[]⟩) (h2 : PySem.W.KeysLit P es.toList) (h3 : (aF == sysModules) = false) (h4 : tabIn K aF tb = true) : Forms K P aF tb := by
  refine ⟨⟨⟨es, n, h1, h2⟩, h3⟩, fun p hp => ?_⟩
  have h5 := List.all_eq_true.mp h4 p hp
  unfold rowIn at h5
  split at h5
  · rename_i fa e
    exact ⟨fa, e, tup_of h5⟩
  · cases h5
theorem xset_of {K : PySem.W.Frag} {C CH : Addr} {f : Str} (x : xclsIn K C = true) (ga : PySem.W.findIn K (.ref C) "__getattribute__" = some (some (.builtin "BaseException.__getattribute__"))) (gt : PySem.W.findIn K (.ref C) "__getattr__" = some none)
    (md : (PySem.W.clsIn K C).map (fun cd => (cd.hasDict, cd.mro)) = some (true, [.ref C, .ref CH, .type "ValueError", .type "Exception", .type "BaseException", .type "object"]))
    (sa : PySem.W.findIn K (.ref C) "__setattr__" = some (some (.builtin "object.__setattr__"))) (no : PySem.W.findIn K (.ref C) f = some none) : XSet K C f := by
  obtain ⟨cd, hc, y⟩ := xcls_of x
  rw [hc] at md
  have e := Option.some.inj md
  exact ⟨⟨cd, CH, y, congrArg Prod.fst e, congrArg Prod.snd e⟩, ⟨ga, gt⟩, sa, no⟩
theorem all_mk {l : PySem.W.OpenLaw} {w : World} {K : PySem.W.Frag} {h : Heap} {mg : Str → Option Value} {fa aF f1 f2 f3 f4 f5 f9 f10 f13 f14 f19 f18 CH dT dA dB dV fXI fI fCA : Addr} (X : K.In h) (G : h.Ns mainGlobals mg) (hfa : mg "law" = some (.ref fa)) {t1 t2 t3 t4 : Tok} {esF : Array DictEntry} {nF : Nat}
    {od1 an1 od2 an2 od3 an3 od4 an4 od5 an5 od9 an9 od10 an10 od13 an13 od14 an14 od19 an19 od18 an18 odXI anXI odI anI odCA anCA : Option Addr} {sl1 sl2 sl3 sl4 sl5 sl9 sl10 sl13 sl14 sl19 sl18 slXI slI slCA : Array (Option Value)} {oc1 kV1 dc1 pm1 cd1 ct1 oc2 kV2 dc2 pm2 cd2 ct2 oc3 kV3 dc3 pm3 cd3 ct3 oc4 kV4 dc4 pm4 cd4 ct4 oc5 kV5 dc5 pm5 cd5 ct5 oc9 kV9 dc9 pm9 cd9 ct9 oc10 kV10 dc10 pm10 cd10 ct10 oc13 kV13 dc13 pm13 cd13 ct13 oc14 kV14 dc14 pm14 cd14 ct14 oc19 kV19 dc19 pm19 cd19 ct19 oc18 kV18 dc18 pm18 cd18 ct18 ocXI kVXI dcXI pmXI cdXI ctXI ocI kVI dcI pmI cdI ctI ocCA kVCA dcCA pmCA cdCA ctCA : Value}
    (g1 : PySem.W.nsIn K mainGlobals "MOST_FIGURES" = some (some (.int 61 t1)))
    (g2 : PySem.W.nsIn K mainGlobals "MOST_LETTERS" = some (some (.int 8 t2)))
    (g3 : PySem.W.nsIn K mainGlobals "FIGURES" = some (some (.str FIG t3)))
    (g4 : PySem.W.nsIn K mainGlobals "LETTERS" = some (some (.str LET t4)))
    (gF : PySem.W.nsIn K mainGlobals "FORMS" = some (some (.ref aF)))
    (lF : K.lookup aF = some ⟨.type "dict", none, .dict esF nF, #[]⟩)
    (kF : PySem.W.KeysLit w.params esF.toList)
    (oF : (aF == sysModules) = false)
    (tF : tabIn K aF TB = true)
    (nCH : PySem.W.nsIn K mainGlobals "HeapError" = some (some (.ref CH)))
    (ndT : PySem.W.nsIn K mainGlobals "BadLog" = some (some (.ref dT)))
    (ndA : PySem.W.nsIn K mainGlobals "BadAddress" = some (some (.ref dA)))
    (ndB : PySem.W.nsIn K mainGlobals "BadText" = some (some (.ref dB)))
    (ndV : PySem.W.nsIn K mainGlobals "BadView" = some (some (.ref dV)))
    (xH : xclsIn K CH = true)
    (xT : xclsIn K dT = true)
    (ga : PySem.W.findIn K (.ref dT) "__getattribute__" = some (some (.builtin "BaseException.__getattribute__")))
    (gt : PySem.W.findIn K (.ref dT) "__getattr__" = some none)
    (gc : PySem.W.findIn K (.ref dT) "__class__" = some (some (.builtin "object.__class__")))
    (ii : PySem.W.findIn K (.ref dT) "__init__" = some (some (.ref fI)))
    (kc : PySem.W.keepIn K (.ref dT) = true)
    (fi : PySem.W.isFn K (.ref fI) = true)
    (fv : PySem.W.kitOne K (.ref dT) (.type "ValueError") = some true)
    (sb : PySem.W.mroIn K dT (.ref CH) = some true)
    (nt : PySem.W.kitAny K (.ref dT) [.ref dA, .ref dB, .ref dV] = some false)
    (ky : keysIn K aF (TB.map (·.1)) = true)
    (mc : PySem.W.findIn K (.ref dT) "called" = some (some (.ref fCA)))
    (mfc : PySem.W.isFn K (.ref fCA) = true)
    (rd : PySem.W.readsIn K CH (.type "type") = true)
    (fc : PySem.W.findCls K (.ref CH) (.type "type") "__init__" = some (.val (.ref fXI)))
    (cga : PySem.W.specialIn K (.ref CH) "__getattribute__" = some (some (.builtin "type.__getattribute__")))
    (md : (PySem.W.clsIn K dT).map (fun cd => (cd.hasDict, cd.mro)) = some (true, [.ref dT, .ref CH, .type "ValueError", .type "Exception", .type "BaseException", .type "object"]))
    (sa : PySem.W.findIn K (.ref dT) "__setattr__" = some (some (.builtin "object.__setattr__")))
    (no : PySem.W.findIn K (.ref dT) "row" = some none)
    (lXI : K.lookup fXI = some ⟨ocXI, odXI, .func (PySem.W.fnOf "__init__" "HeapError.__init__" (defArgs sXI) (defBody sXI) (defScope sXI) .none kVXI dcXI pmXI anXI cdXI ctXI), slXI⟩)
    (cXI : PySem.W.codeIn K cdXI "HeapError.__init__" = true)
    (kXI : PySem.W.keepIn K (.ref fXI) = true)
    (lI : K.lookup fI = some ⟨ocI, odI, .func (PySem.W.fnOf "__init__" "BadLog.__init__" (defArgs sI4) (defBody sI4) (defScope sI4) .none kVI dcI pmI anI cdI ctI), slI⟩)
    (cI : PySem.W.codeIn K cdI "BadLog.__init__" = true)
    (kI : PySem.W.keepIn K (.ref fI) = true)
    (lCA : K.lookup fCA = some ⟨ocCA, odCA, .func (PySem.W.fnOf "called" "BadLog.called" (defArgs sC4) (defBody sC4) (defScope sC4) .none kVCA dcCA pmCA anCA cdCA ctCA), slCA⟩)
    (cCA : PySem.W.codeIn K cdCA "BadLog.called" = true)
    (kCA : PySem.W.keepIn K (.ref fCA) = true)
    (a1 : PySem.W.nsIn K mainGlobals "row_read" = some (some (.ref f1)))
    (l1 : K.lookup f1 = some ⟨oc1, od1, .func (PySem.W.fnOf "row_read" "row_read" (defArgs sRowR) (defBody sRowR) (defScope sRowR) .none kV1 dc1 pm1 an1 cd1 ct1), sl1⟩)
    (c1 : PySem.W.codeIn K cd1 "row_read" = true)
    (k1 : PySem.W.keepIn K (.ref f1) = true)
    (a2 : PySem.W.nsIn K mainGlobals "is_written" = some (some (.ref f2)))
    (l2 : K.lookup f2 = some ⟨oc2, od2, .func (PySem.W.fnOf "is_written" "is_written" (defArgs sWr) (defBody sWr) (defScope sWr) .none kV2 dc2 pm2 an2 cd2 ct2), sl2⟩)
    (c2 : PySem.W.codeIn K cd2 "is_written" = true)
    (k2 : PySem.W.keepIn K (.ref f2) = true)
    (a3 : PySem.W.nsIn K mainGlobals "is_count" = some (some (.ref f3)))
    (l3 : K.lookup f3 = some ⟨oc3, od3, .func (PySem.W.fnOf "is_count" "is_count" (defArgs sCnt) (defBody sCnt) (defScope sCnt) .none kV3 dc3 pm3 an3 cd3 ct3), sl3⟩)
    (c3 : PySem.W.codeIn K cd3 "is_count" = true)
    (k3 : PySem.W.keepIn K (.ref f3) = true)
    (a4 : PySem.W.nsIn K mainGlobals "is_made_of" = some (some (.ref f4)))
    (l4 : K.lookup f4 = some ⟨oc4, od4, .func (PySem.W.fnOf "is_made_of" "is_made_of" (defArgs sMade) (defBody sMade) (defScope sMade) .none kV4 dc4 pm4 an4 cd4 ct4), sl4⟩)
    (c4 : PySem.W.codeIn K cd4 "is_made_of" = true)
    (k4 : PySem.W.keepIn K (.ref f4) = true)
    (a5 : PySem.W.nsIn K mainGlobals "part_read" = some (some (.ref f5)))
    (l5 : K.lookup f5 = some ⟨oc5, od5, .func (PySem.W.fnOf "part_read" "part_read" (defArgs sPRead) (defBody sPRead) (defScope sPRead) .none kV5 dc5 pm5 an5 cd5 ct5), sl5⟩)
    (c5 : PySem.W.codeIn K cd5 "part_read" = true)
    (k5 : PySem.W.keepIn K (.ref f5) = true)
    (a9 : PySem.W.nsIn K mainGlobals "read_log" = some (some (.ref f9)))
    (l9 : K.lookup f9 = some ⟨oc9, od9, .func (PySem.W.fnOf "read_log" "read_log" (defArgs sReadL) (defBody sReadL) (defScope sReadL) .none kV9 dc9 pm9 an9 cd9 ct9), sl9⟩)
    (c9 : PySem.W.codeIn K cd9 "read_log" = true)
    (k9 : PySem.W.keepIn K (.ref f9) = true)
    (a10 : PySem.W.nsIn K mainGlobals "log_row" = some (some (.ref f10)))
    (l10 : K.lookup f10 = some ⟨oc10, od10, .func (PySem.W.fnOf "log_row" "log_row" (defArgs sLogR) (defBody sLogR) (defScope sLogR) .none kV10 dc10 pm10 an10 cd10 ct10), sl10⟩)
    (c10 : PySem.W.codeIn K cd10 "log_row" = true)
    (k10 : PySem.W.keepIn K (.ref f10) = true)
    (a13 : PySem.W.nsIn K mainGlobals "_law_lines" = some (some (.ref f13)))
    (l13 : K.lookup f13 = some ⟨oc13, od13, .func (PySem.W.fnOf "_law_lines" "_law_lines" (defArgs sLines) (defBody sLines) (defScope sLines) .none kV13 dc13 pm13 an13 cd13 ct13), sl13⟩)
    (c13 : PySem.W.codeIn K cd13 "_law_lines" = true)
    (k13 : PySem.W.keepIn K (.ref f13) = true)
    (a14 : PySem.W.nsIn K mainGlobals "_law_spoilt" = some (some (.ref f14)))
    (l14 : K.lookup f14 = some ⟨oc14, od14, .func (PySem.W.fnOf "_law_spoilt" "_law_spoilt" (defArgs sSpoilt) (defBody sSpoilt) (defScope sSpoilt) .none kV14 dc14 pm14 an14 cd14 ct14), sl14⟩)
    (c14 : PySem.W.codeIn K cd14 "_law_spoilt" = true)
    (k14 : PySem.W.keepIn K (.ref f14) = true)
    (a19 : PySem.W.nsIn K mainGlobals "_law_row_of" = some (some (.ref f19)))
    (l19 : K.lookup f19 = some ⟨oc19, od19, .func (PySem.W.fnOf "_law_row_of" "_law_row_of" (defArgs sRowOf) (defBody sRowOf) (defScope sRowOf) .none kV19 dc19 pm19 an19 cd19 ct19), sl19⟩)
    (c19 : PySem.W.codeIn K cd19 "_law_row_of" = true)
    (k19 : PySem.W.keepIn K (.ref f19) = true)
    (a18 : PySem.W.nsIn K mainGlobals "law" = some (some (.ref f18)))
    (l18 : K.lookup f18 = some ⟨oc18, od18, .func (PySem.W.fnOf "law" "law" (defArgs sLaw) (defBody sLaw) (defScope sLaw) .none kV18 dc18 pm18 an18 cd18 ct18), sl18⟩)
    (c18 : PySem.W.codeIn K cd18 "law" = true)
    (k18 : PySem.W.keepIn K (.ref f18) = true)
    (z_isinstance : PySem.W.nsIn K mainGlobals "isinstance" = some none)
    (z_bool : PySem.W.nsIn K mainGlobals "bool" = some none)
    (z_int : PySem.W.nsIn K mainGlobals "int" = some none)
    (z_len : PySem.W.nsIn K mainGlobals "len" = some none)
    (z_all : PySem.W.nsIn K mainGlobals "all" = some none)
    (z_zip : PySem.W.nsIn K mainGlobals "zip" = some none)
    (z_tuple : PySem.W.nsIn K mainGlobals "tuple" = some none)
    (z_ValueError : PySem.W.nsIn K mainGlobals "ValueError" = some none) :
    ∃ fd : FuncData, (∀ (s : Shared) (v : Value), BindsTo s fd ⟨[v], []⟩ [("script", v)]) ∧ ∀ base : Heap, K.In base → base.Ns mainGlobals mg → FnOk l.prog w K mg base (CXE l.prog w) 8 fa fd ["script"] (spLaw K) := by
  have e := hfa.symm.trans (PySem.W.mg_of X G a18)
  cases e
  have m := fun {n : Str} {v : Value} (q : PySem.W.nsIn K mainGlobals n = some (some v)) => PySem.W.mg_of X G q
  have z := fun {n : Str} (q : PySem.W.nsIn K mainGlobals n = some none) => PySem.W.mg_none_of X G q
  have T : Forms K w.params aF TB := forms_of lF kF oF tF
  obtain ⟨cdH, _, yH⟩ := xcls_of xH
  obtain ⟨cx, hcx, yT⟩ := xcls_of xT
  have su : ∃ cd, XCls K dT cd ∧ cd.mro.contains (.ref CH) = true := ⟨cx, yT, by
    unfold PySem.W.mroIn at sb
    rw [hcx, Option.bind_some, if_neg (by rw [yT.notEmpty]; decide)] at sb
    exact Option.some.inj sb⟩
  have TE : TxtE K mg CH dT dA dB dV fXI fI := ⟨⟨cdH, yH⟩, m nCH, ⟨rd, fc, cga, kXI⟩, m ndT, ⟨⟨cx, yT⟩, ⟨ga, gt⟩, gc⟩, ⟨⟨cx, yT⟩, ii, fi, kc⟩, xset_of xT ga gt md sa no, su, fv, m ndA, m ndB, m ndV, nt, z z_ValueError, z z_isinstance⟩
  have AB : ∀ wd, wd ∉ TB.map (·.1) → PySem.W.nsIn K aF wd = some none := fun wd h => abs_of ky h
  have FXI := fun_mk (st := sXI) lXI cXI kXI
  have FI := fun_mk (st := sI4) lI cI kI
  have FCA := fun_mk (st := sC4) lCA cCA kCA
  have bCA := FCA.binds (ps := ["self"]) fun _ _ _ _ _ _ us hl => match us, hl with | [_], _ => rfl
  have bXI := FXI.binds (ps := ["self", "text"]) fun _ _ _ _ _ _ us hl => match us, hl with | [_, _], _ => rfl
  have bI := FI.binds (ps := ["self", "text", "row"]) fun _ _ _ _ _ _ us hl => match us, hl with | [_, _, _], _ => rfl
  have F1 := fun_mk (st := sRowR) l1 c1 k1
  have F2 := fun_mk (st := sWr) l2 c2 k2
  have F3 := fun_mk (st := sCnt) l3 c3 k3
  have F4 := fun_mk (st := sMade) l4 c4 k4
  have F5 := fun_mk (st := sPRead) l5 c5 k5
  have F9 := fun_mk (st := sReadL) l9 c9 k9
  have F10 := fun_mk (st := sLogR) l10 c10 k10
  have F13 := fun_mk (st := sLines) l13 c13 k13
  have F14 := fun_mk (st := sSpoilt) l14 c14 k14
  have F19 := fun_mk (st := sRowOf) l19 c19 k19
  have F18 := fun_mk (st := sLaw) l18 c18 k18
  have b1 := F1.binds (ps := ["words", "form"]) fun _ _ _ _ _ _ us hl => match us, hl with | [_, _], _ => rfl
  have b2 := F2.binds (ps := ["part", "kind"]) fun _ _ _ _ _ _ us hl => match us, hl with | [_, _], _ => rfl
  have b3 := F3.binds (ps := ["part"]) fun _ _ _ _ _ _ us hl => match us, hl with | [_], _ => rfl
  have b4 := F4.binds (ps := ["part", "signs"]) fun _ _ _ _ _ _ us hl => match us, hl with | [_, _], _ => rfl
  have b5 := F5.binds (ps := ["part", "kind"]) fun _ _ _ _ _ _ us hl => match us, hl with | [_, _], _ => rfl
  have b9 := F9.binds (ps := ["text"]) fun _ _ _ _ _ _ us hl => match us, hl with | [_], _ => rfl
  have b10 := F10.binds (ps := ["line"]) fun _ _ _ _ _ _ us hl => match us, hl with | [_], _ => rfl
  have b13 := F13.binds (ps := ["script"]) fun _ _ _ _ _ _ us hl => match us, hl with | [_], _ => rfl
  have b14 := F14.binds (ps := ["line", "cell"]) fun _ _ _ _ _ _ us hl => match us, hl with | [_, _], _ => rfl
  have b19 := F19.binds (ps := ["text"]) fun _ _ _ _ _ _ us hl => match us, hl with | [_], _ => rfl
  refine ⟨PySem.W.fnOf "law" "law" (defArgs sLaw) (defBody sLaw) (defScope sLaw) .none kV18 dc18 pm18 an18 cd18 ct18, fun s v => .of_eq rfl, fun base _ _ => ?_⟩
  have GX := ok_xi (P := l.prog) (w := w) (mg := mg) (base := base) FXI (z z_ValueError)
  have GI := ok_i4 (P := l.prog) (w := w) (mg := mg) (base := base) FI TE GX bXI
  have G4 := ok_made (P := l.prog) (w := w) (mg := mg) (base := base) F4 (z z_all)
  have G3 := ok_cnt (P := l.prog) (w := w) (mg := mg) (base := base) F3 (z z_len) (m g1) (m g3) G4 (m a4) k4 b4
  have G2 := ok_wr (P := l.prog) (w := w) (mg := mg) (base := base) F2 (z z_len) (m g2) (m g4) G4 (m a4) k4 b4 G3 (m a3) k3 b3
  have G5 := ok_pread (P := l.prog) (w := w) (mg := mg) (base := base) F5 (z z_int)
  have G1 := ok_rowr (P := l.prog) (w := w) (mg := mg) (base := base) F1 (z z_len) (z z_all) (z z_zip) (z z_tuple) G2 (m a2) k2 b2 G5 (m a5) k5 b5
  have G10 := ok_logr (P := l.prog) (w := w) (mg := mg) (base := base) F10 T (m gF) G1 (m a1) k1 b1
  have G9 := ok_readg (P := l.prog) (w := w) (mg := mg) (base := base) F9 TE AB (z z_len) GI bI G10 (m a10) k10 b10
  have MD : MethD l.prog w K mg base (CXE l.prog w) 1 "called" dT (spName "BadLog") := ⟨_, _, _, ⟨mc, mfc, kCA⟩, ok_called FCA, bCA⟩
  have G19 := ok_rowof (P := l.prog) (w := w) (mg := mg) (base := base) F19 TE (z z_bool) MD G9 (m a9) k9 b9
  have G13 := ok_lines (P := l.prog) (w := w) (mg := mg) (base := base) F13
  have G14 := ok_spoilt (P := l.prog) (w := w) (mg := mg) (base := base) F14 (z z_len) (z z_int)
  exact ok_law F18 (z z_len) G13 (m a13) k13 b13 G14 (m a14) k14 b14 G19 (m a19) k19 b19
theorem walk {l : PySem.W.OpenLaw} {q : Program} {loose : List Str} {XP : (Str → Option Value) → Heap → Prop} {YP : World → Heap → Prop} {d : DefRec} {K : Params → PySem.W.Frag} (hn : l.most = some 63) (hdf : d.params.defaults = [])
    (hY : ∀ (w : World) (h : Heap), YP w h → (K w.params).In h)
    (F : ∀ (w : World) (mg : Str → Option Value) (fa : Addr) (h : Heap), (K w.params).In h → h.Ns mainGlobals mg → mg d.name = some (.ref fa) →
      ∃ fd : FuncData, (∀ (s : Shared) (u : Value), BindsTo s fd ⟨[u], []⟩ [("script", u)]) ∧ ∀ base : Heap, (K w.params).In base → base.Ns mainGlobals mg → FnOk l.prog w (K w.params) mg base (CXE l.prog w) 8 fa fd ["script"] (spLaw (K w.params))) :
    PySem.W.WalkO q loose XP YP l.row.toRowW d [] (fun f vs => PySem.call f vs) :=
  L2.walk_ofB (n := 63) (k := 8) (x := "script") (CX := fun w => CXE l.prog w) (sp := fun w => spLaw (K w.params)) hn (by decide) hdf ⟨rfl, by decide, by decide⟩ hY F (fun _ _ a ns hl hb _ hS => ⟨a, ns, rfl, hS, hl, hb, fun _ => rfl⟩) fun _ _ _ _ _ z => noneE z
end K75
open PySem PySem.W PyProof.Rows
set_option maxRecDepth 100000 in
set_option maxHeartbeats 0 in
theorem PySem.Challenge.cw_stillheap_k75_no_logs_texts_holds : PySem.Challenge.rw_stillheap_k75_no_logs_texts.Holds := by
  w_on; o_law; k_head; (case hw => w_witness2)
  k_fill
  refine K75.walk (l := PySem.Challenge.rw_stillheap_k75_no_logs_texts) rfl rfl (fun w h Y => PySem.W.kIn_of Y) ?F
  case F =>
    intro w mg fa h KX G hmg
    refine' K75.all_mk KX G hmg ?g1 ?g2 ?g3 ?g4 ?gF ?lF ?kF ?oF ?tF ?nCH ?ndT ?ndA ?ndB ?ndV ?xH ?xT ?ga ?gt ?gc ?ii ?kc ?fi ?fv ?sb ?nt ?ky ?mc ?mfc ?rd ?fc ?cga ?md ?sa ?no ?lXI ?cXI ?kXI ?lI ?cI ?kI ?lCA ?cCA ?kCA ?a1 ?l1 ?c1 ?k1 ?a2 ?l2 ?c2 ?k2 ?a3 ?l3 ?c3 ?k3 ?a4 ?l4 ?c4 ?k4 ?a5 ?l5 ?c5 ?k5 ?a9 ?l9 ?c9 ?k9 ?a10 ?l10 ?c10 ?k10 ?a13 ?l13 ?c13 ?k13 ?a14 ?l14 ?c14 ?k14 ?a19 ?l19 ?c19 ?k19 ?a18 ?l18 ?c18 ?k18 ?z_isinstance ?z_bool ?z_int ?z_len ?z_all ?z_zip ?z_tuple ?z_ValueError
    (case g1 => k_is)
    (case g2 => k_is)
    (case g3 => k_is)
    (case g4 => k_is)
    (case gF => k_is)
    (case lF => k_is)
    (case kF => k_keys)
    (case oF => decide)
    (case tF => kernel_rfl)
    (case nCH => k_is)
    (case ndT => k_is)
    (case ndA => k_is)
    (case ndB => k_is)
    (case ndV => k_is)
    (case xH => kernel_rfl)
    (case xT => kernel_rfl)
    (case ga => k_is)
    (case gt => k_is)
    (case gc => k_is)
    (case ii => k_is)
    (case kc => k_is)
    (case fi => k_is)
    (case fv => kernel_rfl)
    (case sb => k_is)
    (case nt => kernel_rfl)
    (case ky => kernel_rfl)
    (case mc => k_is)
    (case mfc => k_is)
    (case rd => k_is)
    (case fc => k_is)
    (case cga => k_is)
    (case md => kernel_rfl)
    (case sa => k_is)
    (case no => k_is)
    (case lXI => k_is)
    (case cXI => k_is)
    (case kXI => k_is)
    (case lI => k_is)
    (case cI => k_is)
    (case kI => k_is)
    (case lCA => k_is)
    (case cCA => k_is)
    (case kCA => k_is)
    (case a1 => k_is)
    (case l1 => k_is)
    (case c1 => k_is)
    (case k1 => k_is)
    (case a2 => k_is)
    (case l2 => k_is)
    (case c2 => k_is)
    (case k2 => k_is)
    (case a3 => k_is)
    (case l3 => k_is)
    (case c3 => k_is)
    (case k3 => k_is)
    (case a4 => k_is)
    (case l4 => k_is)
    (case c4 => k_is)
    (case k4 => k_is)
    (case a5 => k_is)
    (case l5 => k_is)
    (case c5 => k_is)
    (case k5 => k_is)
    (case a9 => k_is)
    (case l9 => k_is)
    (case c9 => k_is)
    (case k9 => k_is)
    (case a10 => k_is)
    (case l10 => k_is)
    (case c10 => k_is)
    (case k10 => k_is)
    (case a13 => k_is)
    (case l13 => k_is)
    (case c13 => k_is)
    (case k13 => k_is)
    (case a14 => k_is)
    (case l14 => k_is)
    (case c14 => k_is)
    (case k14 => k_is)
    (case a19 => k_is)
    (case l19 => k_is)
    (case c19 => k_is)
    (case k19 => k_is)
    (case a18 => k_is)
    (case l18 => k_is)
    (case c18 => k_is)
    (case k18 => k_is)
    (case z_isinstance => k_is)
    (case z_bool => k_is)
    (case z_int => k_is)
    (case z_len => k_is)
    (case z_all => k_is)
    (case z_zip => k_is)
    (case z_tuple => k_is)
    (case z_ValueError => k_is)
#print axioms PySem.Challenge.cw_stillheap_k75_no_logs_texts_holds
end
